import PyProof.Rows.All
import Wide.All
import OpenK.AllK
import Wide.FinOn
import Lean
import PyProof.EqAt
import PyProof.EqKinds
import PyProof.TupleCall
import KE.KUnpack
import PyProof.StrWalks
import PyProof.Rows.Range3
import PyProof.NeKinds
import PyProof.FactsAll.tuple_2
import PyProof.WalksMore
import KE.KIntText
import PyProof.AttrMissHeap
import KE.KDictOf
import PyProof.ExcBaseAll.ValueError
import KE.KTryMore
import PyProof.Rows.CallKwBuiltin
import PySem.Challenge.RW_mixform_k23_whole_sums
set_option Elab.async false
set_option linter.all false
set_option maxRecDepth 100000
set_option maxHeartbeats 4000000
set_option bootstrap.genMatcherCode false
set_option genSizeOf false
set_option genInjectivity false
set_option compiler.extract_closed false
local macro_rules|`(#[$a,$b,*])=>`(⟨$a,$b,*⟩)
local macro_rules(kind:=Lean.Parser.Command.declaration)|s=>if s.getPos?.isSome then pure ((if s[0].getPos?.isNone∧(s[1][0].isToken "def"∨s[1][0].isToken "abbrev")then s.modifyArg 0 (·.setArg 4 (.node .none `null #[.node .none `Lean.Parser.Command.noncomputable #[.atom .none "noncomputable"]]))else s).rewriteBottomUp (·.setInfo .none))else Lean.Macro.throwUnsupported
local macro_rules(kind:=Lean.Parser.Command.mutual)|s=>if s.getPos?.isSome then pure (s.rewriteBottomUp (·.setInfo .none))else Lean.Macro.throwUnsupported
local macro_rules|`(⋯)=>`(by lia)
open Option renaming some→y',none→B'
open Bool renaming true→G',false→J'
namespace Lake
section
open PySem PySem.W PySem.Spec PyProof.Rows
def WZ:=@wpAny_bind
def W0:=@Option.bind_eq_some_iff
def W1:=@Heap.get?_push_of_some
def W2:=@wpAny_pure
def W3:=@Bool.and_eq_true
def W4:=@List.size_toArray
def W5:=@of_decide_eq_true
def W6:=@List.getElem?_eq_some_iff
def W7:=@List.mem_cons_of_mem
def W8:=@kasC_bind
def W9:=@Nat.le_refl
def Xa:=@List.mem_cons_self
def Xb:=@Heap.get?_push_size
def Xc:=@kasC_pure
def Xd:=@List.length_map
def Xe:=@Heap.lt_size
def Xf:=@Nat.le_trans
def Xg:=@List.mem_cons
def Xh:=@List.not_mem_nil
def Xi:=@List.append_assoc
def Xj:=@Option.map_eq_some_iff
def Xk:=@List.length_append
def Xl:=@List.getElem?_set_ne
def Xm:=@List.length_cons
def Xn:=@List.getElem?_map
def Xo:=@Array.length_toList
def Xp:=@Nat.lt_of_lt_of_le
def Xq:=@List.mem_append
def Xr:=@eq_of_beq
def Xs:=@List.getElem?_eq_getElem
def Xt:=@decide_eq_false
def Xu:=@List.lookup_cons
def Xv:=@KeyOrd.kle_trans
def Xw:=@Heap.get?_update_other
def Xx:=@decide_eq_true
def Xy:=@Heap.size_push
def Xz:=@Nat.ne_of_lt
def XA:=@List.mem_append_right
def XB:=@wpAny_setField_rec
def XC:=@List.mem_singleton
def XD:=@List.mem_map
def XF:=@List.all_eq_true
def XH:=@List.any_eq_true
def XI:=@Int.emod_nonneg
def XJ:=@Int.emod_lt_of_pos
def XM:=@List.append_nil
def XN:=@Bool.or_eq_true
def XO:=@List.getElem?_append_left
def XQ:=@List.getElem?_append_right
def XR:=@List.map_cons
def XS:=@List.map_append
def XT:=@List.getElem?_set_self
def XU:=@List.mem_range
def XW:=@Array.eq_empty_of_size_eq_zero
def XX:=@Array.getD_eq_getD_getElem?
def XY:=@Array.toList_append
def XZ:=@Array.toList_extract
def X0:=@Array.toList_inj
def X2:=@Array.toList_reverse
def X3:=@Bool.and_false
def X4:=@Bool.and_true
def X5:=@Bool.eq_iff_iff
def X6:=@Bool.false_eq_true
def X7:=@Bool.false_ne_true
def X8:=@Bool.not_eq_true'
def X9:=@Bool.not_true
def Ya:=@Bool.or_eq_true_iff
def Yb:=@Bool.or_true
def Yc:=@Classical.byContradiction
def Ye:=@F.args_tuple_iterator_next_1
def Yf:=@F.entry_tuple_iterator_next
def Yg:=@F.slot_tuple_iterator_next
def Yh:=@F.slot_zip_next
def Yi:=@Int.le_refl
def Yj:=@Int.lt_or_gt_of_ne
def Yk:=@Int.mul_assoc
def Yl:=@Int.mul_comm
def Ym:=@Int.mul_le_mul_of_nonneg_left
def Yn:=@Int.mul_le_mul_of_nonneg_right
def Yo:=@Int.mul_nonneg
def Yp:=@Int.mul_zero
def Yq:=@Int.natAbs_mul
def Yr:=@Int.natCast_mul
def Ys:=@Int.sub_self
def Yt:=@Int.sub_zero
def Yu:=@Int.toNat_natCast
def Yv:=@Int.zero_add
def Yw:=@Int.zero_mul
def Yx:=@KeyOrd.kle_of_klt
def Yy:=@KeyOrd.kle_refl
def Yz:=@KeyOrd.klt_of_kle_of_klt
def YA:=@KeyOrd.klt_of_klt_of_kle
def YB:=@List.Perm.append_left
def YC:=@List.Perm.refl
def YD:=@List.all_cons
def YE:=@List.any_eq_false
def YF:=@List.any_map
def YG:=@List.cons.injEq
def YH:=@List.cons_append
def YI:=@List.dropLast_concat_getLast
def YJ:=@List.drop_eq_getElem_cons
def YK:=@List.drop_of_length_le
def YL:=@List.drop_sublist
def YM:=@List.eq_nil_of_length_eq_zero
def YN:=@List.eq_of_mem_replicate
def YO:=@List.exists_mem_of_ne_nil
def YQ:=@List.filterMap_cons
def YR:=@List.flatMap_cons
def YS:=@List.flatten_cons
def YT:=@List.forIn_cons
def YU:=@List.getD_eq_getElem?_getD
def YV:=@List.getElem?_replicate
def YW:=@List.getElem?_set
def YX:=@List.getElem?_take_of_lt
def YY:=@List.getElem_mem
def YZ:=@List.getElem_of_mem
def Y0:=@List.getElem_toArray
def Y1:=@List.length_drop
def Y2:=@List.length_nil
def Y3:=@List.length_range
def Y4:=@List.length_range'
def Y5:=@List.length_replicate
def Y6:=@List.length_set
def Y7:=@List.length_singleton
def Y8:=@List.length_take
def Y9:=@List.length_zip
def Za:=@List.map_congr_left
def Zb:=@List.map_flatMap
def Zc:=@List.map_map
def Zd:=@List.map_nil
def Ze:=@List.mem_append_left
def Zf:=@List.mem_filter
def Zg:=@List.mem_filterMap
def Zh:=@List.mem_flatMap
def Zi:=@List.mem_iff_getElem?
def Zj:=@List.mem_of_getElem?
def Zk:=@List.mem_of_mem_take
def Zl:=@List.nil_append
def Zm:=@List.nodup_cons
def Zn:=@List.of_mem_zip
def Zo:=@List.pairwise_append
def Zq:=@List.pairwise_cons
def Zr:=@List.pairwise_iff_getElem
def Zs:=@List.pairwise_map
def Zt:=@List.perm_append_comm
def Zu:=@List.replicate_succ
def Zv:=@List.set_eq_take_append_cons_drop
def Zw:=@List.sum_cons
def Zx:=@List.take_add_one
def Zy:=@List.take_append_drop
def Zz:=@List.take_length
def ZA:=@List.take_of_length_le
def ZC:=@List.take_sublist
def ZD:=@List.take_succ_cons
def ZE:=@List.take_zero
def ZF:=@List.zipIdx_cons
def ZG:=@List.zip_cons_cons
def ZH:=@List.zip_nil_left
def ZI:=@List.zip_nil_right
def ZJ:=@Nat.le_mul_of_pos_left
def ZK:=@Nat.le_of_lt
def ZL:=@Nat.le_succ
def ZM:=@Nat.lt_irrefl
def ZN:=@Nat.lt_of_le_of_lt
def ZO:=@Nat.lt_succ_of_lt
def ZP:=@Nat.lt_succ_self
def ZQ:=@Nat.mul_le_mul
def ZR:=@Nat.mul_le_mul_right
def ZS:=@Nat.ne_of_gt
def ZT:=@Nat.sub_self
def ZU:=@Nat.succ_mul
def ZV:=@Nat.zero_add
def ZW:=@Nat.zero_le
def ZX:=@Ne.symm
def ZY:=@Option.some.inj
def ZZ:=@PyProof.Rows.callWith_type1
def Z0:=@PyProof.Rows.slot_tuple_getitem
def Z1:=@PySem.F.args_tuple_add_2
def Z2:=@PySem.F.entry_tuple_add
def Z3:=@PySem.F.slot_tuple_add
def Z4:=@PySem.F.slot_tuple_mul
def Z5:=@PySem.W.cellsFrom_some
def Z6:=@PySem.W.kia_one
def Z7:=@PySem.mem_of_lookup
def Z8:=@beq_eq_false_iff_ne
def Z9:=@beq_self_eq_true
def aaa:=@call_meets
def aab:=@congrArg
def aac:=@decide_eq_true_eq
def aad:=@if_false
def aae:=@if_neg
def aaf:=@if_pos
def aag:=@if_true
def aah:=@kasC_get
def aai:=@kasC_lift
def aaj:=@kasC_modify
def aak:=@kasC_range
def aal:=@noFill_tuple_add
def aam:=@of_decide_eq_false
def aan:=@or_false
def aao:=@pushCells_keeps
def aap:=@sizeLine_eq
def aaq:=@wpAny_Call_Name_kw
def aar:=@wpAny_callSpecial?_slot
def aas:=@wpAny_call_entry
def aat:=@wpAny_field
def aau:=@wpAny_holding
def aav:=@wpAny_mono
def aaw:=@wpAny_newObj_type
def aax:=@wpAny_onRaise
def aay:=@wpAny_passesOwn
def aaz:=@wpAny_pyIter_list
def aaA:=@wpAny_pyIter_tuple
def aaB:=@wpAny_rule
def aaC:=@wpAny_seqItems
def aaD:=@wpAny_standAt
def aaE:=@wpAny_truthy_bool
def aaF:=@wpAny_typeOf
def aaG:=@wpAny_updateSeq_pair
end
section
namespace L2
open PySem PySem.Spec PyProof.Rows
abbrev Key:=Sum Int Str
def Gr:Key->Value->Bool
 |.inl k,v=>Value.isInt k v
 |.inr x,v=>Value.isStrOf x v
def Ry(w:World):Key->Int
 |.inl k=>hashInt k
 |.inr x=>hashStr w x
theorem bz:∀{k:Key}{v:Value},Gr k v=G'->(∃i t,k=Sum.inl i/\v=Value.int i t)\/(∃x t,k=Sum.inr x/\v=Value.str x t)
 |.inl i,v,h=>by obtain⟨t,e⟩:=Value.isInt_shape h;exact .inl #[i,t,rfl,e]
 |.inr x,v,h=>by obtain⟨t,e⟩:=Value.isStrOf_shape h;exact .inr #[x,t,rfl,e]
theorem IA(a b):decide ((Sum.inl a:Key)=Sum.inl b)=(a==b):=by
 by_cases e:a=b
 ·subst e;simp
 ·have h:¬(Sum.inl a:Key)=Sum.inl b:=λq=>e (Sum.inl.inj q)
  rw[Xt h];exact(Z8.mpr e).symm
theorem IE(a b):decide ((Sum.inr a:Key)=Sum.inr b)=decide (a=b):=by
 by_cases e:a=b
 ·subst e;simp
 ·have h:¬(Sum.inr a:Key)=Sum.inr b:=λq=>e (Sum.inr.inj q)
  rw[Xt h,Xt e]
theorem IC(a)(b):decide ((Sum.inl a:Key)=Sum.inr b)=J':=Xt λq=>nomatch q
theorem ID(a)(b):decide ((Sum.inr a:Key)=Sum.inl b)=J':=Xt λq=>nomatch q
def qy(prog)(w):PySem.KeyKind prog w Key where
 is:=Gr
 hash:=Ry w
 inj:=λv a b ha hb=>by
  rcases bz ha with ⟨i,t,rfl,rfl⟩|⟨x,t,rfl,rfl⟩
  ·rcases bz hb with ⟨j,u,rfl,e⟩|⟨y,u,rfl,e⟩
   ·injection e with e1 _;rw[e1]
   ·exact nomatch e
  ·rcases bz hb with ⟨j,u,rfl,e⟩|⟨y,u,rfl,e⟩
   ·exact nomatch e
   ·injection e with e1 _;rw[e1]
 byValue:=λk v h=>by rcases bz h with ⟨i,t,rfl,rfl⟩|⟨x,t,rfl,rfl⟩<;>rfl
 pyHash:=λhv h=>by
  rcases bz hv with ⟨i,t,rfl,rfl⟩|⟨x,t,rfl,rfl⟩
  ·exact wpAny_pyHash_int h
  ·exact wpAny_pyHash_str h
 eqBool:=λhu hv h=>by
  rcases bz hu with ⟨i,t,rfl,rfl⟩|⟨x,t,rfl,rfl⟩
  ·rcases bz hv with ⟨j,u,rfl,rfl⟩|⟨y,u,rfl,rfl⟩
   ·rw[IA]at h;exact wpAny_eqBool_int h
   ·rw[IC]at h;exact SeqAt.EqAt.int_str i t y u _ _ _ _ h
  ·rcases bz hv with ⟨j,u,rfl,rfl⟩|⟨y,u,rfl,rfl⟩
   ·rw[ID]at h;exact SeqAt.EqAt.str_int x t j u _ _ _ _ h
   ·rw[IE]at h;exact wpAny_eqBool_str h
 «strs»:=λk x t v h=>by
  rcases bz h with ⟨i,u,rfl,e⟩|⟨y,u,rfl,e⟩
  ·exact nomatch e
  ·injection e with e1 _;subst e1;cases v<;>rfl
end L2
namespace L2
open PySem PySem.Spec PyProof.Rows
inductive V where
 |bj|bl (b:Bool)|int (i:Int)|str (x:Str)|Hr (b:Array UInt8)|C3 (b:UInt64)|ref (a:Addr)|ty (n:String)
 deriving DecidableEq
def RelV:V->Value->Prop
 |.bj,u=>u=Value.none
 |.bl b,u=>u=Value.bool b
 |.int i,u=>∃t,u=Value.int i t
 |.str x,u=>∃t,u=Value.str x t
 |.Hr b,u=>∃t,u=Value.bytes b t
 |.C3 b,u=>∃t,u=Value.float b t
 |.ref a,u=>u=Value.ref a
 |.ty n,u=>u=Value.type n
abbrev aw:List V->List Value->Prop:=Paired RelV
theorem aw.length(r:aw xs us):xs.length=us.length:=Paired.length r
theorem aw.get:∀{xs:List V}{c:List Value}{i:Nat}{x:V},aw xs c->xs[i]?=y' x->∃u,c[i]?=y' u/\RelV x u
 |_,_,_,_,.nil,e=>by simp at e
 |_,_,0,_,.cons r _,e=>by simp at e;subst e;exact#[_,rfl,r]
 |_,_,i+1,x,.cons _ t,e=>by obtain⟨u,Z,Y⟩:=aw.get t (by simpa using e);exact#[u,by simpa using Z,Y]
theorem aw.set(r:RelV x u):∀{xs:List V}{c:List Value}(i:Nat),aw xs c->aw (xs.set i x) (c.set i u)
 |_,_,_,.nil=>.nil
 |_,_,0,.cons _ t=>.cons r t
 |_,_,i+1,.cons q t=>.cons q<|aw.set r i t
theorem aw.append:∀{xs k:List V}{c j:List Value},aw xs c->aw k j->aw (xs++k) (c++j)
 |_,_,_,_,.nil,s=>s
 |_,_,_,_,.cons r t,s=>.cons r<|aw.append t s
theorem aw.take:∀{xs:List V}{c:List Value}(n:Nat),aw xs c->aw (xs.take n) (c.take n)
 |_,_,0,_=>.nil
 |_,_,_+1,.nil=>.nil
 |_,_,n+1,.cons r t=>.cons r<|aw.take n t
theorem aw.drop:∀{xs:List V}{c:List Value}(n:Nat),aw xs c->aw (xs.drop n) (c.drop n)
 |_,_,0,r=>r
 |_,_,_+1,.nil=>.nil
 |_,_,n+1,.cons _ t=>aw.drop n t
def G2:Option V->Option Value->Prop
 |some v,y' u=>RelV v u
 |none,B'=>True
 |_,_=>False
def KV{κ:Type}:List (κ×V)->List (κ×Value)->Prop:=Paired λ(p:κ×V)(q:κ×Value)=>p.1=q.1/\RelV p.2 q.2
def kV:Key->V
 |.inl i=>.int i
 |.inr x=>.str x
inductive HO where
 |lst (xs:List V)
 |tup (xs:List V)
 |dK (eF:List (Key×V))|dT (eF:List (List Key×V))
 |set (S:Int->Bool) (n:Nat)
 |ins (C dx:Addr) (fs:List (Str×V))
 |own (x:Addr)
 |xd (fs:List (Str×V))
 |met (f x:Addr)
 |Sa (lo hi:Int)
 |yl (o:Obj) (u:HO)
 |zG (ps:Array Value)
 |ext (φ:Heap->Prop)
abbrev Hp:=Addr->Option HO
def upd(H:Hp)(a:Addr)(o:HO):Hp:=λb=>if b=a then y' o else H b
theorem aQ:upd H a o a=y' o:=by unfold upd;rw[aaf rfl]
theorem aN(h:b≠a):upd H a o b=H b:=by unfold upd;rw[aae h]
theorem br{H:Hp}(h:H a=y' o)(y:H b=B'):a≠b:=by intro e;subst e;rw[h]at y;cases y
def oq(h:Heap)(a:Addr)(i:Array Value):Prop:=∃o,h.get? a=y' o/\o.cls= .type "tuple"/\∃n,o.data= .seq i n/\o.dict=B'/\o.slots=#[]
theorem oq.is:oq h a items->IsTup h a items
 |#[o,a,b,n,c,_]=>#[o,a,b,n,c]
theorem oq.new(h:Heap)(i):oq (h.push {cls:=.type "tuple",data:=.seq i}) h.objs.size i:=#[_,Xb _ rfl,rfl,_,rfl,rfl,rfl]
section
variable(P:Program)(w:World)
def dZ(H:Hp)(h:Heap)(a:Addr):HO->Prop
 |.lst xs=>xs.length<=sizeLine/\∃(ak:List Value)(n:Nat),aw xs ak/\h.get? a=y' {cls:=.type "list",data:=.seq ak.toArray n}
 |.tup xs=>xs.length<=sizeLine/\∃ak:List Value,aw xs ak/\oq h a ak.toArray
 |.dK eF=>eF.length<=sizeLine/\(a==sysModules)=J'/\∃vs,KV eF vs/\h.DictOf (qy P w) a vs
 |.dT eF=>eF.length<=sizeLine/\(a==sysModules)=J'/\∃xs:List (List Key×Addr×Value),
   Paired (λ(p:List Key×V)(q:List Key×Addr×Value)=>p.1=q.1/\H q.2.1=y' (.tup<|p.1.map kV)/\RelV p.2 q.2.2) eF xs/\
   ∃o es ep,h.get? a=y' o/\o.ExactDict/\o.data= .dict es ep/\es.toList=xs.map (entryOfKey<|tupleKind<|qy P w)/\(xs.map (·.1)).Nodup
 |.set S n=>h.SetOf (intKind P w) a S n
 |.ins C dx fs=>H dx=y' (.own a)/\fs.length<=1000/\dx≠a/\h.get? a=y' (PySem.W.instObj C dx)/\
   ∃mA,h.Ns1 dx mA/\(∀f,G2 (fs.lookup f)<|mA f)/\PySem.Within mA (fs.map (·.1))
 |.own _=>∃o,h.get? a=y' o
 |.xd fs=>∃mA,h.Ns1 a mA/\∀f,G2 (fs.lookup f) (mA f)
 |.Sa lo hi=>∃t u v,h.get? a=y' {cls:=.type "range",data:=.fields [.int lo t,.int hi u,.int 1 v].toArray}
 |.yl o u=>h.get? a=y' o/\dZ H h a u
 |.zG ps=>h.get? a=y' {cls:=.none,data:=.fields ps}
 |.met f x=>h.get? a=y' (PySem.W.methodObj (.ref f)<|.ref x)
 |.ext φ=>φ h/\(∃o,h.get? a=y' o)/\∀h1 h2:Heap,φ h1->(∀o,h1.get? a=y' o->h2.get? a=y' o)->φ h2
def eS(H:Hp)(h:Heap):Prop:=∀a o,H a=y' o->dZ P w H h a o
end
section
variable{P:Program}{w:World}{H H':Hp}{h h':Heap}{a:Addr}{o:HO}
theorem dZ.lt(x:dZ P w H h a o):a<h.objs.size:=by
 cases o with
 |lst xs=>obtain⟨_,_,_,_,e⟩:=x;exact Xe e
 |tup xs=>obtain⟨_,_,_,p⟩:=x;exact p.is.lt
 |dK L=>obtain⟨_,_,_,_,o,_,_,e,_⟩:=x;exact Xe e
 |dT L=>obtain⟨_,_,_,_,o,_,_,e,_⟩:=x;exact Xe e
 |set S n=>obtain⟨o,_,_,_,e,_⟩:=x;exact Xe e
 |ins C B fs=>obtain⟨_,_,_,e,_⟩:=x;exact Xe e
 |own y=>obtain⟨_,e⟩:=x;exact Xe e
 |xd fs=>obtain⟨_,⟨_,_,_,e,_⟩,_⟩:=x;exact Xe e
 |Sa lo hi=>obtain⟨_,_,_,e⟩:=x;exact Xe e
 |yl Z u=>obtain⟨e,_⟩:=x;exact Xe e
 |zG ps=>exact Xe<|x
 |met f y=>exact Xe<|x
 |ext g=>obtain⟨_,⟨_,e⟩,_⟩:=x;exact Xe e
theorem Paired.MY:∀{g:List α}{c:List β},Paired F g c->(∀a b,F a b->G a b)->Paired G g c
 |_,_,.nil,_=>.nil
 |_,_,.cons r t,f=>.cons (f _ _ r)<|Paired.MY t f
theorem dZ.qX(x:dZ P w H h a o)(k:∀b u,(b=a\/H b=y' (.own a))->h.get? b=y' u->h'.get? b=y' u)
  (j:∀b,H b=y' (.own a)->H' b=y' (.own a)) (J:∀b xs,H b=y' (.tup xs)->H' b=y' (.tup xs)):dZ P w H' h' a o:=by
 induction o with
 |lst xs=>obtain⟨z,E,n,r,e⟩:=x;exact#[z,E,n,r,k _ _ (.inl rfl) e]
 |tup xs=>obtain⟨z,E,r,Z,e,c⟩:=x;exact#[z,E,r,Z,k _ _ (.inl rfl) e,c]
 |dK L=>obtain⟨z,y,U,r,Z,es,Q,e,c⟩:=x;exact#[z,y,U,r,Z,es,Q,k _ _ (.inl rfl) e,c]
 |dT L=>obtain⟨z,y,xs,r,Z,es,Q,e,c⟩:=x;exact#[z,y,xs,Paired.MY r λp q z=>#[z.1,J _ _ z.2.1,z.2.2],Z,es,Q,k _ _ (.inl rfl) e,c]
 |set S n=>obtain⟨Z,es,Q,t,e,c⟩:=x;exact#[Z,es,Q,t,k _ _ (.inl rfl) e,c]
 |ins C B fs=>obtain⟨d,z,ne,e,l,⟨od,es,Q,e2,c⟩,r⟩:=x;exact#[j _ d,z,ne,k _ _ (.inl rfl) e,l,#[od,es,Q,k _ _ (.inr d) e2,c],r]
 |own y=>obtain⟨Z,e⟩:=x;exact#[Z,k _ _ (.inl rfl) e]
 |xd fs=>obtain⟨l,⟨od,es,Q,e,c⟩,r⟩:=x;exact#[l,#[od,es,Q,k _ _ (.inl rfl) e,c],r]
 |Sa lo hi=>obtain⟨t,u,v,e⟩:=x;exact#[t,u,v,k _ _ (.inl rfl) e]
 |yl Z u O=>obtain⟨e,q⟩:=x;exact#[k _ _ (.inl rfl) e,O q]
 |zG ps=>have e:=x;exact k a _ (.inl rfl) e
 |met f y=>have e:=x;exact k a _ (.inl rfl) e
 |ext g=>obtain⟨p,⟨o,e⟩,st⟩:=x;exact#[st _ _ p λo q=>k _ _ (.inl rfl) q,#[o,k _ _ (.inl rfl) e],st]
theorem eS.lt(x:eS P w H h)(e:H a=y' o):a<h.objs.size:=(x a o e).lt
theorem eS.fresh(x:eS P w H h)(e:h.objs.size<=a):H a=B':=by
 cases q:H a with
 |none=>rfl
 |some u=>exact absurd (Xp (x.lt q) e)<|ZM _
theorem eS.kept(x:eS P w H h)(k:∀b u,h.get? b=y' u->h'.get? b=y' u):eS P w H h':=λa o e=>
 (x a o e).qX (λb u _ q=>k b u q) (λ_ q=>q) λ_ _ q=>q
theorem eS.laid(x:eS P w H h)(k:∀b u,h.get? b=y' u->h'.get? b=y' u)(B:h.objs.size<=a)(g:dZ P w (upd H a o) h' a o):eS P w (upd H a o) h':=λb u e=>by
 have I:=x.fresh B;by_cases L:b=a
 ·subst L;rw[aQ]at e;cases e;exact g
 ·rw[aN L]at e;exact(x b u e).qX (λc v _ q=>k c v q) (λc q=>by rw[aN (br q I)];exact q) λc xs q=>by rw[aN (br q I)];exact q
end
def Rd(H:Hp)(a:Addr)(u:HO):Prop:=H a=y' u\/∃o,H a=y' (.yl o u)
theorem Rd.ok(r:Rd H a u)(x:eS P w H h):dZ P w H h a u:=by
 rcases r with r|⟨o,r⟩
 ·exact x a u r
 ·obtain⟨_,q⟩:=x a _ r;exact q
def Pa:Option HO->Prop
 |some (.lst _)=>True
 |some (.dK _)=>True
 |some (.dT _)=>True
 |some (.set _ _)=>True
 |some (.ins _ _ _)=>True
 |some (.ext _)=>True
 |_=>False
section
variable{P:Program}{w:World}{H:Hp}{h h':Heap}{x e:Addr}{o':HO}
theorem eS.write(ok:eS P w H h)(i:Pa (H x))(K:e=x\/H e=y' (.own x))(k:∀b u,b≠e->h.get? b=y' u->h'.get? b=y' u)(j:∃u,h'.get? e=y' u)
  (g:dZ P w (upd H x o') h' x o'):eS P w (upd H x o') h':=λb u q=>by
 have l:∀c y,H c=y' (.own y)->c≠x:=λc y r z=>by subst z;rw[r]at i;exact i
 have m:∀c xs,H c=y' (.tup xs)->c≠x:=λc xs r z=>by subst z;rw[r]at i;exact i
 by_cases L:b=x
 ·subst L;rw[aQ]at q;cases q;exact g
 ·rw[aN L]at q;by_cases a:b=e
  ·have q':H b=y' (.own x):=by
    rcases K with z|z
    ·exact absurd (a.trans z) L
    ·rw[a];exact z
   rw[q]at q';cases q';obtain⟨v,M⟩:=j;exact#[v,by rw[a];exact M]
  ·refine(ok b u q).qX (λc v J r=>k c v ?_ r) (λc r=>by rw[aN (l c b r)];exact r) λc xs r=>by rw[aN (m c xs r)];exact r
   rcases J with rfl|J
   ·exact a
   ·rintro rfl;rcases K with z|z
    ·exact l c b J z
    ·rw[J]at z;cases z;exact L rfl
end
structure Un(fs ex:List Addr)(H H':Hp)(h h':Heap):Prop where
 keep:∀b o,h.get? b=y' o->H b=B'->b∉fs->b∉ex->h'.get? b=y' o
 slot:∀b o,h.get? b=y' o->H b=B'->b∈fs->b∉ex->∃sl,h'.get? b=y' {o with slots:=sl}
 free:∀b o,h.get? b=y' o->H b=B'->b∉ex->H' b=B'
 there:∀b o,h.get? b=y' o->b∉ex->∃o',h'.get? b=y' o'
 tups:∀b xs,H b=y' (.tup xs)->H' b=y' (.tup xs)
 frzs:∀b o u,H b=y' (.yl o u)->H' b=y' (.yl o u)
 tbls:∀b ps,H b=y' (.zG ps)->∃more,H' b=y' (.zG<|ps++more)
section
variable{fs ex:List Addr}{H H1 H2:Hp}{h h1 h2 h':Heap}{a x e:Addr}{o:HO}
theorem Un.any(u:Un fs ex H H1 h h1)(q:h.get? b=y' ob)(n:H b=B')(U:b∉ex):∃Y,h1.get? b=y' {ob with slots:=Y}:=by
 by_cases L:b∈fs
 ·exact u.slot b ob q n L U
 ·exact#[ob.slots,u.keep b ob q n L U]
theorem Un.trans(a:Un fs ex H H1 h h1)(b:Un fs ex H1 H2 h1 h2):Un fs ex H H2 h h2 where
 keep:=λc Z q n J U=>b.keep c Z (a.keep c Z q n J U) (a.free c Z q n U) J U
 slot:=λc Z q n J U=>by obtain⟨Y,e1⟩:=a.slot c Z q n J U;obtain⟨A,e2⟩:=b.slot c _ e1 (a.free c Z q n U) J U;exact#[A,e2]
 free:=λc Z q n U=>by obtain⟨w,e1⟩:=a.there c Z q U;exact b.free c w e1 (a.free c Z q n U) U
 there:=λc Z q U=>by obtain⟨w,e1⟩:=a.there c Z q U;exact b.there c w e1 U
 tups:=λc xs q=>b.tups c xs (a.tups c xs q)
 frzs:=λc Z xs q=>b.frzs c Z xs (a.frzs c Z xs q)
 tbls:=λc ps q=>by obtain⟨m1,e1⟩:=a.tbls c ps q;obtain⟨S,e2⟩:=b.tbls c _ e1;exact#[m1++S,by rw[e2,Array.append_assoc]]
theorem Un.kept(k:∀b u,h.get? b=y' u->h'.get? b=y' u):Un fs ex H H h h':=
 #[λb Z q _ _ _=>k b Z q,λb Z q _ _ _=>#[Z.slots,k b Z q],λ_ _ _ n _=>n,λb Z q _=>#[Z,k b Z q],λ_ _ q=>q,λ_ _ _ q=>q,λ_ ps q=>#[#[],by rw[q];simp]]
theorem Un.refl:Un fs ex H H h h:=Un.kept λ_ _ q=>q
theorem Un.laid(k:∀b u,h.get? b=y' u->h'.get? b=y' u)(B:h.objs.size<=a)(I:H a=B'):Un fs ex H (upd H a o) h h' where
 keep:=λb u q _ _ _=>k b u q
 slot:=λb u q _ _ _=>#[u.slots,k b u q]
 free:=λb u q n _=>by rw[aN (Xz<|Xp (Xe q) B)];exact n
 there:=λb u q _=>#[u,k b u q]
 tups:=λb xs q=>by rw[aN (br q I)];exact q
 frzs:=λb u xs q=>by rw[aN (br q I)];exact q
 tbls:=λb ps q=>#[#[],by rw[aN (br q I),q];simp]
theorem Un.write(i:Pa (H x))(K:e=x\/H e=y' (.own x))(k:∀b u,b≠e->h.get? b=y' u->h'.get? b=y' u)(j:∃u,h'.get? e=y' u):Un fs ex H (upd H x o) h h':=by
 have U:∀b,H b=B'->b≠x:=λb n z=>by subst z;rw[n]at i;exact i
 have L:∀b,H b=B'->b≠e:=λb n z=>by
  subst z;rcases K with r|r
  ·exact U b n r
  ·rw[n]at r;cases r
 have E:∀b u,H b=y' u->¬Pa (y' u)->b≠x:=λb u q nm z=>by subst z;rw[q]at i;exact nm i
 refine#[λb u q n _ _=>k b u (L b n) q,λb u q n _ _=>#[u.slots,k b u (L b n) q],λb u q n _=>by rw[aN (U b n)];exact n,λb u q _=>?_,
  λb xs q=>by rw[aN (E b _ q λz=>z)];exact q,λb u xs q=>by rw[aN (E b _ q λz=>z)];exact q,λb ps q=>#[#[],by rw[aN (E b _ q λz=>z),q];simp]]
 by_cases a:b=e
 ·subst a;exact j
 ·exact#[u,k b u a q]
end
def Ki(h:Heap)(H:Hp):List Addr:=(List.range h.objs.size).filter λa=>(H a).isSome
def qr(h:Heap)(H:Hp):Heap:=PySem.W.hideAll h<|Ki h H
theorem yz(h:Heap)(H):(qr h H).objs.size=h.objs.size:=PySem.W.hideAll_size _ _
theorem Be(e:h.get? b=y' o)(n:H b=B'):(qr h H).get? b=y' o:=
 PySem.W.hideAll_get _ e λE=>by have q:=(Zf.mp E).2;rw[n]at q;simp at q
theorem Ew(e:(qr h H).get? b=y' o):h.get? b=y' o/\H b=B':=by
 have J:=PySem.W.of_hideAll (Ki h H) e;refine#[J,?_];cases q:H b with
 |none=>rfl
 |some x=>have E:b∈Ki h H:=Zf.mpr #[XU.mpr<|Xe J,by simp[q]];have z:(qr h H).get? b=B':=PySem.W.hideAll_none (Ki h H) E;rw[z]at e;cases e
end L2
namespace L2
open PySem PySem.Spec PyProof.Rows
structure Mod(K:PySem.W.Frag)(mg:Str->Option Value)(base:Heap):Prop where
 IF:K.In base
 glob:base.Ns mainGlobals mg
 blt:∃mb,base.Ns builtinsNs mb/\∀x:Str,x≠"__name__"->mb x=bootBuiltins x
 nolimit:base.NoLimit
structure Cx where
 prog:Program
 w:World
 K:PySem.W.Frag
 mg:Str->Option Value
 base:Heap
 A:Around
 N:List Str
 s₀:Shared
 H₀:Hp
 env:Env
 outer:List Env
 stack:List Env
 ex:List Addr
 fn:Str->Bool
 calm:Bool
 pn:List (Addr×Obj)
 xe:Value->Shared->Prop
def fE(l:List Env):List Addr:=l.filterMap (·.frame)
abbrev Cx.fs(X:Cx):List Addr:=fE X.outer
def G5(a:Scope)(x:Str):Prop:=a.names.lookup x=y' .local\/a.names.lookup x=y' .cell\/a.names.lookup x=y' .free
def Loc(a:Scope)(x:Str):Prop:=a.names.lookup x=y' .local\/a.names.lookup x=y' .cell
def Look(env:Env)(h:Heap)(m:Str->Option Value)(x:Str)(u:Value):Prop:=
 (env.kindOf x=y' .local/\m x=y' u)\/((env.kindOf x=y' .cell\/env.kindOf x=y' .free)/\∃c,env.cells.lookup x=y' c/\h.IsCell c (y' u))
structure Cx.Ok(X:Cx):Prop where
 mod:Mod X.K X.mg X.base
 kind:X.env.scope.kind= .function
 glob:X.env.globals=mainGlobals
 blt:X.env.builtins=builtinsNs
 above:X.s₀.heap.objs.size<=X.env.locals
 inj:∀x y c,X.env.cells.lookup x=y' c->X.env.cells.lookup y=y' c->x=y
 has:∀x,(X.env.kindOf x=y' .cell\/X.env.kindOf x=y' .free)->∃c,X.env.cells.lookup x=y' c
 C0:∀x c,X.fn x=G'->X.env.cells.lookup x=y' c->X.s₀.heap.objs.size<=c
 hd:X.calm=G'->X.A.handled=B'
 frames:X.A.frames=y' X.stack
 Ft:X.stack=X.outer\/(X.stack=X.env::X.outer/\X.env.frame=y' X.env.locals)
 Gd:∀b∈X.ex,b≠X.env.locals/\∀x c,X.env.cells.lookup x=y' c->c≠b
 bs:∀b o,X.base.get? b=y' o->X.s₀.heap.get? b=y' o/\X.H₀ b=B'
 CZ:X.base.objs.size<=X.s₀.heap.objs.size
 oF:∀b o,X.base.get? b=y' o->b∉X.ex
 qg:∀b∈X.ex,b∉X.fs
 iR:X.s₀.heap.FunFrames X.base X.outer
 DK:∀b∈X.fs,X.H₀ b=B'
structure Inv(X:Cx)(K':List (Addr×Obj))(σ:List (Option V))(H:Hp)(s:Shared):Prop where
 ok:X.Ok
 os:s.os=X.s₀.os
 bare:AllBare s.gens
 base:Un X.fs X.ex X.H₀ H X.s₀.heap s.heap
 loc:∃m,s.heap.Ns X.env.locals m/\∀(i:Nat)(x:Str)(v:V),X.N[i]?=y' x->σ[i]?=y' (y' v)->G5 X.env.scope x->∃u,RelV v u/\Look X.env s.heap m x u
 cell:∀x c,X.env.cells.lookup x=y' c->∃v,s.heap.IsCell c v
 free:H X.env.locals=B'
 cV:∀x c,X.env.cells.lookup x=y' c->H c=B'
 pin:∀p∈X.pn++K',s.heap.get? p.1=y' p.2/\H p.1=B'/\p.1≠X.env.locals/\p.1∉X.fs/\∀v,p.2.data≠ .cell v
 hok:eS X.prog X.w H s.heap
 len:σ.length=X.N.length
section
variable{X:Cx}{K':List (Addr×Obj)}{σ:List (Option V)}{H H':Hp}{s:Shared}{h':Heap}
theorem Cx.Ok.RH(ok:X.Ok)(e:X.base.get? b=y' o):b∉X.fs:=λL=>by have:=(ok.iR.mem L).1;rw[e]at this;cases this
theorem Inv.bs(I:Inv X K' σ H s):∀b o,X.base.get? b=y' o->s.heap.get? b=y' o/\H b=B':=λb o e=>
 #[I.base.keep b o (I.ok.bs b o e).1 (I.ok.bs b o e).2 (I.ok.RH e)<|I.ok.oF b o e,I.base.free b o (I.ok.bs b o e).1 (I.ok.bs b o e).2<|I.ok.oF b o e]
theorem Inv.bk(I:Inv X K' σ H s):∀b o,X.base.get? b=y' o->s.heap.get? b=y' o:=λb o e=>(I.bs b o e).1
theorem Inv.mod(I:Inv X K' σ H s):Mod X.K X.mg X.base:=I.ok.mod
theorem Inv.lA(I:Inv X K' σ H s):X.K.In s.heap:=I.ok.mod.IF.keeps I.bk
theorem Inv.lt(I:Inv X K' σ H s):X.env.locals<s.heap.objs.size:=let #[_,hn,_]:=I.loc;hn.lt
theorem Inv.sz(I:Inv X K' σ H s):X.s₀.heap.objs.size<=s.heap.objs.size:=Xf I.ok.above<|ZK I.lt
theorem Inv.RI(I:Inv X K' σ H s){a:Addr}(h:s.heap.objs.size<=a):a∉X.fs:=λL=>by obtain⟨_,o,j,_⟩:=I.ok.iR.mem L;exact absurd (Xp (Xe j)<|Xf I.sz h)<|ZM _
theorem Inv.Hw(I:Inv X K' σ H s):∀x c,X.env.cells.lookup x=y' c->c≠X.env.locals:=λx c e z=>by obtain⟨v,o,j,hd⟩:=I.cell x c e;obtain⟨m,⟨w,es,Q,g,Y,_⟩,_⟩:=I.loc;rw[z,g]at j;cases j;rw[Y]at hd;cases hd
theorem Inv.iR(I:Inv X K' σ H s):s.heap.FunFrames X.base X.outer:=by
 have all:∀(l:List Env),(∀b∈fE l,b∈X.fs)->X.s₀.heap.FunFrames X.base l->s.heap.FunFrames X.base l:=by
  intro l
  induction l with
  |nil=>intro _ _;trivial
  |cons env r O=>
   intro hs W;obtain⟨P,⟨L,o,A,hn,j,hd⟩,w⟩:=W;have y:=hs L (by unfold fE;rw[YQ,A];exact Xa);obtain⟨Y,e⟩:=I.base.slot L o j (I.ok.DK L y) y λz=>I.ok.qg L z y
   exact#[P,#[L,_,A,hn,e,hd],O (λb hb=>hs b<|by unfold fE;rw[YQ,A];exact W7 _ hb) w]
 exact all X.outer (λ_ hb=>hb) I.ok.iR
theorem Inv.stack(I:Inv X K' σ H s):s.heap.FunFrames X.base X.stack:=by
 rcases I.ok.Ft with e|⟨e,A⟩
 ·rw[e];exact I.iR
 ·rw[e];obtain⟨m,hn,_⟩:=I.loc;refine .cons (by rw[I.ok.kind];decide) A hn ?_ I.iR;exact Heap.get?_none_of_le<|Xf I.ok.CZ I.ok.above
theorem Inv.nO(I:Inv X K' σ H s):∀b∈fE X.stack,b∈X.env.locals::X.fs:=λb L=>by
 rcases I.ok.Ft with e|⟨e,A⟩
 ·rw[e]at L;exact W7 _ L
 ·rw[e]at L;unfold fE at L;rw[YQ,A]at L;exact L
theorem Inv.qY(I:Inv X K' σ H s):∀b∈fE X.stack,H b=B':=λb L=>by
 rcases Xg.mp (I.nO b L)with e|L
 ·rw[e];exact I.free
 ·obtain⟨_,o,j,_⟩:=I.ok.iR.mem L;exact I.base.free b o j (I.ok.DK b L) λz=>I.ok.qg b z L
theorem Inv.step{ch:List Addr}(I:Inv X M σ H s)
  (a:∀b∈ch,(b∈X.ex\/X.s₀.heap.objs.size<=b)/\b≠X.env.locals/\(∀x c,X.env.cells.lookup x=y' c->c≠b)/\∀p∈X.pn++M,p.1≠b)
  (keep:∀b o,b≠X.env.locals->b∉X.fs->b∉ch->s.heap.get? b=y' o->H b=B'->h'.get? b=y' o)
  (slot:∀b o,b≠X.env.locals->b∈X.fs->b∉ch->s.heap.get? b=y' o->H b=B'->∃Y,h'.get? b=y' {o with slots:=Y}) (free:∀b o,b∉ch->s.heap.get? b=y' o->H b=B'->H' b=B')
  (there:∀b o,b∉ch->s.heap.get? b=y' o->∃w,h'.get? b=y' w)
  (tups:∀b xs,H b=y' (.tup xs)->H' b=y' (.tup xs)) (frzs:∀b o u,H b=y' (.yl o u)->H' b=y' (.yl o u)) (tbls:∀b ps,H b=y' (.zG ps)->∃h,H' b=y' (.zG<|ps++h))
  (ns:∀m,s.heap.Ns X.env.locals m->h'.Ns X.env.locals m) (hok:eS X.prog X.w H' h') (t:AllBare g'):
  Inv X M σ H' {s with heap:=h',gens:=g',drawn:=d',toks:=t'}:=by
 have E:∀b o,X.s₀.heap.get? b=y' o->b≠X.env.locals:=λb o e=>Xz (Xp (Xe e) I.ok.above)
 have F:∀b o,X.s₀.heap.get? b=y' o->b∉X.ex->b∉ch:=λb o e U L=>by
  rcases (a b L).1 with z|z
  ·exact U z
  ·exact absurd (Xp (Xe e) z) (ZM _)
 have g:∀x c,X.env.cells.lookup x=y' c->∀v,s.heap.IsCell c v->h'.IsCell c v:=λx c e v#[o,j,hd]=>by
  have y:c∉ch:=λz=>(a c z).2.2.1 x c e rfl
  by_cases J:c∈X.fs
  ·obtain⟨Y,q⟩:=slot c o (I.Hw x c e) J y j<|I.cV x c e;exact#[_,q,hd]
  ·exact#[o,keep c o (I.Hw x c e) J y j<|I.cV x c e,hd]
 refine#[I.ok,I.os,t,#[λb o e n L U=>?_,λb o e n L U=>?_,λb o e n U=>?_,λb o e U=>?_,λb xs e=>tups b xs<|I.base.tups b xs e,λb o xs e=>frzs b o xs<|I.base.frzs b o xs e,λb ps e=>?_],?_,λx c e=>?_,?_,λx c e=>?_,λp B=>?_,hok,I.len]
 ·exact keep b o (E b o e) L (F b o e U) (I.base.keep b o e n L U)<|I.base.free b o e n U
 ·obtain⟨Y,e1⟩:=I.base.slot b o e n L U;obtain⟨A,e2⟩:=slot b _ (E b o e) L (F b o e U) e1<|I.base.free b o e n U;exact#[A,e2]
 ·obtain⟨w,e1⟩:=I.base.there b o e U;exact free b w (F b o e U) e1<|I.base.free b o e n U
 ·obtain⟨w,e1⟩:=I.base.there b o e U;exact there b w (F b o e U) e1
 ·obtain⟨m1,e1⟩:=I.base.tbls b ps e;obtain⟨S,e2⟩:=tbls b _ e1;exact#[m1++S,by rw[e2,Array.append_assoc]]
 ·obtain⟨m,hn,W⟩:=I.loc;refine#[m,ns m hn,λi x v e1 e2 e3=>?_];obtain⟨u,r,l⟩:=W i x v e1 e2 e3;refine#[u,r,?_];rcases l with l|⟨k,c,e,z⟩
  ·exact .inl l
  ·exact .inr #[k,c,e,g x c e _ z]
 ·obtain⟨v,z⟩:=I.cell x c e;exact#[v,g x c e v z]
 ·obtain⟨m,⟨o,_,_,j,_⟩,_⟩:=I.loc;exact free _ o (λz=>(a _ z).2.1 rfl) j I.free
 ·obtain⟨v,o,j,hd⟩:=I.cell x c e;exact free c o (λz=>(a c z).2.2.1 x c e rfl) j<|I.cV x c e
 ·obtain⟨e,n,ne,O,d⟩:=I.pin p B;have y:p.1∉ch:=λz=>(a p.1 z).2.2.2 p B rfl
  exact#[keep p.1 p.2 ne O y e n,free p.1 p.2 y e n,ne,O,d]
theorem Inv.un(I:Inv X K' σ H s)(u:Un X.fs [] H H' s.heap h')(hok:eS X.prog X.w H' h'):Inv X K' σ H' {s with heap:=h',toks:=t'}:=by
 obtain⟨m,⟨o,es,Q,j,r⟩,_⟩:=id I.loc;obtain⟨Y,y⟩:=u.any j I.free (by simp);exact I.step (ch:=[]) (λ_ z=>nomatch z) (λb o _ L _ e n=>u.keep b o e n L<|by simp) (λb o _ L _ e n=>u.slot b o e n L<|by simp) (λb o _ e n=>u.free b o e n<|by simp) (λb o _ e=>u.there b o e<|by simp) u.tups u.frzs u.tbls (λB E=>by
  obtain⟨w,k,h,g,r'⟩:=E;rw[j]at g;cases g;exact#[_,k,h,y,r']) hok I.bare
theorem Inv.call(I:Inv X M σ H s)(u:Un (fE X.stack) ch H H' s.heap h')(hok:eS X.prog X.w H' h')(t:AllBare g')
  (a:∀b∈ch,(b∈X.ex\/X.s₀.heap.objs.size<=b)/\b≠X.env.locals/\(∀x c,X.env.cells.lookup x=y' c->c≠b)/\∀p∈X.pn++M,p.1≠b):
  Inv X M σ H' {s with heap:=h',gens:=g',drawn:=d',toks:=t'}:=by
 obtain⟨m,⟨o,es,Q,j,r⟩,_⟩:=id I.loc;obtain⟨Y,y⟩:=u.any j I.free λz=>(a _ z).2.1 rfl
 exact I.step a (λb o y L J e n=>u.keep b o e n (λz=>(Xg.mp<|I.nO b z).elim y L) J) (λb o _ _ J e n=>u.any e n J) (λb o J e n=>u.free b o e n J) (λb o J e=>u.there b o e J) u.tups u.frzs u.tbls (λB E=>by
  obtain⟨w,k,h,g,r'⟩:=E;rw[j]at g;cases g;exact#[_,k,h,y,r']) hok t
theorem Inv.turned(I:Inv X M σ H s)(k:∀b o,b≠it->s.heap.get? b=y' o->h'.get? b=y' o)(hn:H it=B')(y:it≠X.env.locals)
  (Z:it∈X.ex\/X.s₀.heap.objs.size<=it) (Y:∀x c,X.env.cells.lookup x=y' c->c≠it) (h3:∀p∈X.pn++M,p.1≠it):Inv X M σ H {s with heap:=h',toks:=t'}:=by
 have a:∀b u,H b=y' u->b≠it:=λb u e z=>by rw[z,hn]at e;cases e
 refine I.step (ch:=[it]) (λb L=>?_) (λb o _ _ J e _=>k b o (λz=>J<|by simp[z]) e) (λb o _ _ J e _=>#[o.slots,k b o (λz=>J<|by simp[z]) e]) (λ_ _ _ _ n=>n)
  (λb o J e=>#[o,k b o (λz=>J<|by simp[z]) e]) (λ_ _ e=>e) (λ_ _ _ e=>e) (λb ps e=>#[#[],by rw[e];simp]) (λm E=>?_) (λb u e=>?_) I.bare
 ·have e:b=it:=by simpa using L
  subst e;exact#[Z,y,Y,h3]
 ·obtain⟨o,es,Q,j,r⟩:=E;exact#[o,es,Q,k _ o (ZX y) j,r]
 ·refine(I.hok b u e).qX (λc v J q=>k c v ?_ q) (λ_ q=>q) λ_ _ q=>q
  rcases J with z|z
  ·rw[z];exact a b u e
  ·exact a c _ z
theorem Inv.tok(I:Inv X K' σ H s)(t):Inv X K' σ H {s with toks:=t}:=I.un Un.refl I.hok
theorem Inv.kept(I:Inv X K' σ H s)(k:∀b u,s.heap.get? b=y' u->h'.get? b=y' u):Inv X K' σ H {s with heap:=h',toks:=t'}:=I.un (Un.kept k)<|I.hok.kept k
theorem Inv.laid{a:Addr}(I:Inv X K' σ H s)(k:∀b u,s.heap.get? b=y' u->h'.get? b=y' u)(B:s.heap.objs.size<=a)(g:dZ X.prog X.w (upd H a o) h' a o):
  Inv X K' σ (upd H a o) {s with heap:=h',toks:=t'}:=I.un (Un.laid k B<|I.hok.fresh B)<|I.hok.laid k B g
theorem Inv.write(I:Inv X K' σ H s)(i:Pa (H x))(K:e=x\/H e=y' (.own x))(k:∀b u,b≠e->s.heap.get? b=y' u->h'.get? b=y' u)(j:∃u,h'.get? e=y' u)
  (g:dZ X.prog X.w (upd H x o) h' x o):Inv X K' σ (upd H x o) {s with heap:=h',toks:=t'}:=I.un (Un.write i K k j)<|I.hok.write i K k j g
theorem Inv.weak(I:Inv X K' σ H s)(W:σ'.length=σ.length)(w:∀(i:Nat)v,σ'[i]?=y' (y' v)->σ[i]?=y' (y' v)):Inv X K' σ' H s:=
 #[I.ok,I.os,I.bare,I.base,let #[m,hn,r]:=I.loc;#[m,hn,λi x v e1 e2 l=>r i x v e1 (w i v e2) l],I.cell,I.free,I.cV,I.pin,I.hok,W.trans I.len]
theorem Inv.iq(I:Inv X K' σ H s)(h:∀p∈pins',s.heap.get? p.1=y' p.2/\H p.1=B'/\p.1≠X.env.locals/\p.1∉X.fs/\∀v,p.2.data≠ .cell v):Inv X pins' σ H s:=
 #[I.ok,I.os,I.bare,I.base,I.loc,I.cell,I.free,I.cV,λp B=>(Xq.mp B).elim (λz=>I.pin p<|Ze _ z)<|h p,I.hok,I.len]
theorem jB{N:List Str}(t:N.Nodup){i j:Nat}(a:N[i]?=y' x)(b:N[j]?=y' x):i=j:=by obtain⟨Z,e1⟩:=W6.mp a;obtain⟨Y,e2⟩:=W6.mp b;exact(List.getElem_inj t).mp<|e1.trans e2.symm
theorem pH{M:Model}{A:Around}{E:Value->Shared->Prop}{i:Nat}{x:Str}{v:V}{u:Value}{Q:Unit->Shared->Prop}(I:Inv X K' σ H s)(t:X.N.Nodup)(hi:X.N[i]?=y' x)(U:Loc X.env.scope x)(r:RelV v u)
  (h:∀S,Inv X K' (σ.set i<|y' v) H S->(∃a,Heap.SameBut a s.heap S.heap/\(a=X.env.locals\/X.env.cells.lookup x=y' a))->Q () S) (hf:X.fn x=G'\/X.env.scope.names.lookup x=y' .local:=by first|exact .inl rfl|exact .inr rfl|assumption):wpAny M A (storeName X.env x u) Q E s:=by
 obtain⟨m,hn,W⟩:=id I.loc;have sE:(X.env.scope.kind== .class||(X.env.scope.kind== .module&&X.env.locals != X.env.globals))=J':=by rw[I.ok.kind];rfl
 have hiσ:i<σ.length:=by rw[I.len];exact(W6.mp hi).1
 have Hw:=I.Hw;have K:∀{a:Addr}{h':Heap},(∃o,s.heap.get? a=y' o/\H a=B')->Heap.SameBut a s.heap h'->eS X.prog X.w H h':=λ {a h'} ha l b Z e=>by
  obtain⟨_,_,Gi⟩:=ha;refine(I.hok b Z e).qX (λc w' J q=>(l.2 c ?_).trans q) (λ_ q=>q) λ_ _ q=>q
  rintro rfl;rcases J with rfl|J
  ·rw[Gi]at e;cases e
  ·rw[Gi]at J;cases J
 rcases U with P|P
 ·refine wpAny_storeName_local P hn (λh' VD l=>?_) sE;obtain⟨oL,_,_,Pw,_⟩:=id hn;refine h _ #[I.ok,I.os,I.bare,#[λb o e n L U=>?_,λb o e n L U=>?_,I.base.free,λb o e U=>?_,I.base.tups,I.base.frzs,I.base.tbls],#[_,VD,λj y v' e1 e2 e3=>?_],λy c e=>?_,I.free,I.cV,λp B=>?_,K #[oL,Pw,I.free] l,by simpa using I.len] #[_,l,.inl rfl]
  ·exact(l.2 b<|Xz<|Xp (Xe e) I.ok.above).trans<|I.base.keep b o e n L U
  ·obtain⟨Y,e1⟩:=I.base.slot b o e n L U;exact#[Y,(l.2 b<|Xz<|Xp (Xe e) I.ok.above).trans e1]
  ·obtain⟨w,e1⟩:=I.base.there b o e U;exact#[w,(l.2 b<|Xz<|Xp (Xe e) I.ok.above).trans e1]
  ·by_cases F:j=i
   ·subst F;rw[hi]at e1;cases e1;rw[XT hiσ]at e2;cases e2;exact#[u,r,.inl #[P,by simp]]
   ·rw[Xl (ZX F)]at e2;obtain⟨u',r',q⟩:=W j y v' e1 e2 e3;refine#[u',r',?_];rcases q with ⟨k,e⟩|⟨k,c,e,z⟩
    ·refine .inl #[k,?_];have:y≠x:=λe=>F (jB t e1<|e▸hi)
     simp[this,e]
    ·exact .inr #[k,c,e,z.sameBut l<|Hw y c e]
  ·obtain⟨w',z⟩:=I.cell y c e;exact#[w',z.sameBut l<|Hw y c e]
  ·obtain⟨e,n,ne,O,d⟩:=I.pin p B;exact#[(l.2 p.1 ne).trans e,n,ne,O,d]
 ·have zA:X.fn x=G':=by
   rcases hf with z|z
   ·exact z
   ·rw[z]at P;cases P
  obtain⟨c,J⟩:=I.ok.has x<|.inl P;obtain⟨w',z⟩:=I.cell x c J;refine wpAny_storeName_cell I.ok.kind P J z λh' oA l=>?_;obtain⟨oc,TH,Rb⟩:=id z;refine h {s with heap:=h'} #[I.ok,I.os,I.bare,#[λb o e n L U=>?_,λb o e n L U=>?_,I.base.free,λb o e U=>?_,I.base.tups,I.base.frzs,I.base.tbls],#[m,hn.sameBut l<|ZX<|Hw x c J,λj y v' e1 e2 e3=>?_],λy c' e=>?_,I.free,I.cV,λp B=>?_,K #[oc,TH,I.cV x c J] l,by simpa using I.len] #[c,l,.inr J]
  ·exact(l.2 b<|Xz<|Xp (Xe e)<|I.ok.C0 x c zA J).trans<|I.base.keep b o e n L U
  ·obtain⟨Y,e1⟩:=I.base.slot b o e n L U;exact#[Y,(l.2 b<|Xz<|Xp (Xe e)<|I.ok.C0 x c zA J).trans e1]
  ·obtain⟨w,e1⟩:=I.base.there b o e U;exact#[w,(l.2 b<|Xz<|Xp (Xe e)<|I.ok.C0 x c zA J).trans e1]
  ·by_cases F:j=i
   ·subst F;rw[hi]at e1;cases e1;rw[XT hiσ]at e2;cases e2;exact#[u,r,.inr #[.inl P,c,J,oA]]
   ·rw[Xl (ZX F)]at e2;obtain⟨u',r',q⟩:=W j y v' e1 e2 e3;refine#[u',r',?_];rcases q with q|⟨k,c',e,g⟩
    ·exact .inl q
    ·refine .inr #[k,c',e,g.sameBut l ?_];rintro rfl;exact F<|jB t e1<|I.ok.inj _ _ _ e J▸hi
  ·by_cases hcc:c'=c
   ·subst hcc;exact#[_,oA]
   ·obtain⟨w2,z2⟩:=I.cell y c' e;exact#[w2,z2.sameBut l hcc]
  ·obtain⟨e,n,ne,O,d⟩:=I.pin p B;refine#[(l.2 p.1 ?_).trans e,n,ne,O,d];intro q;rw[q,TH]at e;have q':=ZY e;exact d w' (by rw[<-q'];exact Rb)
theorem jL{M:Model}{A:Around}{E:Value->Shared->Prop}{i:Nat}{x:Str}{v:V}{u:Value}{Q:Unit->Shared->Prop}(I:Inv X K' σ H s)(t:X.N.Nodup)(hi:X.N[i]?=y' x)(U:Loc X.env.scope x)(r:RelV v u)
  (h:∀S,Inv X K' (σ.set i<|y' v) H S->Q () S) (hf:X.fn x=G'\/X.env.scope.names.lookup x=y' .local:=by first|exact .inl rfl|exact .inr rfl|assumption):wpAny M A (storeName X.env x u) Q E s:=
 pH I t hi U r (λS w _=>h S w) hf
theorem Inv.Ao(I:Inv X M σ H s)(j:s'.os=s.os)(u:Un (fE X.stack) ch H H' s.heap s'.heap)(hok:eS X.prog X.w H' s'.heap)(t:AllBare s'.gens)
  (a:∀b∈ch,(b∈X.ex\/X.s₀.heap.objs.size<=b)/\b≠X.env.locals/\(∀x c,X.env.cells.lookup x=y' c->c≠b)/\∀p∈X.pn++M,p.1≠b):Inv X M σ H' s':=by
 obtain⟨y,g,d',t',w⟩:=s';have e:=j;subst e;exact I.call u hok t a
end
abbrev XK:=Value->Option Addr->Hp->Prop
abbrev St:=List (Option V)
abbrev VK:=V->Hp->Prop
abbrev TE:=St->Hp->VK->Prop
abbrev TT:=St->Hp->(Bool->Hp->Prop)->Prop
abbrev TA:=St->Hp->(List V->Hp->Prop)->Prop
structure Ends where
 nx:St->Hp->Prop
 rt:VK
 bk:St->Hp->Prop:=λ_ _=>False
 ct:St->Hp->Prop:=λ_ _=>False
abbrev TS:=Ends->St->Hp->Prop
inductive EP(X:Cx)(K':List (Addr×Obj))(σ:St)(Q:VK)(u:Value)(s':Shared):Prop
 |mk (v:V) (H':Hp) (i:Inv X K' σ H' s') (r:RelV v u) (q:Q v H'):EP X K' σ Q u s'
inductive TP(X:Cx)(K':List (Addr×Obj))(σ:St)(Q:Bool->Hp->Prop)(b:Bool)(s':Shared):Prop
 |mk (H':Hp) (i:Inv X K' σ H' s') (q:Q b H'):TP X K' σ Q b s'
inductive AP(X:Cx)(K':List (Addr×Obj))(σ:St)(Q:List V->Hp->Prop)(us:List Value)(s':Shared):Prop
 |mk (vs:List V) (H':Hp) (i:Inv X K' σ H' s') (r:aw vs us) (q:Q vs H'):AP X K' σ Q us s'
def SP(X:Cx)(K':List (Addr×Obj))(D:Ends)(f:Flow)(s':Shared):Prop:=
 match f with
 |.next=>∃σ' H',Inv X K' σ' H' s'/\D.nx σ' H'
 |.brk=>∃σ' H',Inv X K' σ' H' s'/\D.bk σ' H'
 |.cont=>∃σ' H',Inv X K' σ' H' s'/\D.ct σ' H'
 |.ret u=>∃v σ' H',Inv X K' σ' H' s'/\RelV v u/\D.rt v H'
def PE(X:Cx)(e:Expr)(t:TE):Prop:=
 ∀(M:List (Addr×Obj))(s:Shared)(O:St)(H:Hp)(Q:VK),Inv X M O H s->t O H Q->wpAny (model X.prog X.w) X.A (eval e X.env) (EP X M O Q) X.xe s
def PT(X:Cx)(e:Expr)(t:TT):Prop:=
 ∀(M:List (Addr×Obj))(s:Shared)(O:St)(H:Hp)(Q:Bool->Hp->Prop),Inv X M O H s->t O H Q->wpAny (model X.prog X.w) X.A (isTrue e X.env<|eval e X.env) (TP X M O Q) X.xe s
def PW(X:Cx)(e:Expr)(t:TT):Prop:=
 ∀(c:Sem Value)(M:List (Addr×Obj))(s:Shared)(O:St)(H:Hp)(Q:Bool->Hp->Prop),Inv X M O H s->t O H Q->wpAny (model X.prog X.w) X.A (isTrue e X.env c) (TP X M O Q) X.xe s
theorem PW.pt(h:PW X e t):PT X e t:=h _
def PA(X:Cx)(es:List Expr)(t:TA):Prop:=
 ∀(pos:Pos)(M:List (Addr×Obj))(s:Shared)(O:St)(H:Hp)(Q:List V->Hp->Prop),Inv X M O H s->t O H Q->wpAny (model X.prog X.w) X.A (spliced<|backTo pos<|starEach es X.env) (AP X M O Q) X.xe s
def PS(X:Cx)(st:Stmt)(t:TS):Prop:=
 ∀(M:List (Addr×Obj))(s:Shared)(O:St)(H:Hp)(D:Ends),Inv X M O H s->t D O H->wpAny (model X.prog X.w) X.A (exec st X.env) (SP X M D) X.xe s
def rG(X:Cx)(st:List Stmt)(t:TS):Prop:=
 ∀(M:List (Addr×Obj))(s:Shared)(O:St)(H:Hp)(D:Ends),Inv X M O H s->t D O H->wpAny (model X.prog X.w) X.A (execs st X.env) (SP X M D) X.xe s
theorem b9{t:Sem α}{Q z:α->Shared->Prop}(h:wpAny M A t Q E s)(L:∀a s,Q a s->z a s):wpAny M A t z E s:=aav h L λ_ _ x=>x
end L2
namespace L2
open PySem PySem.Spec PyProof.Rows
section
variable{X:Cx}
def i4(i:Nat):TE:=λσ H Q=>∃v,σ[i]?=y' (y' v)/\Q v H
def tC(v:V):TE:=λ_ H Q=>Q v H
theorem kf{i:Nat}{x:Str}{pos:Pos}(t:X.N[i]?=y' x)(hv:G5 X.env.scope x)(hd:(x==("__debug__":Str))=J':=by decide)(g:(x==("__classdict__":Str))=J':=by decide):PE X (.Name x pos) (i4 i):=by
 intro M s O H Q I h;obtain⟨v,e,h⟩:=h;obtain⟨m,hn,W⟩:=I.loc;obtain⟨u,r,l⟩:=W i x v t e hv;have fin:EP X M O Q u s:=#[v,H,I,r,h];rcases l with ⟨P,E⟩|⟨P,c,J,a⟩
 ·exact wpAny_Name (wpAny_loadName_local I.ok.kind P hn E fin) hd
 ·rcases P with P|P
  ·exact wpAny_Name (wpAny_loadName_cell I.ok.kind P J a fin) hd
  ·exact wpAny_Name (wpAny_loadName_free I.ok.kind P J a fin g) hd
theorem Jp{i j pos}:PE X (.Constant (.int i) j pos) (tC<|.int i):=λ_ _ _ H _ I h=>wpAny_Constant_int #[.int i,H,I.tok _,#[_,rfl],h]
theorem Gz{b j pos}:PE X (.Constant (.bool b) j pos) (tC<|.bl b):=λ_ _ _ H _ I h=>Constant_bool #[.bl b,H,I,rfl,h]
theorem Jq{j pos}:PE X (.Constant .none j pos) (tC .bj):=λ_ _ _ H _ I h=>Constant_none #[.bj,H,I,rfl,h]
theorem Jr{x j pos}:PE X (.Constant (.str x) j pos) (tC<|.str x):=λ_ _ _ H _ I h=>Calls.Constant_str #[.str x,H,I.tok _,#[_,rfl],h]
def Gl(X:Cx)(x:Str):Prop:=X.env.kindOf x=y' .globalImplicit
theorem jv{E:Value->Shared->Prop}{M:List (Addr×Obj)}{s:Shared}{O:St}{H:Hp}{x:Str}{u:Value}{pos:Pos}{Q:Value->Shared->Prop}(I:Inv X M O H s)(t:Gl X x)(hm:X.mg x=y' u)(h:Q u s)
  (hd:(x==("__debug__":Str))=J':=by decide):wpAny (model X.prog X.w) X.A (eval (.Name x pos) X.env) Q E s:=
 Calls.Name_function_global I.ok.kind t (Calls.loadGlobal_global (by rw[I.ok.glob];exact I.mod.glob.keeps I.bk) hm h) hd
theorem j4{E:Value->Shared->Prop}{M:List (Addr×Obj)}{s:Shared}{O:St}{H:Hp}{x:Str}{u:Value}{pos:Pos}{Q:Value->Shared->Prop}(I:Inv X M O H s)(t:Gl X x)(hm:X.mg x=B')(hv:bootBuiltins x=y' u)(h:Q u s)
  (hn:x≠"__name__":=by decide) (hd:(x==("__debug__":Str))=J':=by decide):wpAny (model X.prog X.w) X.A (eval (.Name x pos) X.env) Q E s:=by
 obtain⟨mb,Z,Y⟩:=I.mod.blt;exact Calls.Name_function_global I.ok.kind t (Calls.loadGlobal_builtin (by rw[I.ok.glob];exact I.mod.glob.keeps I.bk) hm (by rw[I.ok.blt];exact Z.keeps I.bk) ((Y x hn).trans hv) h) hd
theorem xh{x:Str}{v:V}{u:Value}{pos:Pos}(t:Gl X x)(E:X.mg x=y' u)(r:RelV v u)(hd:(x==("__debug__":Str))=J':=by decide):PE X (.Name x pos) (tC v):=
 λ_ _ _ H _ I h=>jv I t E #[v,H,I,r,h] hd
theorem xc{x:Str}{v:V}{u:Value}{pos:Pos}(t:Gl X x)(E:X.mg x=B')(M:bootBuiltins x=y' u)(r:RelV v u)(hn:x≠"__name__":=by decide)(hd:(x==("__debug__":Str))=J':=by decide):PE X (.Name x pos) (tC v):=
 λ_ _ _ H _ I h=>j4 I t E M #[v,H,I,r,h] hn hd
variable{a b:Expr}{ta tb:TE}{pos:Pos}
theorem BC(b)(h:op≠ .In)(Y:op≠ .NotIn):behindInMarks op b=J':=by
 have e1:(op==CmpOp.In)=J':=by cases op<;>first|rfl|exact absurd rfl h
 have e2:(op==CmpOp.NotIn)=J':=by cases op<;>first|rfl|exact absurd rfl Y
 cases b<;>simp[behindInMarks,e1,e2]
variable{tA PP:TT}{rest:List Expr}
def Sm(t u:TT):TT:=λO H Q=>t O H λc P=>if c=G' then u O P Q else Q J' P
def Wc(t u:TT):TT:=λO H Q=>t O H λc P=>if c=G' then Q G' P else u O P Q
def Sr(t:TT):TT:=λσ H Q=>t σ H λc H1=>Q (!c) H1
theorem E0(m:PT X a tA):PW X (.BoolOp .And [a] pos) tA:=by
 intro wh M s O H Q I h;refine isTrue_and<|b9 (m M s O H Q I h) λc s1 e=>?_;cases c with
 |true=>exact isTrue_and_nil e
 |false=>exact e
theorem JE(m:PT X a tA):PW X (.BoolOp .Or [a] pos) tA:=by
 intro wh M s O H Q I h;refine isTrue_or<|b9 (m M s O H Q I h) λc s1 e=>?_;cases c with
 |false=>exact isTrue_or_nil e
 |true=>exact e
theorem JD(m:PT X a tA)(L:PW X (.BoolOp .And (b::rest) pos) PP):PW X (.BoolOp .And (a::b::rest) pos) (Sm tA PP):=by
 intro wh M s O H Q I h;refine isTrue_and<|b9 (m M s O H _ I h) λc s1#[P,F,S]=>?_;cases c with
 |true=>exact L wh M s1 O P Q F S
 |false=>exact#[P,F,S]
theorem Nz(m:PT X a tA)(L:PW X (.BoolOp .Or (b::rest) pos) PP):PW X (.BoolOp .Or (a::b::rest) pos) (Wc tA PP):=by
 intro wh M s O H Q I h;refine isTrue_or<|b9 (m M s O H _ I h) λc s1#[P,F,S]=>?_;cases c with
 |true=>exact#[P,F,S]
 |false=>exact L wh M s1 O P Q F S
theorem JC(m:PT X a tA):PT X (.UnaryOp .Not a pos) (Sr tA):=by intro M s O H Q I h;exact isTrue_not<|b9 (m M s O H (λc P=>Q (!c) P) I h) λ_ _#[P,i,q]=>#[P,i,q]
def Oj(g tb:TE):TE:=λO H Q=>g O H λx P=>∃c,x= .bl c/\if c=G' then tb O P Q else Q (.bl J') P
def Ss(g tb:TE):TE:=λO H Q=>g O H λx P=>∃c,x= .bl c/\if c=G' then Q (.bl G') P else tb O P Q
def Os(g:TE):TE:=λO H Q=>g O H λx P=>∃c,x= .bl c/\Q (.bl<|!c) P
theorem BR{b}(h:PE X a t):PE X (.BoolOp b [a] pos) t:=λM s O H Q I B=>BoolOp_one<|h M s O H Q I B
theorem BN(m:PE X a ta)(L:PE X (.BoolOp .And (b::rest) pos) tb):PE X (.BoolOp .And (a::b::rest) pos) (Oj ta tb):=by
 intro M s O H Q I h;refine BoolOp_and<|b9 (m M s O H _ I h) λv s1#[x,P,F,B,S]=>?_;obtain⟨c,rfl,S⟩:=S;cases B;refine aaE ?_;cases c with
 |true=>exact L M s1 O P Q F S
 |false=>exact#[.bl J',P,F,rfl,S]
theorem GB(m:PE X a ta)(L:PE X (.BoolOp .Or (b::rest) pos) tb):PE X (.BoolOp .Or (a::b::rest) pos) (Ss ta tb):=by
 intro M s O H Q I h;refine BoolOp_or<|b9 (m M s O H _ I h) λv s1#[x,P,F,B,S]=>?_;obtain⟨c,rfl,S⟩:=S;cases B;refine aaE ?_;cases c with
 |false=>exact L M s1 O P Q F S
 |true=>exact#[.bl G',P,F,rfl,S]
theorem BQ(m:PE X a ta):PE X (.UnaryOp .Not a pos) (Os ta):=by intro M s O H Q I h;refine UnaryOp_<|b9 (m M s O H _ I h) λv s1#[x,P,F,B,S]=>?_;obtain⟨c,rfl,S⟩:=S;cases B;exact not_of<|aaE #[.bl<|!c,P,F,rfl,S]
end
end L2
namespace L2
open PySem PySem.Spec PyProof.Rows
def cX(K:PySem.W.Frag)(H:Hp)(a:Addr)(xs:List V):Prop:=
 Rd H a (.lst xs)\/
  ∃(o:Obj)(E:Array Value)(n:Nat),K.lookup a=y' o/\o.cls= .type "list"/\o.dict=B'/\o.data= .seq E n/\E.size<=sizeLine/\aw xs E.toList
def fD(K:PySem.W.Frag)(H:Hp)(a:Addr)(xs:List V):Prop:=
 Rd H a (.tup xs)\/
  ∃(o:Obj)(E:Array Value)(n:Nat),K.lookup a=y' o/\o.cls= .type "tuple"/\o.data= .seq E n/\E.size<=sizeLine/\aw xs E.toList
def Qh:Value->Option V
 |.none=>y' .bj
 |.bool b=>y'<|.bl b
 |.int i _=>y'<|.int i
 |.str x _=>y'<|.str x
 |.bytes b _=>y'<|.Hr b
 |.float b _=>y'<|.C3 b
 |.ref a=>y'<|.ref a
 |.type n=>y'<|.ty n
 |_=>B'
theorem RelV.abs(r:RelV x u):Qh u=y' x:=by
 cases x with
 |bj=>cases r;rfl
 |bl _=>cases r;rfl
 |int _=>obtain⟨t,rfl⟩:=r;rfl
 |str _=>obtain⟨t,rfl⟩:=r;rfl
 |Hr _=>obtain⟨t,rfl⟩:=r;rfl
 |C3 _=>obtain⟨t,rfl⟩:=r;rfl
 |ref _=>cases r;rfl
 |ty _=>cases r;rfl
theorem RelV.inj{u:Value}(r:RelV x u)(q:RelV y u):x=y:=ZY<|r.abs.symm.trans q.abs
theorem aw.inj:∀{xs k:List V}{c:List Value},aw xs c->aw k c->xs=k
 |_,_,_,.nil,.nil=>rfl
 |_,_,_,.cons r t,.cons r' t'=>by rw[r.inj r',aw.inj t t']
section
variable{X:Cx}{K':List (Addr×Obj)}{σ:St}{H:Hp}{s:Shared}{a:Addr}{xs ys:List V}
theorem cX.of{K:PySem.W.Frag}(h:H a=y' (.lst xs)):cX K H a xs:=.inl<|.inl h
theorem fD.of{K:PySem.W.Frag}(h:H a=y' (.tup xs)):fD K H a xs:=.inl<|.inl h
theorem Inv.list(I:Inv X K' σ H s)(h:cX X.K H a xs):∃E:List Value,aw xs E/\PlainL s.heap a E.toArray/\xs.length<=sizeLine:=by
 rcases h with h|⟨o,E,n,P,J,hd,l,g,r⟩
 ·obtain⟨z,E,n,r,e⟩:=h.ok I.hok;exact#[E,r,#[_,n,e,rfl,rfl,rfl],z]
 ·refine#[E.toList,r,#[o,n,I.lA a o P,J,hd,by simpa using l],?_];have e:=r.length;simp only[Xo]at e
  lia
theorem Inv.tuple(I:Inv X K' σ H s)(h:fD X.K H a xs):∃E:List Value,aw xs E/\IsTup s.heap a E.toArray/\xs.length<=sizeLine:=by
 rcases h with h|⟨o,E,n,P,J,l,g,r⟩
 ·obtain⟨z,E,r,p⟩:=h.ok I.hok;exact#[E,r,p.is,z]
 ·refine#[E.toList,r,#[o,I.lA a o P,J,n,by simpa using l],?_];have e:=r.length;simp only[Xo]at e
  lia
theorem Inv.Bu(I:Inv X K' σ H s)(h:cX X.K H a xs)(y:cX X.K H a ys):xs=ys:=by
 obtain⟨E,r,⟨o,n,e,_,_,d⟩,_⟩:=I.list h;obtain⟨c,r',⟨w,b,J,_,_,p⟩,_⟩:=I.list y;rw[e]at J;cases J;rw[d]at p;injection p with d1 _;have:E=c:=by simpa using aab Array.toList d1
 subst this;exact r.inj r'
theorem Inv.zg(I:Inv X K' σ H s)(h:fD X.K H a xs)(y:fD X.K H a ys):xs=ys:=by
 obtain⟨E,r,⟨o,e,_,n,d⟩,_⟩:=I.tuple h;obtain⟨c,r',⟨w,J,_,b,p⟩,_⟩:=I.tuple y;rw[e]at J;cases J;rw[d]at p;injection p with d1 _;have:E=c:=by simpa using aab Array.toList d1
 subst this;exact r.inj r'
end
abbrev Cx.eD(X:Cx)(E:Value->Shared->Prop):Cx:={X with xe:=E}
theorem Cx.Ok.eD{X:Cx}(ok:X.Ok)(E):(X.eD E).Ok:=
 #[ok.mod,ok.kind,ok.glob,ok.blt,ok.above,ok.inj,ok.has,ok.C0,ok.hd,ok.frames,ok.Ft,ok.Gd,ok.bs,ok.CZ,ok.oF,ok.qg,ok.iR,ok.DK]
theorem Cx.Ok.eQ{X:Cx}(ok:(X.eD E).Ok):X.Ok:=
 #[ok.mod,ok.kind,ok.glob,ok.blt,ok.above,ok.inj,ok.has,ok.C0,ok.hd,ok.frames,ok.Ft,ok.Gd,ok.bs,ok.CZ,ok.oF,ok.qg,ok.iR,ok.DK]
section
variable{X:Cx}{K':List (Addr×Obj)}{σ:St}{H:Hp}{s:Shared}{E:Value->Shared->Prop}
theorem Inv.eD(I:Inv X K' σ H s)(E):Inv (X.eD E) K' σ H s:=#[I.ok.eD E,I.os,I.bare,I.base,I.loc,I.cell,I.free,I.cV,I.pin,I.hok,I.len]
theorem Inv.eQ(I:Inv (X.eD E) K' σ H s):Inv X K' σ H s:=#[I.ok.eQ,I.os,I.bare,I.base,I.loc,I.cell,I.free,I.cV,I.pin,I.hok,I.len]
theorem SP.eQ(h:SP (X.eD E) K' D f s'):SP X K' D f s':=by
 cases f with
 |next=>obtain⟨A,j,I,q⟩:=h;exact#[A,j,I.eQ,q]
 |brk=>obtain⟨A,j,I,q⟩:=h;exact#[A,j,I.eQ,q]
 |cont=>obtain⟨A,j,I,q⟩:=h;exact#[A,j,I.eQ,q]
 |ret u=>obtain⟨v,A,j,I,r,q⟩:=h;exact#[v,A,j,I.eQ,r,q]
end
section
variable{X:Cx}{st:Stmt}{rest:List Stmt}{t u:TS}{e:Expr}{te:TE}{pos:Pos}
def Cz:TS:=λD σ H=>D.nx σ H
def Ov(t u:TS):TS:=λD σ H=>t {D with nx:=u D} σ H
theorem EW:rG X [] Cz:=λ_ _ O H _ I h=>wpAny_execs_nil #[O,H,I,h]
theorem tD(Z:PS X st t)(Y:rG X rest u):rG X (st::rest) (Ov t u):=by
 intro M s O H D I h;refine wpAny_execs_cons<|b9 (Z M s O H {D with nx:=u D} I h) λf s1 q=>?_;cases f with
 |next=>obtain⟨A,j,w,q⟩:=q;exact Y M s1 A j D w q
 |ret v=>exact q
 |brk=>exact q
 |cont=>exact q
theorem xt(Z:PS X st t):rG X [st] t:=by
 intro M s O H D I h;refine wpAny_execs_cons<|b9 (Z M s O H D I h) λf s1 q=>?_;cases f with
 |next=>exact wpAny_execs_nil q
 |ret v=>exact q
 |brk=>exact q
 |cont=>exact q
def Cv:TS:=λD σ H=>D.bk σ H
def GQ:TS:=λD σ H=>D.ct σ H
theorem ET:PS X (.Pass pos) Cz:=λ_ _ O H _ I h=>wpAny_Pass #[O,H,I,h]
theorem B1:PS X (.Break pos) Cv:=λ_ _ O H _ I h=>wpAny_Break #[O,H,I,h]
theorem tw:PS X (.Continue pos) GQ:=λ_ _ O H _ I h=>wpAny_Continue #[O,H,I,h]
theorem Inv.quiet{O:St}(I:Inv X K' O H s):interactive X.env=J':=by simp[interactive,I.ok.kind]
def tV(te:TE):TS:=λD σ H=>te σ H λ_ H1=>D.nx σ H1
theorem lM(K:PE X e te)(l:swapsWith e B' pos.line X.env=pure J':=by rfl):PS X (.Expr e pos) (tV te):=by intro M s O H D I h;exact wpAny_Expr_any (b9 (K M s O H _ I h) λv s1#[x,P,F,B,S]=>#[O,P,F,S]) I.quiet l
def Kg(te:TE):TS:=λD σ H=>te σ H D.rt
theorem nF(K:PE X e te):PS X (.Return (y' e) pos) (Kg te):=by intro M s O H D I h;exact wpAny_Return_some<|b9 (K M s O H _ I h) λv s1#[x,P,F,B,S]=>#[x,O,P,F,B,S]
def GR:TS:=λD _ H=>D.rt .bj H
theorem EU:PS X (.Return B' pos) GR:=λ_ _ O H _ I h=>wpAny_Return_none #[.bj,O,H,I,rfl,h]
def Oo(c:TT)(t u:TS):TS:=λD O H=>c O H λb P=>if b=G' then t D O P else u D O P
theorem Nx(J:PT X c tc)(m:rG X a t)(L:rG X b u):PS X (.If c a b pos) (Oo tc t u):=by
 intro M s O H D I h;refine wpAny_If<|b9 (J M s O H _ I h) λd s1#[P,F,S]=>?_;cases d with
 |true=>exact m M s1 O P D F S
 |false=>exact L M s1 O P D F S
end
abbrev TG:=V->St->Hp->(St->Hp->Prop)->Prop
abbrev zo:=List V->St->Hp->(St->Hp->Prop)->Prop
def PG(X:Cx)(a:Expr)(t:TG):Prop:=
 ∀(M:List (Addr×Obj))(s:Shared)(O:St)(H:Hp)(v:V)(u:Value)(Q:St->Hp->Prop),Inv X M O H s->RelV v u->t v O H Q->
  wpAny (model X.prog X.w) X.A (assign a X.env u) (λ_ S=>∃A j,Inv X M A j S/\Q A j) X.xe s
def KD(X:Cx)(ts:List Expr)(t:zo):Prop:=
 ∀(M:List (Addr×Obj))(s:Shared)(O:St)(H:Hp)(U:List V)(c:List Value)(Q:St->Hp->Prop),Inv X M O H s->aw U c->t U O H Q->
  wpAny (model X.prog X.w) X.A (assignInOrder ((assignEach ts X.env).map (·.2)) c) (λ_ S=>∃A j,Inv X M A j S/\Q A j) X.xe s
abbrev G3:=V->V->V->Hp->(Hp->Prop)->Prop
def K4(X:Cx)(t:G3):Prop:=
 ∀(M:List (Addr×Obj))(s:Shared)(O:St)(H:Hp)(o i v:V)(b a u:Value)(Q:Hp->Prop),Inv X M O H s->RelV o b->RelV i a->RelV v u->t o i v H Q->
  wpAny (model X.prog X.w) X.A (setItem b a u) (λ_ S=>∃j,Inv X M O j S/\Q j) X.xe s
abbrev Pe:=V->V->Hp->VK->Prop
def SQ(X:Cx)(b:Operator)(t:Pe):Prop:=
 ∀(M:List (Addr×Obj))(s:Shared)(O:St)(H:Hp)(x y:V)(v u:Value)(Q:VK),Inv X M O H s->RelV x v->RelV y u->t x y H Q->
  wpAny (model X.prog X.w) X.A (inplaceOp b v u) (EP X M O Q) X.xe s
section
variable{X:Cx}{pos:Pos}
def e9(i:Nat):TG:=λv σ H Q=>Q (σ.set i<|y' v) H
theorem EH{i:Nat}{x:Str}(t:X.N.Nodup)(hi:X.N[i]?=y' x)(U:Loc X.env.scope x)(A:X.fn x=G'\/X.env.scope.names.lookup x=y' .local:=by first|exact .inl rfl|exact .inr rfl|assumption):PG X (.Name x pos) (e9 i):=by intro M s O H v u Q I r h;exact wpAny_assign_Name<|jL I t hi U r (λS w=>#[_,H,w,h]) A
def HN:zo:=λvs σ H Q=>vs=[]/\Q σ H
def AX(t:TG)(u:zo):zo:=λU O H Q=>∃v r,U=v::r/\t v O H λA j=>u r A j Q
theorem EI:KD X [] HN:=by intro M s O H U c Q I r h;obtain⟨e,h⟩:=h;subst e;cases r;exact assignInOrder_nil #[O,H,I,h]
theorem BS{e:Expr}{es:List Expr}{t:TG}{u:zo}(Z:PG X e t)(Y:KD X es u)
  (l:(assignEach (e::es) X.env).map (·.2)=assign e X.env::(assignEach es X.env).map (·.2):=by rfl):KD X (e::es) (AX t u):=by
 intro M s O H U c Q I r h;obtain⟨v,a,e1,h⟩:=h;subst e1;cases r with
 |cons r b=>rw[l];refine assignInOrder_cons<|b9 (Z M s O H _ _ _ I r h) λ_ s1#[σ1,P,F,S]=>?_;exact Y M s1 σ1 P _ _ Q F b S
def QF(K:PySem.W.Frag)(n:Nat)(t:zo):TG:=λv O H Q=>∃a xs,v= .ref a/\fD K H a xs/\xs.length=n/\t xs O H Q
theorem Ju{es:List Expr}{k:Nat}{t:zo}{n:Nat}(J:X.calm=G')(h:KD X es t)
  (hn:(assignEach es X.env).length=n:=by rfl) (p:(assignEach es X.env).findIdx? (·.1)=B':=by rfl):PG X (.Tuple es k pos) (QF X.K n t):=by
 intro M s O H v u Q I r B;obtain⟨a,xs,e1,K,W,B⟩:=B;subst e1;cases r;obtain⟨E,rv,ht,g⟩:=I.tuple K;refine assign_Tuple_tuple (I.ok.hd J) ht (by simp[hn,<-W,rv.length]) p λy U=>?_
 have F:=I.kept (t':=s.toks) λb o e=>U b o (Xz<|Xe e) e
 exact h M _ O H xs _ Q F (by simpa using rv) B
def LI(c Z:TE)(t:G3):TG:=λv O H Q=>c O H λo P=>Z O P λi n=>t o i v n λK=>Q O K
theorem Jt{o i:Expr}{c Z:TE}{t:G3}(j:PE X o c)(hi:PE X i Z)(l:K4 X t)
  (m:∀v,assign (.Subscript o i pos) X.env v=(do
   let b<-holding [v] (eval o X.env)
   let a<-holding [v,b] (eval i X.env)
   standAt pos
   holding [v,b,a] (setItem b a v)
   release [v,b,a] []):=by intro _;rfl):PG X (.Subscript o i pos) (LI c Z t):=by
 intro M s O H v u Q I r h;rw[m];refine WZ<|aau<|b9 (j M s O H _ I h) λb s1#[x,P,F,B,S]=>?_;refine WZ<|aau<|b9 (hi M s1 O P _ F S) λa p#[y,n,Y,r2,A]=>?_;refine WZ<|aaD<|WZ<|aau<|b9 (l M p O n x y v b a u _ Y B r2 r A) λ_ g#[K,z,U]=>?_;exact wpAny_release #[O,K,z,U]
def oJ(te:TE)(g:TG):TS:=λD σ H=>te σ H λx H1=>g x σ H1 D.nx
theorem B0{tg e:Expr}{L:TE}{g:TG}(K:PE X e L)(t:PG X tg g)(l:swapsWithSole [tg] e pos.line X.env=pure J':=by rfl)(hw:swappedStores [tg] e X.env=pure B':=by rfl)
  (Z:(assignEach [tg] X.env).map (·.2)=[assign tg X.env]:=by rfl):PS X (.Assign [tg] e pos) (oJ L g):=by
 intro M s O H D I h;refine wpAny_Assign_stores (b9 (K M s O H _ I h) λv s1#[x,P,F,B,S]=>?_) l hw;rw[Z];exact b9 (t M s1 O P x v _ F B S) λ_ p q=>q
theorem vo{i:Nat}{x:Str}{e:Expr}{L:TE}{c:Pos}(t:X.N.Nodup)(hi:X.N[i]?=y' x)(U:Loc X.env.scope x)(K:PE X e L)(l:swapsWith e (y'<|.Name x c) pos.line X.env=pure J':=by rfl)(A:X.fn x=G'\/X.env.scope.names.lookup x=y' .local:=by first|exact .inl rfl|exact .inr rfl|assumption):
  PS X (.Assign [.Name x c] e pos) (oJ L<|e9 i):=by
 intro M s O H D I h;refine wpAny_Assign_Name (b9 (K M s O H _ I h) λv s1#[y,P,F,B,S]=>?_) l;exact jL F t hi U B (λp Y=>#[_,P,Y,S]) A
def Ol(i:Nat)(L:TE)(Z:Pe):TS:=λD O H=>∃x,O[i]?=y' (y' x)/\L O H λy P=>Z x y P λz n=>D.nx (O.set i<|y' z) n
theorem JA{i:Nat}{x:Str}{e:Expr}{L:TE}{b:Operator}{Z:Pe}{pos':Pos}(t:X.N.Nodup)(hi:X.N[i]?=y' x)(U:Loc X.env.scope x)(K:PE X e L)(j:SQ X b Z)(A:X.fn x=G'\/X.env.scope.names.lookup x=y' .local:=by first|exact .inl rfl|exact .inr rfl|assumption):
  PS X (.AugAssign (.Name x pos') b e pos) (Ol i L Z):=by
 intro M s O H D I h;obtain⟨v,e1,h⟩:=h;obtain⟨m,hn,W⟩:=I.loc;have vis:G5 X.env.scope x:=by rcases U with k|k;exact .inl k;exact .inr (.inl k)
 obtain⟨u,r,l⟩:=W i x v hi e1 vis;refine wpAny_AugAssign_Name ?_;have go:wpAny (model X.prog X.w) X.A (eval e X.env) (λw s₂=>wpAny (model X.prog X.w) X.A (inplaceOp b u w) (λr q=>wpAny (model X.prog X.w) X.A (storeName X.env x r) (λ_=>SP X M D .next) X.xe q) X.xe s₂) X.xe s:=by
  refine b9 (K M s O H _ I h) λw s1#[y,H1,F,B,S]=>?_
  refine b9 (j M s1 O H1 v y u w _ F r B S) λz p#[o,n,Y,r2,q2]=>?_
  exact jL Y t hi U r2 (λg I3=>#[_,n,I3,q2]) A
 rcases l with ⟨P,E⟩|⟨P,c,J,a⟩
 ·exact wpAny_loadName_local I.ok.kind P hn E go
 ·rcases P with P|P
  ·exact wpAny_loadName_cell I.ok.kind P J a go
  ·rcases U with k|k
   ·have:X.env.scope.names.lookup x=y' .free:=P;rw[k]at this;cases this
   ·have:X.env.scope.names.lookup x=y' .free:=P;rw[k]at this;cases this
def TZ(f:Int->Int->Int):Pe:=λx y H Q=>∃i j,x= .int i/\y= .int j/\Q (.int<|f i j) H
theorem Ip:SQ X .Add (TZ λi j=>i+j):=by intro M s O H x y v u Q I B r2 h;obtain⟨i,j,e1,e2,q⟩:=h;subst e1;subst e2;obtain⟨t,rfl⟩:=B;obtain⟨t',rfl⟩:=r2;exact iadd_int #[.int _,H,I.tok _,#[_,rfl],q]
end
structure It where
 go:Nat->Hp->Prop
 yld:Nat->Hp->V->Hp->Prop
 stop:Nat->Hp->Prop
def ja(X:Cx)(M:List (Addr×Obj))(H:Hp)(b:Addr):Prop:=
 H b=B'/\b≠X.env.locals/\b∉X.fs/\(b∈X.ex\/X.s₀.heap.objs.size<=b)/\(∀x c,X.env.cells.lookup x=y' c->c≠b)/\∀p∈X.pn++M,p.1≠b
theorem Inv.qo{O:St}{b:Addr}(I:Inv X K' O H s)(L:s.heap.objs.size<=b)(hn:H' b=B'):ja X K' H' b:=by
 refine#[hn,ZS<|Xp I.lt L,I.RI L,.inr<|Xf I.sz L,λx c e z=>?_,λp B z=>?_]
 ·obtain⟨v,q⟩:=I.cell x c e;exact absurd (Xp q.lt<|by rw[z];exact L)<|ZM _
 ·exact absurd (Xp (Xe (I.pin p B).1)<|by rw[z];exact L)<|ZM _
structure Turn(P:Program)(w:World)(K:PySem.W.Frag)(tg:Expr)(J:It)(fp:List Addr)(it:Addr)(tn:Nat->Heap->Prop):Prop where
 mem:it∈fp
 obj:∀i h,tn i h->∀b∈fp,∃o,h.get? b=y' o/\∀v,o.data≠ .cell v
 keep:∀i h h',tn i h->(∀b∈fp,∀o,h.get? b=y' o->h'.get? b=y' o)->tn i h'
 item:∀(X:Cx),X.prog=P->X.w=w->X.K=K->X.calm=G'->∀(i:Nat)(K':List (Addr×Obj))(s:Shared)(σ:St)(H:Hp)(E:Value->Shared->Prop),Inv X K' σ H s->(∀b∈fp,ja X K' H b)->tn i s.heap->J.go i H->
  wpAny (model P w) X.A (pyNext<|.ref it) (λr s1=>∃u,r=y' u/\
   wpAny (model P w) X.A (letOwnedTupleGo tg (.ref it) u) (λ_ s2=>∃x H',Inv X K' σ H' s2/\RelV x u/\J.yld i H x H'/\tn (i+1) s2.heap/\∀b∈fp,H' b=B') E s1) E s
 done:∀(X:Cx),X.prog=P->X.w=w->X.K=K->X.calm=G'->∀(i:Nat)(K':List (Addr×Obj))(s:Shared)(σ:St)(H:Hp)(E:Value->Shared->Prop),Inv X K' σ H s->(∀b∈fp,ja X K' H b)->tn i s.heap->J.stop i H->
  wpAny (model P w) X.A (pyNext<|.ref it) (λr s1=>r=B'/\Inv X K' σ H s1) E s
 self:∀(A:Around)(i:Nat)(s:Shared)(Q:Value->Shared->Prop)(E:Value->Shared->Prop),tn i s.heap->Q (.ref it) s->wpAny (model P w) A (pyIter<|.ref it) Q E s
abbrev TI:=St->Hp->(It->Hp->Prop)->Prop
def Qb(X:Cx)(M:List (Addr×Obj))(O:St)(tg:Expr)(R:It->Hp->Prop)(a:Value)(p:Shared):Prop:=
 ∃(it:Addr)(v:List Addr)(F:Nat->Heap->Prop)(J:It)(j:Hp),a= .ref it/\Inv X M O j p/\Turn X.prog X.w X.K tg J v it F/\F 0 p.heap/\(∀b∈v,ja X M j b)/\R J j
def PI(X:Cx)(tg y:Expr)(E:TI):Prop:=
 ∀(M:List (Addr×Obj))(s:Shared)(O:St)(H:Hp)(R:It->Hp->Prop),Inv X M O H s->E O H R->
  wpAny (model X.prog X.w) X.A (eval y X.env) (λv s1=>wpAny (model X.prog X.w) X.A (pyIter v) (Qb X M O tg R) X.xe s1) X.xe s
theorem sv(j:s.heap.get? it=y' o)(J:o.cls= .type n)(hd:o.data= .fields vs)
  (I:["enumerate","zip","dict_itemiterator","dict_reverseitemiterator","odict_iterator","itertools.zip_longest","itertools.pairwise"].contains n=J') (L:Q () s):wpAny M A (letOwnedTupleGo tg (.ref it) u) Q E s:=by
 cases tg<;>first
  |exact W2 L
  |(cases u<;>first
    |exact W2 L
    |(refine WZ<|wpAny_load j ?_;rw[J,hd];show wpAny M A (if (["enumerate","zip","dict_itemiterator","dict_reverseitemiterator","odict_iterator","itertools.zip_longest","itertools.pairwise"].contains n&&vs[0]?==y' (rawInt _))=G' then _ else _) Q E s;rw[aae (by intro h;rw[I,Bool.false_and]at h;cases h)];exact W2 L))
def O4(K:PySem.W.Frag)(a:Addr):It:=
 #[λi H=>∃xs x,cX K H a xs/\xs[i]?=y' x,λi H x j=>j=H/\∀xs,cX K H a xs->xs[i]?=y' x,λi H=>∃xs,cX K H a xs/\xs.length<=i]
def P8(K:PySem.W.Frag)(a:Addr):It:=
 #[λi H=>∃xs x,fD K H a xs/\xs[i]?=y' x,λi H x j=>j=H/\∀xs,fD K H a xs->xs[i]?=y' x,λi H=>∃xs,fD K H a xs/\xs.length<=i]
def O5(lo:Int)(n:Nat):It:=#[λi _=>i<n,λi H x j=>j=H/\x= .int (lo+i),λi _=>n<=i]
theorem zh{K:PySem.W.Frag}(a it):Turn P w K tg (O4 K a) [it] it (λi h=>h.IsListIter it a i) where
 mem:=by simp
 obj:=λi h st b L=>by
  have e:b=it:=by simpa using L
  subst e;obtain⟨o,e,c,d⟩:=st;exact#[o,e,λv z=>by rw[d]at z;cases z]
 keep:=λi h y st k=>st.at λo e=>k it (by simp) o e
 item:=by
  intro X l B j J i M s O H E I A st t;subst l B j;obtain⟨xs,x,hq,U⟩:=t;obtain⟨ak,rv,p,g⟩:=I.list hq;obtain⟨u,hu,ru⟩:=rv.get U;obtain⟨q,r,Q,m,Y,S⟩:=A it (by simp);refine wpAny_pyNext_list_item st p.isList (by simpa using hu) λy aq sb=>?_
  have I1:=I.turned (t':=s.toks) (λb o L e=>(sb.2 b L).trans e) q r m Y S;obtain⟨o,e,c,d⟩:=id aq;exact#[u,rfl,sv e c d (by decide) #[x,H,I1,ru,#[rfl,λys F=>by rw[I.Bu F hq];exact U],aq,λb L=>(A b L).1]]
 done:=by intro X l B j J i M s O H E I A st t;subst l B j;obtain⟨xs,hq,U⟩:=t;obtain⟨ak,rv,p,g⟩:=I.list hq;obtain⟨q,r,Q,m,Y,S⟩:=A it (by simp);have W:=rv.length;exact wpAny_pyNext_list_end (I.ok.hd J) st p.isList (by simp;lia) λy n=>#[rfl,I.turned n q r m Y S]
 self:=λ_ _ _ _ _ st h=>wpAny_pyIter_listiter st h
theorem vI{K:PySem.W.Frag}(a it):Turn P w K tg (P8 K a) [it] it (λi h=>h.IsTupleIter it a i) where
 mem:=by simp
 obj:=λi h st b L=>by
  have e:b=it:=by simpa using L
  subst e;obtain⟨o,e,c,d⟩:=st;exact#[o,e,λv z=>by rw[d]at z;cases z]
 keep:=λi h y st k=>st.at λo e=>k it (by simp) o e
 item:=by
  intro X l B j J i M s O H E I A st t;subst l B j;obtain⟨xs,x,hq,U⟩:=t;obtain⟨ak,rv,p,g⟩:=I.tuple hq;obtain⟨u,hu,ru⟩:=rv.get U;obtain⟨q,r,Q,m,Y,S⟩:=A it (by simp);refine wpAny_pyNext_tuple_item st (p) (by simpa using hu) λy aq sb=>?_
  have I1:=I.turned (t':=s.toks) (λb o L e=>(sb.2 b L).trans e) q r m Y S;obtain⟨o,e,c,d⟩:=id aq;exact#[u,rfl,sv e c d (by decide) #[x,H,I1,ru,#[rfl,λys F=>by rw[I.zg F hq];exact U],aq,λb L=>(A b L).1]]
 done:=by intro X l B j J i M s O H E I A st t;subst l B j;obtain⟨xs,hq,U⟩:=t;obtain⟨ak,rv,p,g⟩:=I.tuple hq;obtain⟨q,r,Q,m,Y,S⟩:=A it (by simp);have W:=rv.length;exact wpAny_pyNext_tuple_end (I.ok.hd J) st (p) (by simp;lia) λy n=>#[rfl,I.turned n q r m Y S]
 self:=λ_ _ _ _ _ st h=>wpAny_pyIter_tupleiter st h
theorem nV{K:PySem.W.Frag}(it)(lo)(n):Turn P w K tg (O5 lo n) [it] it (λi h=>IsRangeIter h it (lo+(i:Nat)*1) ((n:Int)-(i:Nat)) 1) where
 mem:=by simp
 obj:=λi h st b L=>by
  have e:b=it:=by simpa using L
  subst e;exact#[_,st,λv z=>by
   have g:=z;cases g]
 keep:=λi h y st k=>k it (by simp) _ st
 item:=by
  intro X l B j J i M s O H E I A st hg;subst l B j;obtain⟨q,r,Q,m,Y,S⟩:=A it (by simp);have W:=Walks.range (prog:=X.prog) (w:=X.w) (I.ok.hd J) it lo 1 n;refine W.item i s _ _ hg st λv y tk hv aq Z=>?_
  obtain⟨t,rfl⟩:=hv;have F:Inv X M O H {s with heap:=y,toks:=tk}:=I.turned (λb o L e=>Z b o (by simpa using L) e) q r m Y S;refine#[_,rfl,sv aq rfl rfl (by decide) #[.int<|lo+i,H,F,#[t,?_],#[rfl,rfl],aq,λb L=>(A b L).1]];rw[Int.mul_one]
 done:=by intro X l B j J i M s O H E I A st hg;subst l B j;obtain⟨q,r,Q,m,Y,S⟩:=A it (by simp);exact wpAny_pyNext_range_end (I.ok.hd J) st (by have:n<=i:=hg;lia) λy eb=>#[rfl,I.turned eb q r m Y S]
 self:=λ_ _ _ _ _ st h=>wpAny_pyIter_rangeiter st h
end L2
namespace L2
open PySem PySem.Spec PyProof.Rows
section
variable{X:Cx}{tg:Expr}
theorem Ce{O:St}{lo hi:Int}(I:Inv X K' O H s)(Z: -(2^62)<=lo)(Y:lo<2^62)(h3: -(2^62)<=hi)(Q:hi<2^62)
  (q:R (O5 lo (hi-lo).toNat) H):wpAny (model X.prog X.w) X.A (pyIter<|.ref s.heap.objs.size) (Qb X K' O tg R) E {s with heap:=s.heap.push {cls:=.type "range",data:=.fields [.int lo t,.int hi u,.int 1 v].toArray},toks:=tk}:=by
 refine wpAny_pyIter_range (IsRange.new ..) (small_one Z Y h3 Q) ?_;have F:Inv X K' O H {s with heap:=s.heap.push {cls:=.type "range",data:=.fields [.int lo t,.int hi u,.int 1 v].toArray},toks:=tk}:=I.kept λb o e=>W1 _ e
 refine#[(s.heap.push {cls:=.type "range",data:=.fields [.int lo t,.int hi u,.int 1 v].toArray}).objs.size,[(s.heap.push {cls:=.type "range",data:=.fields [.int lo t,.int hi u,.int 1 v].toArray}).objs.size],_,_,H,rfl,
  F.kept λb o e=>W1 _ e,nV _ lo (hi-lo).toNat,?_,λb L=>?_,q]
 ·have e1:lo+((0:Nat):Int)*1=lo:=by simp
  have e2:(((hi-lo).toNat:Nat):Int)-((0:Nat):Int)=Builtin.Range.rangeSize lo hi 1:=by rw[rangeSize_one];split<;>lia
  rw[e1,e2];exact Xb _ rfl
 ·have e:b=(s.heap.push {cls:=.type "range",data:=.fields [.int lo t,.int hi u,.int 1 v].toArray}).objs.size:=by simpa using L
  subst e;exact F.qo (W9 _)<|F.hok.fresh<|W9 _
def MB(g:TA):TI:=λO H R=>g O H λU P=>∃j:Int,U=[.int j]/\ -(2^62)<=j/\j<2^62/\R (O5 0 j.toNat) P
theorem yR{a:Expr}{g:TA}{p pos:Pos}(hg:Gl X "range")(E:X.mg "range"=B')(m:PA X [a] g)(l:starEach [a] X.env=[(J',eval a X.env)]:=by rfl):PI X tg (.Call (.Name "range" p) [a] [] pos) (MB g):=by
 intro M s O H R I h;refine Call_<|j4 I hg E boot_range<|ZZ (b9 (m pos M s O H _ I h) λc s1#[U,P,F,B,S]=>?_) l rfl;obtain⟨j,e,S,A,q⟩:=S;subst e;cases B with
 |cons r b=>cases b;obtain⟨t,rfl⟩:=r;exact call_range_1<|Ce F ⋯ ⋯ S A (by simpa using q)
def On(E:TI)(g:TG)(tb:TS):TS:=λD O H=>E O H λJ P=>∃W:Nat->Nat->St->Hp->Prop,(∃m,W 0 m O P)/\∀i m O H,W i m O H->
 (J.stop i H/\D.nx O H)\/(J.go i H/\∃N:St->Hp->Prop,(∀A j,N A j->∃B,B<m/\W (i+1) B A j)/\∀x j,J.yld i H x j->g x O j λu n=>tb {D with nx:=N,ct:=N,bk:=D.nx} u n)
def ny(v:List Addr)(h:Heap):List (Addr×Obj):=v.filterMap λb=>(h.get? b).map λo=>(b,o)
theorem fP(L:b∈fp)(e:h.get? b=y' o):(b,o)∈ny fp h:=Zg.mpr #[b,L,by rw[e];rfl]
theorem yM(B:p∈ny fp h):p.1∈fp/\h.get? p.1=y' p.2:=by
 obtain⟨b,L,e⟩:=Zg.mp B;cases q:h.get? b with
 |none=>rw[q]at e;cases e
 |some o=>rw[q]at e;have J:=ZY e;subst J;exact#[L,q]
theorem Inv.pinned{O:St}(I:Inv X K' O H s)(A:∀b∈fp,ja X K' H b)(j:∀b∈fp,∃o,s.heap.get? b=y' o/\∀v,o.data≠ .cell v):Inv X (K'++ny fp s.heap) O H s:=
 I.iq λp B=>(Xq.mp B).elim (λz=>I.pin p<|XA _ z) λz=>by obtain⟨L,e⟩:=yM z;obtain⟨q,r,Q,_⟩:=A p.1 L;obtain⟨o,J,d⟩:=j p.1 L;rw[e]at J;cases J;exact#[e,q,r,Q,d]
theorem Inv.jQ{O:St}(I:Inv X (K'++pl) O H s):Inv X K' O H s:=I.iq λp B=>I.pin p<|XA _<|Ze _ B
theorem JB{y:Expr}{body:List Stmt}{wi:TI}{g:TG}{tb:TS}{pos:Pos}(B:PassesOwn (model X.prog X.w) X.A X.env X.xe)(hc:X.calm=G')(hi:PI X tg y wi)(t:PG X tg g)(L:rG X body tb)
  (l:∀x,foldedSetIterable y X.env x=pure x:=by intro _;rfl):PS X (.For tg y body [] pos) (On wi g tb):=by
 intro M s O H D I h;refine wpAny_For (b9 (hi M s O H _ I h) λv s1 Z=>b9 Z λrz p Y=>?_) l;obtain⟨it,fp,F,J,H2,e,I2,T,P,f2,W,⟨m0,w0⟩,turn⟩:=Y;subst e;have qW:∀{j:Hp},(∀b∈fp,j b=B')->∀b∈fp,ja X M j b:=λhn b L=>#[hn b L,(f2 b L).2]
 refine codeAny_forLoop_any (λn S=>∃i A j,Inv X M A j S/\F i S.heap/\(∀b∈fp,j b=B')/\W i n A j) ?_ m0 #[0,O,H2,I2,P,λb L=>(f2 b L).1,w0];rintro n s3 ⟨i,U,K,z,KZ,Ta,w3⟩;rcases turn i n U K w3 with ⟨stop,qn⟩|⟨go,N,hN,step⟩
 ·refine aay B<|b9 (T.done X rfl rfl rfl hc i M s3 U K X.xe z (qW Ta) KZ stop) λr s4#[w,I4]=>?_;subst w;exact wpAny_execs_nil #[U,K,I4,qn]
 ·refine aay B<|b9 (T.item X rfl rfl rfl hc i M s3 U K X.xe z (qW Ta) KZ go) λr s4#[u,w,Q]=>?_;subst w;refine aay B<|b9 Q λ_ s5#[x,H5,I5,r5,y5,Sk,QD]=>?_;have Ur:=I5.pinned (qW QD)<|T.obj _ _ Sk;refine aay B<|b9 (t _ s5 U H5 x u _ Ur r5<|step x H5 y5) λ_ s6#[σ6,H6,I6,q6]=>?_;refine aay B<|b9 (L _ s6 σ6 H6 _ I6 q6) λf s7 q7=>?_;have c:∀{a:St}{k:Hp},Inv X (M++ny fp s5.heap) a k s7->N a k->∃m,m<n/\∃i A j,Inv X M A j s7/\F i s7.heap/\(∀b∈fp,j b=B')/\W i m A j:=λ {a k} q n7=>by obtain⟨m',E,w7⟩:=hN a k n7;refine#[m',E,i+1,a,k,q.jQ,T.keep _ _ _ Sk λb L o e=>(q.pin (b,o)<|XA _<|XA _<|fP L e).1,λb L=>?_,w7];obtain⟨o,e,d⟩:=T.obj _ _ Sk b L;exact(q.pin (b,o)<|XA _<|XA _<|fP L e).2.1
  cases f with
  |next=>obtain⟨a,k,q,n7⟩:=q7;exact c q n7
  |cont=>obtain⟨a,k,q,n7⟩:=q7;exact c q n7
  |brk=>obtain⟨a,k,q,q7⟩:=q7;exact#[a,k,q.jQ,q7]
  |ret v=>obtain⟨x7,a,k,q,r7,q7⟩:=q7;exact#[x7,a,k,q.jQ,r7,q7]
end
end L2
namespace L2
open PySem PySem.Spec PyProof.Rows
abbrev R2:=V->V->Hp->VK->Prop
def kB(X:Cx)(f:Value->Value->Sem Value)(r:R2):Prop:=
 ∀(M:List (Addr×Obj))(s:Shared)(O:St)(H:Hp)(x y:V)(v u:Value)(Q:VK),Inv X M O H s->RelV x v->RelV y u->r x y H Q->
  wpAny (model X.prog X.w) X.A (f v u) (EP X M O Q) X.xe s
def Qe(X:Cx)(f:Value->Sem Value)(r:V->Hp->VK->Prop):Prop:=
 ∀(M:List (Addr×Obj))(s:Shared)(O:St)(H:Hp)(x:V)(v:Value)(Q:VK),Inv X M O H s->RelV x v->r x H Q->
  wpAny (model X.prog X.w) X.A (f v) (EP X M O Q) X.xe s
def cc(X:Cx)(f:Value)(r:List V->Hp->VK->Prop):Prop:=
 ∀(M:List (Addr×Obj))(s:Shared)(O:St)(H:Hp)(xs:List V)(c:List Value)(Q:VK),Inv X M O H s->aw xs c->r xs H Q->
  wpAny (model X.prog X.w) X.A (call f c) (EP X M O Q) X.xe s
def Qd(X:Cx)(r:V->Hp->(Bool->Hp->Prop)->Prop):Prop:=
 ∀(M:List (Addr×Obj))(s:Shared)(O:St)(H:Hp)(x:V)(v:Value)(Q:Bool->Hp->Prop),Inv X M O H s->RelV x v->r x H Q->
  wpAny (model X.prog X.w) X.A (truthy v) (TP X M O Q) X.xe s
def PQ(r:R2)(g tb:TE):TE:=λO H Q=>g O H λx P=>tb O P λy n=>r x y n Q
def We(r:V->Hp->VK->Prop)(g:TE):TE:=λO H Q=>g O H λx P=>r x P Q
def rI(C:Int->Int->Prop)(g:Int->Int->V):R2:=λx y H Q=>∃i j,x= .int i/\y= .int j/\C i j/\Q (g i j) H
def GF(g:Int->Int->V):R2:=λx y H Q=>∃i j,x= .int i/\y= .int j/\Q (g i j) H
def rU(g:Int->V):V->Hp->VK->Prop:=λx H Q=>∃i,x= .int i/\Q (g i) H
section
variable{X:Cx}{a b:Expr}{ta tb:TE}{pos:Pos}
theorem Hk(m:PE X a ta)(L:PE X b tb){O:St}{R:V->V->Hp->Prop}(I:Inv X K' O H s)
  (h:ta O H λx P=>tb O P λy n=>R x y n)  {f:Value->Value->Sem Value}
  (A:∀v u p x y n,Inv X K' O n p->RelV x v->RelV y u->R x y n->wpAny (model X.prog X.w) X.A (f v u) Q X.xe p):
  wpAny (model X.prog X.w) X.A (eval a X.env) (λv Z=>wpAny (model X.prog X.w) X.A (eval b X.env) (λu i=>wpAny (model X.prog X.w) X.A (f v u) Q X.xe i) X.xe Z) X.xe s:=by
 refine b9 (m K' s O H _ I h) λv s1#[x,P,F,B,S]=>?_
 refine b9 (L K' s1 O P _ F S) λu p#[y,n,Y,r2,q2]=>?_
 exact A v u p x y n Y B r2 q2
theorem GA(j:kB X (binaryOp op) r)(m:PE X a ta)(L:PE X b tb):PE X (.BinOp a op b pos) (PQ r ta tb):=by intro M s O H Q I h;exact wpAny_BinOp<|Hk m L I h λv u p x y n Y S c q=>j M p O n x y v u Q Y S c q
theorem Nu(j:Qe X (unaryOp op) r)(m:PE X a ta):PE X (.UnaryOp op a pos) (We r ta):=by intro M s O H Q I h;exact UnaryOp_<|b9 (m M s O H _ I h) λv s1#[x,P,F,B,S]=>j M s1 O P x v Q F B S
theorem PK{g:Int->Int->Int}
  (a:∀(i j:Int)(t u:Tok)(s:Shared)(Q:Value->Shared->Prop)(E:Value->Shared->Prop),C i j->Q (.int (g i j) s.toks) {s with toks:=s.toks+1}->wpAny (model X.prog X.w) X.A (f (.int i t)<|.int j u) Q E s):
  kB X f (rI C λi j=>.int<|g i j):=by
 intro M s O H x y v u Q I S c h;obtain⟨i,j,rfl,rfl,J,q⟩:=h;obtain⟨t,rfl⟩:=S;obtain⟨t',rfl⟩:=c;exact a i j t t' s _ _ J #[.int<|g i j,H,I.tok _,#[_,rfl],q]
theorem Ng{g:Int->Int->Int}
  (a:∀(i j:Int)(t u:Tok)(s:Shared)(Q:Value->Shared->Prop)(E:Value->Shared->Prop),Q (.int (g i j) s.toks) {s with toks:=s.toks+1}->wpAny (model X.prog X.w) X.A (f (.int i t)<|.int j u) Q E s):
  kB X f (GF λi j=>.int<|g i j):=by
 intro M s O H x y v u Q I S c h;obtain⟨i,j,rfl,rfl,q⟩:=h;obtain⟨t,rfl⟩:=S;obtain⟨t',rfl⟩:=c;exact a i j t t' s _ _ #[.int<|g i j,H,I.tok _,#[_,rfl],q]
theorem Ex{g:Int->Int->Bool}
  (a:∀(i j:Int)(t u:Tok)(s:Shared)(Q:Value->Shared->Prop)(E:Value->Shared->Prop),Q (.bool<|g i j) s->wpAny (model X.prog X.w) X.A (f (.int i t)<|.int j u) Q E s):
  kB X f (GF λi j=>.bl<|g i j):=by
 intro M s O H x y v u Q I S c h;obtain⟨i,j,rfl,rfl,q⟩:=h;obtain⟨t,rfl⟩:=S;obtain⟨t',rfl⟩:=c;exact a i j t t' s _ _ #[.bl<|g i j,H,I,rfl,q]
def P0(i j:Int):Prop:=0<=j/\j<=1000000/\i.natAbs<2^64
def GW(i j:Int):Prop:=(-(2^64)<i/\i<2^64)\/(-(2^64)<j/\j<2^64)
theorem GW.ok(h:GW i j):IntMulOk i j:=by
 rcases h with ⟨Z,Y⟩|⟨Z,Y⟩
 ·exact .of_left<|intBits_le_64 Z Y
 ·exact .of_right<|intBits_le_64 Z Y
theorem Jg:kB X (binaryOp .Add) (GF λi j=>.int<|i+j):=Ng λ_ _ _ _ _ _ _ q=>add_int q
theorem Jn:kB X (binaryOp .Sub) (GF λi j=>.int<|i-j):=Ng λ_ _ _ _ _ _ _ q=>sub_int q
theorem Jk:kB X (binaryOp .Mult) (rI GW λi j=>.int<|i*j):=PK λ_ _ _ _ _ _ _ J q=>mul_int q J.ok
theorem Ez:kB X (binaryOp .Mod) (rI (λ_ j=>j≠0) λi j=>.int<|i.fmod j):=PK λ_ _ _ _ _ _ _ J q=>mod_int' J q
theorem Jl:kB X (binaryOp .Pow) (rI P0 λi j=>.int<|i^j.toNat):=PK λ_ _ _ _ _ _ _ J q=>pow_int_small J.1 J.2.1 J.2.2 q
theorem OB{g:Int->Int}
  (a:∀(i:Int)(t:Tok)(s:Shared)(Q:Value->Shared->Prop)(E:Value->Shared->Prop),Q (.int (g i) s.toks) {s with toks:=s.toks+1}->wpAny (model X.prog X.w) X.A (f<|.int i t) Q E s):
  Qe X f (rU λi=>.int<|g i):=by
 intro M s O H x v Q I S h;obtain⟨i,rfl,q⟩:=h;obtain⟨t,rfl⟩:=S;exact a i t s _ _ #[.int<|g i,H,I.tok _,#[_,rfl],q]
theorem Km:Qe X (unaryOp .USub) (rU λi=>.int<|-i):=OB λ_ _ _ _ _ q=>neg_int q
end
section
variable{X:Cx}{a b c:Expr}{ta tb:TE}{pos:Pos}
theorem uT{O:St}(I:Inv X K' O H s)(q:Q (.bl k) H)(e:k=k'):EP X K' O Q (.bool k') s:=by subst e;exact#[.bl k,H,I,rfl,q]
theorem Nk:kB X (compareOp .Lt) (GF λi j=>.bl<|decide (i<j)):=Ex λ_ _ _ _ _ _ _ q=>lt_int q
theorem Nj:kB X (compareOp .LtE) (GF λi j=>.bl<|decide (i<=j)):=Ex λ_ _ _ _ _ _ _ q=>le_int q
theorem Ni:kB X (compareOp .Gt) (GF λi j=>.bl<|decide (j<i)):=Ex λ_ _ _ _ _ _ _ q=>gt_int q
theorem Nh:kB X (compareOp .GtE) (GF λi j=>.bl<|decide (j<=i)):=Ex λ_ _ _ _ _ _ _ q=>ge_int q
theorem Jj:kB X (compareOp .Is) (λx y H Q=>y= .bj/\Q (.bl<|decide (x= .bj)) H):=by
 intro M s O H x y v u Q I S c h;obtain⟨rfl,q⟩:=h;cases c;refine is_none_gen<|uT I q ?_;cases x<;>first
  |(cases S;rfl)
  |(obtain⟨t,rfl⟩:=S;rfl)
theorem EA:kB X (compareOp .IsNot) (λx y H Q=>y= .bj/\Q (.bl<|!decide (x= .bj)) H):=by
 intro M s O H x y v u Q I S c h;obtain⟨rfl,q⟩:=h;cases c;refine isnot_none_gen<|uT I q ?_;cases x<;>first
  |(cases S;rfl)
  |(obtain⟨t,rfl⟩:=S;rfl)
theorem xg(j:kB X (compareOp op) r)(m:PE X a ta)(L:PE X b tb)(E:behindInMarks op b=J'):PE X (.Compare a [op] [b] pos) (PQ r ta tb):=by intro M s O H Q I h;exact wpAny_Compare1 (Hk m L I h λv u p x y n Y S c q=>j M p O n x y v u Q Y S c q) E
def Ox(t:TE):TT:=λσ H Q=>t σ H λx H'=>∃k,x= .bl k/\Q k H'
theorem EX(j:kB X (compareOp op) r)(m:PE X a ta)(L:PE X b tb)(E:behindInMarks op b=J'):PT X (.Compare a [op] [b] pos) (Ox<|PQ r ta tb):=by
 intro M s O H Q I h;refine wpAny_isTrue_Compare1 (b9 (m M s O H _ I h) λv s1#[x,P,F,B,S]=>b9 (L M s1 O P _ F S) λu p#[y,n,Y,r2,A]=>
  b9 (j M p O n x y v u _ Y B r2 A) λc g#[z,K,I3,r3,k,e,U]=>?_) E
 subst e;cases r3;exact aaE #[K,I3,U]
def K6(K:PySem.W.Frag)(x:V)(H:Hp)(k:Bool):Prop:=
 match x with
 |.bj=>k=J'
 |.bl b=>k=b
 |.int i=>k=(i != 0)
 |.str y=>y.length<=sizeLine/\k=((y.length:Int) != 0)
 |.Hr y=>y.size<=sizeLine/\k=((y.size:Int) != 0)
 |.ref p=>(∃xs,cX K H p xs/\k= !xs.isEmpty)\/(∃xs,fD K H p xs/\k= !xs.isEmpty)\/∃eF,H p=y' (.dK eF)/\k= !eF.isEmpty
 |_=>False
theorem u6{L:List (κ×V)}{U:List (κ×Value)}(r:KV L U):(!U.isEmpty)= !L.isEmpty:=by cases r<;>rfl
theorem mT(r:aw xs ak):(!ak.toArray.isEmpty)= !xs.isEmpty:=by cases r<;>simp
theorem qw:(sizeLine:Nat)<2^63:=by rw[aap];decide
theorem fV:Qd X (λx H Q=>∃k,K6 X.K x H k/\Q k H):=by
 intro K' s σ H x v Q I rx h;obtain⟨k,e,q⟩:=h;have hs:=aap;cases x with
 |bj=>cases rx;have e':=e;subst e';exact truthy_none #[H,I,q]
 |bl b=>cases rx;have e':=e;subst e';exact aaE #[H,I,q]
 |int i=>obtain⟨t,rfl⟩:=rx;have e':=e;subst e';exact PySem.P.truthy_int #[H,I,q]
 |str y=>obtain⟨t,rfl⟩:=rx;obtain⟨hy,e'⟩:y.length<=sizeLine/\k=((y.length:Int) != 0):=e;subst e';exact PySem.P.truthy_str ⋯ #[H,I.tok _,q]
 |Hr y=>obtain⟨t,rfl⟩:=rx;obtain⟨hy,e'⟩:y.size<=sizeLine/\k=((y.size:Int) != 0):=e;subst e';exact PySem.W.truthy_bytes ⋯ #[H,I.tok _,q]
 |ref p=>
  cases rx;have e':=e;rcases e' with ⟨xs,hx,e'⟩|⟨xs,hx,e'⟩|⟨eF,hx,e'⟩
  ·subst e';obtain⟨ak,r,pl,hz⟩:=I.list hx;have hlen:=r.length;exact wpAny_truthy_list pl.isList (by simp only[W4];lia) #[H,I.tok _,by rw[mT r];exact q]
  ·subst e';obtain⟨ak,r,pl,hz⟩:=I.tuple hx;have hlen:=r.length;exact truthy_tuple pl (by simp only[W4];lia) #[H,I.tok _,by rw[mT r];exact q]
  ·subst e';obtain⟨hz,hS,vs,r,m⟩:eF.length<=sizeLine/\(p==sysModules)=J'/\∃vs,KV eF vs/\s.heap.DictOf (qy X.prog X.w) p vs:=I.hok p _ hx;have hlen:=Paired.length r;exact wpAny_truthy_dict hS m ⋯ #[H,I.tok _,by rw[u6 r];exact q]
 |_=>exact(e).elim
theorem B3(m:PE X a ta)(K:∀c,isTrue a X.env c=(do let v<-c;standAt a.pos;holding [v] (truthy v))):
  PT X a (λO H Q=>ta O H λx j=>∃k,K6 X.K x j k/\Q k j):=by
 intro M s O H Q I h;exact isTrue_plain (b9 (m M s O H _ I h) λv s1#[x,P,F,B,S]=>fV M s1 O P x v Q F B S)<|K _
theorem vals1(r:aw [x] us):∃u,us=[u]/\RelV x u:=by
 cases r with
 |cons B r2=>cases r2;exact#[_,rfl,B]
theorem vals2(r:aw [x,y] us):∃u n,us=[u,n]/\RelV x u/\RelV y n:=by
 cases r with
 |cons B r2=>
  cases r2 with
  |cons F a=>cases a;exact#[_,_,rfl,B,F]
theorem Ap:cc X (.builtin "abs") (λxs H Q=>∃i,xs=[.int i]/\Q (.int<|if i<0 then -i else i) H):=by intro M s O H xs c Q I r h;obtain⟨i,rfl,q⟩:=h;obtain⟨u,rfl,t,rfl⟩:=vals1 r;exact call_abs_int λu tk=>#[.int<|if i<0 then -i else i,H,I.tok _,#[_,rfl],q]
theorem xY(J:X.calm=G'):cc X (.builtin "max") (λxs H Q=>∃i j,xs=[.int i,.int j]/\Q (.int<|if j>i then j else i) H):=by
 intro M s O H xs c Q I r h;obtain⟨i,j,rfl,q⟩:=h;obtain⟨u,n,rfl,⟨t,rfl⟩,⟨t',rfl⟩⟩:=vals2 r;refine max_two_ints (I.ok.hd J) λy tk k=>#[_,H,I.kept k,?_,q]
 by_cases F:j>i
 ·rw[aaf F,aaf F];exact#[_,rfl]
 ·rw[aae F,aae F];exact#[_,rfl]
theorem x8(J:X.calm=G'):cc X (.builtin "min") (λxs H Q=>∃i j,xs=[.int i,.int j]/\Q (.int<|if j<i then j else i) H):=by
 intro M s O H xs c Q I r h;obtain⟨i,j,rfl,q⟩:=h;obtain⟨u,n,rfl,⟨t,rfl⟩,⟨t',rfl⟩⟩:=vals2 r;refine min_two_ints (I.ok.hd J) λy tk k=>#[_,H,I.kept k,?_,q]
 by_cases F:j<i
 ·rw[aaf F,aaf F];exact#[_,rfl]
 ·rw[aae F,aae F];exact#[_,rfl]
def P9(K:PySem.W.Frag)(x:V)(H:Hp)(n:Nat):Prop:=
 match x with
 |.str y=>y.length<=sizeLine/\n=y.length
 |.Hr y=>y.size<=sizeLine/\n=y.size
 |.ref p=>(∃xs,cX K H p xs/\n=xs.length)\/∃xs,fD K H p xs/\n=xs.length
 |_=>False
theorem mf:cc X (.builtin "len") (λxs H Q=>∃x n,xs=[x]/\P9 X.K x H n/\Q (.int n) H):=by
 intro K' s σ H xs us Q I r h;obtain⟨x,n,rfl,e,q⟩:=h;obtain⟨u,rfl,rx⟩:=vals1 r;have hs:=aap;cases x with
 |str y=>obtain⟨t,rfl⟩:=rx;obtain⟨hy,e'⟩:y.length<=sizeLine/\n=y.length:=e;subst e';exact len_str ⋯ #[.int _,H,I.tok _,#[_,rfl],q]
 |Hr y=>obtain⟨t,rfl⟩:=rx;obtain⟨hy,e'⟩:y.size<=sizeLine/\n=y.size:=e;subst e';exact PySem.W.len_bytes ⋯ #[.int _,H,I.tok _,#[_,rfl],q]
 |ref p=>
  cases rx;have e':=e;rcases e' with ⟨xs,hx,e'⟩|⟨xs,hx,e'⟩
  ·subst e';obtain⟨ak,r',pl,hz⟩:=I.list hx;have hlen:=r'.length;exact Calls.call_len_list pl.isList (by simp only[W4];lia) #[.int xs.length,H,I.tok _,#[_,by simp only[W4];rw[hlen]],q]
  ·subst e';obtain⟨ak,r',pl,hz⟩:=I.tuple hx;have hlen:=r'.length;exact len_tuple pl (by simp only[W4];lia) #[.int xs.length,H,I.tok _,#[_,by simp only[W4];rw[hlen]],q]
 |_=>exact(e).elim
end
end L2
namespace L2
open PySem PySem.Spec PyProof.Rows
structure G0(h:Heap)(x dx C:Addr)(mA:Str->Option Value):Prop where
 obj:h.get? x=y' (PySem.W.instObj C dx)
 ns:h.Ns1 dx mA
 ne:dx≠x
theorem yK{h:Heap}(n:h.Ns1 dx mA):∃od,h.get? dx=y' od/\∀name,PySem.W.lookIn name od=y' (mA name):=by
 obtain⟨o,es,Q,j,hd,P,_,E⟩:=n;refine#[o,j,λname=>?_];have e:=E name;unfold nsFind findBy at e;rw[<-Array.find?_toList]at e;unfold PySem.W.lookIn;rw[hd];dsimp only;split
 ·rename_i y q;rw[q]at e;exact aab y' e
 ·rename_i q;rw[q]at e;have a:es.toList.any (·.refKey)=J':=by rw[YE];intro y F;obtain⟨z,t,b⟩:=P y<|Array.mem_toList_iff.mp F;simp[DictEntry.refKey,b]
  have l:¬es.toList.any (·.refKey)=G':=by rw[a];exact X7
  rw[aae l];exact aab y' e
theorem G0.look(I:G0 h x dx C mA):∃od,PySem.W.InstAt h x (PySem.W.instObj C dx) C (y' od)/\∀name,PySem.W.lookIn name od=y' (mA name):=
 let #[od,j,W]:=yK I.ns
 #[od,#[I.obj,rfl,rfl,j],W]
section
variable{P:Program}{w:World}{H:Hp}{h:Heap}{a C dx:Addr}{fs:List (Str×V)}
theorem D5(hok:eS P w H h)(e:H a=y' (.ins C dx fs)):∃l,G0 h a dx C l/\(∀f,G2 (fs.lookup f)<|l f)/\PySem.Within l (fs.map (·.1))/\fs.length<=1000/\H dx=y' (.own a):=by obtain⟨d,z,ne,Z,l,n,r,q⟩:=(hok a _ e);exact#[l,#[Z,n,ne],r,q,z,d]
end
structure P3(K:PySem.W.Frag)(C:Addr):Prop where
 pg:PySem.W.plainGet K C Str.empty=G'
 hd:PySem.W.hasDictIn K C=G'
 po:PySem.W.plainOver K C=G'
 sa:PySem.W.findIn K (.ref C) "__setattr__"=y' (y'<|.builtin "object.__setattr__")
theorem P3.get{K:PySem.W.Frag}(c:P3 K C)(f):PySem.W.plainGet K C f=G':=c.pg
section
variable{X:Cx}{K':List (Addr×Obj)}{σ:St}{H:Hp}{s:Shared}{A:Around}{E:Value->Shared->Prop}{Q:Value->Shared->Prop}{c:Value}{b:Bool}
inductive jd(K:PySem.W.Frag)(H:Hp):V->Value->Prop where
 |bj:jd K H .bj (.type "NoneType")
 |bl (x:Bool):jd K H (.bl x) (.type "bool")
 |int (i:Int):jd K H (.int i) (.type "int")
 |str (x:Str):jd K H (.str x) (.type "str")
 |C3 (x:UInt64):jd K H (.C3 x) (.type "float")
 |lst {a:Addr} {xs:List V} (e:H a=y' (.lst xs)):jd K H (.ref a) (.type "list")
 |yl {a:Addr} {o:Obj} {xs:List V} (e:H a=y' (.yl o (.lst xs))):jd K H (.ref a) (.type "list")
 |tup {a:Addr} {xs:List V} (e:H a=y' (.tup xs)):jd K H (.ref a) (.type "tuple")
 |dK {a:Addr} {eF:List (Key×V)} (e:H a=y' (.dK eF)):jd K H (.ref a) (.type "dict")
 |dT {a:Addr} {eF:List (List Key×V)} (e:H a=y' (.dT eF)):jd K H (.ref a) (.type "dict")
 |ins {a C dx:Addr} {fs:List (Str×V)} (e:H a=y' (.ins C dx fs)) (cl:P3 K C) (ha:PySem.W.findIn K (.ref C) "__class__"=y' (y' (.builtin "object.__class__")))
   (hn:PySem.W.specialIn K (.builtin "object.__class__") "__get__"=y' (y' (.builtin "getset_descriptor.__get__"))) (TR:PySem.W.takesIn K (.builtin "object.__class__")=y' G')
   (hm:PySem.W.mroIn K C (.type "object")=y' G'):jd K H (.ref a) (.ref C)
theorem yF(I:Inv X K' σ H s)(S:RelV x u)(g:jd X.K H x t)(e:PySem.W.kitOne X.K t c=y' b)(h:∀tk,Q (.bool b) {s with toks:=tk}):
  wpAny (model X.prog X.w) A (call (.builtin "isinstance") [u,c]) Q E s:=by
 cases g with
 |bj=>cases (S);exact Z6 PySem.W.kitx_none I.lA True.intro e (λz=>nomatch z) h
 |bl y=>cases (S);exact Z6 PySem.W.kitx_bool I.lA True.intro e (λz=>nomatch z) h
 |int i=>obtain⟨t,q⟩:=(S);cases q;exact Z6 PySem.W.kitx_int I.lA True.intro e (λz=>nomatch z) h
 |str y=>obtain⟨t,q⟩:=(S);cases q;exact Z6 PySem.W.kitx_str I.lA True.intro e (λz=>nomatch z) h
 |C3 y=>obtain⟨t,q⟩:=(S);cases q;exact Z6 PySem.W.kitx_float I.lA True.intro e (λz=>nomatch z) h
 |@lst a xs k=>cases (S);obtain⟨_,_,n,_,Z⟩:=(I.hok a _ k);exact Z6 PySem.W.kitx_list I.lA #[_,Z,rfl] e (λz=>nomatch z) h
 |@yl a ob xs k=>cases (S);obtain⟨_,_,_,n,_,Z⟩:=(I.hok a _ k);exact Z6 PySem.W.kitx_list I.lA #[_,Z,rfl] e (λz=>nomatch z) h
 |@tup a xs k=>cases (S);obtain⟨_,_,_,p⟩:=(I.hok a _ k);obtain⟨o,Z,Y,_⟩:=p;exact Z6 PySem.W.kitx_tuple I.lA #[o,Z,Y] e (λz=>nomatch z) h
 |@dK a L k=>cases (S);obtain⟨_,_,U,_,p⟩:=(I.hok a _ k);obtain⟨o,es,ep,Z,Y,_⟩:=p;exact Z6 PySem.W.kitx_dict I.lA #[o,Z,Y.1] e (λz=>nomatch z) h
 |@dT a L k=>cases (S);obtain⟨_,_,xs,_,o,es,ep,Z,Y,_⟩:=(I.hok a _ k);exact Z6 PySem.W.kitx_dict I.lA #[o,Z,Y.1] e (λz=>nomatch z) h
 |@ins a C B fs k cl m hn j hm=>cases (S);obtain⟨l,O,_⟩:=D5 I.hok k;obtain⟨od,J,_⟩:=O.look;exact Z6 (PySem.W.kitx_own (cl.get _) cl.hd m hn j hm) I.lA J e (λz=>nomatch z) h
end
end L2
namespace L2
open PySem PySem.Spec PyProof.Rows
structure jb(k:Nat)(A:Around):Prop where
 hd:A.handled=B'
 dp:A.depth+3*k+5<recursionLimit
 un:A.units+16*k+200<cLine
theorem jb.deeper(r:jb (k+1) A)(env):jb k (A.deeper env):=
 #[r.hd,by have:=r.dp;show A.depth+1+3*k+5<_;lia,by have:=r.un;show A.units+3+16*k+200<_;lia]
theorem jb.depth(r:jb k A):A.depth<recursionLimit:=by have:=r.dp;lia
def Oq:TA:=λ_ H Q=>Q [] H
def GO(g:TE)(a:TA):TA:=λO H Q=>g O H λx P=>a O P λxs n=>Q (x::xs) n
section
variable{X:Cx}{e:Expr}{es:List Expr}{te:TE}{t:TA}{pos:Pos}
theorem fS:PA X [] Oq:=λ_ _ _ _ H Q I h=>Calls.spliced_nil #[[],H,I,.nil,h]
theorem bJ(m:PE X e te)(w:PA X es t)(l:starEach (e::es) X.env=(J',eval e X.env)::starEach es X.env:=by rfl):PA X (e::es) (GO te t):=by intro pos M s O H Q I h;rw[l];refine Calls.spliced_cons<|b9 (m M s O H _ I h) λu s1#[x,P,F,B,S]=>?_;exact b9 (w pos M s1 O P _ F S) λc p#[xs,n,Y,r2,A]=>#[x::xs,n,Y,.cons B r2,A]
def Su(t:TA):TE:=λO H Q=>t O H λxs P=>xs.length<=sizeLine/\∀p,P p=B'->Q (.ref p) (upd P p<|.tup xs)
def So(t:TA):TE:=λO H Q=>t O H λxs P=>xs.length<=sizeLine/\∀p,P p=B'->Q (.ref p) (upd P p<|.lst xs)
theorem Js{o}(h:PA X es t):PE X (.Tuple es o pos) (Su t):=by intro M s O H Q I K;refine wpAny_Tuple_spliced<|b9 (h pos M s O H _ I K) λc s1#[xs,P,F,r,z,q]=>#[by rw[<-r.length];exact z,?_];have A:=F.hok.fresh<|W9 _;refine#[.ref s1.heap.objs.size,upd P s1.heap.objs.size<|.tup xs,F.laid (λb u e=>W1 _ e) (W9 _) ?_,rfl,q _ A];exact#[z,c,r,#[_,Xb _ rfl,rfl,_,rfl,rfl,rfl]]
theorem BP(h:PA X es t):PE X (.List es pos) (So t):=by intro M s O H Q I K;refine wpAny_List_spliced<|b9 (h pos M s O H _ I K) λc s1#[xs,P,F,r,z,q]=>#[by rw[<-r.length];exact z,?_];have A:=F.hok.fresh<|W9 _;refine#[.ref s1.heap.objs.size,upd P s1.heap.objs.size<|.lst xs,F.laid (λb u e=>W1 _ e) (W9 _) ?_,rfl,q _ A];exact#[z,c,0,r,Xb _ rfl]
end
abbrev Sp:=List V->Hp->VK->XK->Prop
abbrev oo:=List Env->Hp->Shared->XK->Value->Shared->Prop
structure C9(P:Program)(w:World)(K:PySem.W.Frag)(mg:Str->Option Value)(base:Heap)(A:Around)(outer:List Env)(s:Shared)(H:Hp):Prop where
 frames:A.frames=y' outer
 mod:Mod K mg base
 bs:∀b o,base.get? b=y' o->s.heap.get? b=y' o/\H b=B'
 CZ:base.objs.size<=s.heap.objs.size
 iR:s.heap.FunFrames base outer
 DK:∀b∈fE outer,H b=B'
 hok:eS P w H s.heap
 bare:AllBare s.gens
def CE(outer:List Env)(P:Program)(w:World)(H:Hp)(s:Shared)(Q:VK)(u:Value)(S:Shared):Prop:=
 ∃v j,S.os=s.os/\AllBare S.gens/\Un (fE outer) [] H j s.heap S.heap/\eS P w j S.heap/\RelV v u/\Q v j
def CR(CX:oo)(outer:List Env)(P:Program)(w:World)(H:Hp)(s:Shared)(Q:VK)(E:XK)(r:Result)(s':Shared):Prop:=
 match r with
 |.ok (.ret u)=>CE outer P w H s Q u s'
 |.ok _=>False
 |.error e=>CX outer H s E e s'
structure jS(P:Program)(w:World)(K:PySem.W.Frag)(mg:Str->Option Value)(base:Heap)(CX:oo)(k:Nat)(f:Addr)(fd:FuncData)(ps:List Str)(sp:Sp):Prop where
 len:∀vs H Q E,sp vs H Q E->vs.length=ps.length
 run:∀(A:Around)(outer:List Env)(s:Shared)(H:Hp)(args:Args)(us:List Value)(vs:List V)(Q:VK)(E:XK),jb k A->C9 P w K mg base A outer s H->BindsTo s fd args (ps.zip us)->aw vs us->sp vs H Q E->
  codeAny (model P w) A (.call (.ref f) args) (CR CX outer P w H s Q E) s
theorem jS.imp{K:PySem.W.Frag}(F:jS P w K mg base CX k f fd ps sp)
  (h:∀U H Q E,T9 U H Q E->sp U H Q E):jS P w K mg base CX k f fd ps T9:=
 #[λU H Q E q=>F.len U H Q E<|h _ _ _ _ q,λA outer s H args c U Q E hr he L M l=>F.run A outer s H args c U Q E hr he L M<|h _ _ _ _ l]
section
variable{X:Cx}{K':List (Addr×Obj)}{σ:St}{H:Hp}{s s':Shared}
theorem Inv.gE(I:Inv X K' σ H s):C9 X.prog X.w X.K X.mg X.base X.A X.stack s H:=
 #[I.ok.frames,I.ok.mod,I.bs,Xf I.ok.CZ I.sz,I.stack,I.qY,I.hok,I.bare]
theorem Inv.after(I:Inv X K' σ H s)(h:CE X.stack X.prog X.w H s Q u s'):EP X K' σ Q u s':=by obtain⟨v,j,os,bare,un,hok,r,q⟩:=h;obtain⟨W,g,d,t,a⟩:=s';obtain rfl:a=s.os:=os;exact#[v,j,I.call un hok bare λb z=>absurd z<|by simp,r,q]
end
def Om(sp:Sp)(a:List V)(E:XK)(t:TA):TE:=λO H Q=>t O H λU P=>sp (U++a) P Q E
def Binds(K:PySem.W.Frag)(g:FuncData)(ps:List Str)(ds:List Value):Prop:=
 ∀(s:Shared)(c:List Value),K.In s.heap->(c++ds).length=ps.length->BindsTo s g #[c,[]] (ps.zip<|c++ds)
theorem Binds.all{K:PySem.W.Frag}(h:∀c:List Value,c.length=ps.length->bindArgs fd #[c,[]]=pure (ps.zip c)):Binds K fd ps []:=λs c _ W=>by rw[XM]at W ⊢;exact .of_eq<|h c W
def uw(CX:oo)(X:Cx)(E:XK):Prop:=∀(M:List (Addr×Obj))(O:St)(H:Hp)(s:Shared)(e:Value)(S:Shared),Inv X M O H s->CX X.stack H s E e S->X.xe e S
section
variable{X:Cx}{CX:oo}{k:Nat}{f:Addr}{fd:FuncData}{ps:List Str}{sp:Sp}{wg:List V}{ds:List Value}{E:XK}{x:Str}{p pos:Pos}{e:Expr}{es:List Expr}{t:TA}
theorem JR{O:St}(F:jS X.prog X.w X.K X.mg X.base CX k f fd ps sp)(w:jb k X.A)(L:Binds X.K fd ps ds)(hd:aw wg ds)(U:uw CX X E)
  (I:Inv X K' O H s) (r:aw vs us) (h:sp (vs++wg) H Q E):wpAny (model X.prog X.w) X.A (call (.ref f) us) (EP X K' O Q) X.xe s:=by
 have r2:=r.append hd;have W:(us++ds).length=ps.length:=by rw[<-r2.length];exact F.len _ _ _ _ h
 refine wpAny_call<|codeAny_mono (F.run X.A X.stack s H #[us,[]] (us++ds) (vs++wg) Q E w I.gE (L s us I.lA W) r2 h) λr S K=>?_;cases r with
 |error e=>exact U K' O H s e S I K
 |ok a=>
  cases a with
  |ret u=>exact I.after K
  |next=>exact False.elim K
  |brk=>exact False.elim K
  |cont=>exact False.elim K
theorem xf(F:jS X.prog X.w X.K X.mg X.base CX k f fd ps sp)(w:jb k X.A)(hg:Gl X x)(hm:X.mg x=y' (.ref f))(P:PySem.W.keepIn X.K (.ref f)=G')(L:Binds X.K fd ps ds)(hd:aw wg ds)(U:uw CX X E)
  (m:PA X (e::es) t) (y:(x==("__debug__":Str))=J':=by decide) (K:starEach (e::es) X.env=(J',eval e X.env)::starEach es X.env:=by rfl) (i:(backTo pos<|starEach es X.env).any (·.1)=J':=by rfl):
  PE X (.Call (.Name x p) (e::es) [] pos) (Om sp wg E t):=by
 intro M s O H Q I h;refine aaq<|jv I hg hm ?_ y;refine PySem.W.callWith_K I.ok.mod.IF P (b9 (m pos M s O H _ I h) λc s1#[vs,H1,I1,r,q]=>#[I1.lA,?_]) K i;exact JR F w L hd U I1 r q
end
structure fG(N P:List Str)(sc:Scope):Prop where
 kind:sc.kind= .function
 co:sc.isCoroutine=J'
 gen:sc.isGenerator=J'
 nd:N.Nodup
 pre:N.take P.length=P
 par:∀x∈P,sc.names.lookup x=y' .local\/sc.names.lookup x=y' .cell
 Jc:∀y∈sc.names,y.2≠ .free
theorem oR{a:Str->Option NameKind}:∀{b:List (Str×Value)}{m:Str->Option Value},(∀v,(x,v)∉b)->bindL a b m x=m x
 |[],_,_=>rfl
 |(n,v)::r,m,h=>by
  unfold bindL;rw[oR λw B=>h w<|W7 _ B];split
  ·have:x≠n:=by rintro rfl;exact h v Xa
   simp[this]
  ·rfl
theorem oP{a:Str->Option NameKind}:∀{b:List (Str×Value)}{m:Str->Option Value},(∀v,(x,v)∉b)->bindC a b m x=m x
 |[],_,_=>rfl
 |(n,v)::r,m,h=>by
  unfold bindC;rw[oP λw B=>h w<|W7 _ B];split
  ·rfl
  ·have:x≠n:=by rintro rfl;exact h v Xa
   simp[this]
theorem oQ{a:Str->Option NameKind}:∀{P:List Str}{U:List Value}{i:Nat}{m:Str->Option Value},P.Nodup->P[i]?=y' x->U[i]?=y' v->a x=y' .local->
  bindL a (P.zip U) m x=y' v
 |[],_,_,_,_,h,_,_=>by simp at h
 |_::_,[],_,_,_,_,h,_=>by simp at h
 |p::P,w::U,0,m,nd,Z,Y,hk=>by simp at Z Y;subst Z;subst Y;show bindL a ((p,w)::P.zip U) m p=_;unfold bindL;rw[oR λv M=>(Zm.mp nd).1 (Zn M).1,aaf hk];simp
 |p::P,w::U,i+1,m,nd,Z,Y,hk=>by unfold bindL;exact oQ (Zm.mp nd).2 (by simpa using Z) (by simpa using Y) hk
theorem oO{a:Str->Option NameKind}:∀{P:List Str}{U:List Value}{i:Nat}{m:Str->Option Value},P.Nodup->P[i]?=y' x->U[i]?=y' v->a x≠y' .local->
  bindC a (P.zip U) m x=y' v
 |[],_,_,_,_,h,_,_=>by simp at h
 |_::_,[],_,_,_,_,h,_=>by simp at h
 |p::P,w::U,0,m,nd,Z,Y,hk=>by simp at Z Y;subst Z;subst Y;show bindC a ((p,w)::P.zip U) m p=_;unfold bindC;rw[oP λv M=>(Zm.mp nd).1 (Zn M).1,aae hk];simp
 |p::P,w::U,i+1,m,nd,Z,Y,hk=>by unfold bindC;exact oO (Zm.mp nd).2 (by simpa using Z) (by simpa using Y) hk
def start(N:List Str)(U:List V):St:=U.map y'++List.replicate (N.length-U.length) B'
def mv(CX:oo)(P:Program)(w:World)(K:PySem.W.Frag)(mg:Str->Option Value)(base:Heap)(N:List Str)(qual:Str)(scope:Scope)(f:Addr)(cd:Value)(A:Around)(outer:List Env)(s:Shared)(H:Hp)(E:XK):Cx where
 prog:=P
 w:=w
 K:=K
 mg:=mg
 base:=base
 A:=A.deeper (envOfC qual scope s.heap.objs.size f cd)
 N:=N
 s₀:=s
 H₀:=H
 env:=envOfC qual scope s.heap.objs.size f cd
 outer:=outer
 stack:=envOfC qual scope s.heap.objs.size f cd::outer
 ex:=[]
 calm:=G'
 fn:=λ_=>G'
 pn:=[]
 xe:=λe s'=>wpAny (model P w) (A.deeper<|envOfC qual scope s.heap.objs.size f cd) (leaving (envOfC qual scope s.heap.objs.size f cd) e) (λ_ s''=>CX outer H s E e s'') (λe' s''=>CX outer H s E e' s'') s'
theorem rR{a:Scope}(h:a.names.lookup x=y' .cell):∃c,(cellsFrom n a.names []).lookup x=y' c:=by have q:=Z5 a.names n []<|.inl h;exact Option.isSome_iff_exists.mp q
theorem yD{K:PySem.W.Frag}
  (S:fG N ps scope) (hd:A.handled=B') (e0:C9 P w K mg base A outer s H) (W:vs.length=ps.length) (r:aw vs us)
  (x:InCallC s s.heap.objs.size (bindL (envOfC qual scope s.heap.objs.size f cd).kindOf (ps.zip us) λ_=>B') (cellsFrom (s.heap.objs.size+1) scope.names []) (bindC (envOfC qual scope s.heap.objs.size f cd).kindOf (ps.zip us) λ_=>B') s1):
  Inv (mv CX P w K mg base N qual scope f cd A outer s H E) [] (start N vs) H s1:=by
 have oE:ps.length<=N.length:=by have:=aab List.length S.pre;rw[Y8]at this;lia
 obtain⟨Z,tk,rfl,hk⟩:=x.done;have I:∀b:Addr,b∉(mv CX P w K mg base N qual scope f cd A outer s H E).ex:=λb z=>absurd (show b∈([]:List Addr) from z) (by simp)
 refine#[#[e0.mod,S.kind,rfl,rfl,W9 _,λy z c Z Y=>?_,λy F=>?_,λy c _ h=>?_,λ_=>hd,Around.frames_deeper e0.frames,.inr #[rfl,rfl],λb z=>absurd z<|I b,e0.bs,e0.CZ,λb _ _=>I b,λb z=>absurd z<|I b,e0.iR,e0.DK],
  rfl,e0.bare,Un.kept hk,#[_,x.toInCall.ns,λi y v Z Y h3=>?_],λy c h=>#[_,x.cell y c h],e0.hok.fresh<|W9 _,λy c h=>?_,λp B=>absurd (show p∈([]:List (Addr×Obj)) from B)<|by simp,e0.hok.kept hk,?_]
 ·exact name_of_addr x.apart (Z7 Z)<|Z7 Y
 ·have F:=F;rcases F with F|F
  ·exact rR F
  ·exact absurd rfl<|S.Jc _<|Z7 F
 ·exact ZK<|x.above y c<|Z7 h
 ·have hi:i<vs.length:=by
   unfold start at Y;by_cases hi:i<vs.length
   ·exact hi
   ·rw[XQ (by simpa using hi),YV]at Y;split at Y<;>cases Y
  have m:vs[i]?=y' v:=by
   unfold start at Y;rw[XO (by simpa using hi),Xn]at Y;cases e:vs[i]? with
   |none=>rw[e]at Y;cases Y
   |some a=>rw[e]at Y;cases Y;rfl
  obtain⟨u,J,rv⟩:=r.get m;have B:ps[i]?=y' y:=by rw[<-S.pre,YX ⋯];exact Z
  have g:ps.Nodup:=by rw[<-S.pre];exact S.nd.sublist (ZC _ _)
  refine#[u,rv,?_];rcases S.par y (Zj B)with k|k
  ·exact .inl #[k,oQ g B J k]
  ·obtain⟨c,e⟩:=rR k;refine .inr #[.inl k,c,e,?_];have q:=x.cell y c e;rw[oO g B J (by show scope.names.lookup y≠_;rw[k];decide)]at q;exact q
 ·exact e0.hok.fresh<|ZK<|x.above y c<|Z7 h
 ·unfold start;show _=N.length;rw[Xk,Xd,Y5]
  lia
end L2
namespace L2
open PySem PySem.Spec PyProof.Rows
section
variable{X:Cx}{x:Str}{p pos:Pos}{e:Expr}{es:List Expr}{t:TA}{id T:String}{r:List V->Hp->VK->Prop}
def Sn(r:List V->Hp->VK->Prop)(t:TA):TE:=λO H Q=>t O H λU P=>r U P Q
theorem jF(J:cc X (.builtin id) r)(hg:Gl X x)(E:X.mg x=B')(hv:bootBuiltins x=y' (.builtin id))(m:PA X (e::es) t)(hn:x≠"__name__":=by decide)(y:(x==("__debug__":Str))=J':=by decide)
  (K:starEach (e::es) X.env=(J',eval e X.env)::starEach es X.env:=by rfl) (i:(backTo pos<|starEach es X.env).any (·.1)=J':=by rfl):PE X (.Call (.Name x p) (e::es) [] pos) (Sn r t):=by
 intro M s O H Q I h;refine aaq<|j4 I hg E hv ?_ hn y;exact PyProof.Rows.callWith_builtin1 (b9 (m pos M s O H _ I h) λc s1#[U,P,F,B,S]=>J M s1 O P U c Q F B S) K i
theorem yQ(J:cc X (.type T) r)(hg:Gl X x)(E:X.mg x=B')(hv:bootBuiltins x=y' (.type T))(m:PA X (e::es) t)(hn:x≠"__name__":=by decide)(y:(x==("__debug__":Str))=J':=by decide)
  (K:starEach (e::es) X.env=(J',eval e X.env)::starEach es X.env:=by rfl) (i:(backTo pos<|starEach es X.env).any (·.1)=J':=by rfl):PE X (.Call (.Name x p) (e::es) [] pos) (Sn r t):=by
 intro M s O H Q I h;refine aaq<|j4 I hg E hv ?_ hn y;exact ZZ (b9 (m pos M s O H _ I h) λc s1#[U,P,F,B,S]=>J M s1 O P U c Q F B S) K i
end
end L2
namespace HT
open PySem PyProof.Rows
section
variable{prog:Program}{w:World}{A:Around}{E:Value->Shared->Prop}{s:Shared}
theorem DD(ht:IsTup s.heap t vs.toArray)(L:IsTup s.heap b ws.toArray)(M:vs≠[])
  (Z:ws=[]->Q (.ref t) s) (Y:ws≠[]->Q (.ref s.heap.objs.size) {s with heap:=s.heap.push {cls:=.type "tuple",data:=.seq (vs++ws).toArray}})
  (u:vs.length+ws.length<=sizeLine):wpAny (model prog w) A (binaryOp .Add (.ref t)<|.ref b) Q E s:=by
 obtain⟨⟨cls,dd,data,sl⟩,j,J,n,hd⟩:=id ht;obtain⟨⟨a,o,p,m⟩,l,I,P,h⟩:=id L;subst J hd I h;have e:vs.toArray++ws.toArray=(vs++ws).toArray:=by simp
 by_cases B:ws=[]
 ·exact concat_meets #[_,j,rfl] #[_,l,rfl] aal seq_tuple_add Z3 Z2 (Z1 _ _)
   (tuple_addW1 t b vs.toArray ws.toArray n P dd o sl m (by simpa using M)<|by simp[B]) #[j,l,Z B]
 ·refine concat_meets #[_,j,rfl] #[_,l,rfl] aal seq_tuple_add Z3 Z2 (Z1 _ _)
   (tuple_addW2 t b vs.toArray ws.toArray n P dd o sl m (by simpa using M) (by simpa using B)<|by rw[W4,W4];exact u) #[j,l,?_]
  rw[e];exact Y B
def cw(n d:Nat):Option Int->Nat
 |none=>d
 |some v=>if v<0 then(v+(n:Int)).toNat else min v.toNat n
theorem nJ(n d):cw n d B'=d:=rfl
theorem xG(n d k:Nat):cw n d (y' (k:Int))=min k n:=by show (if (k:Int)<0 then((k:Int)+(n:Int)).toNat else min (k:Int).toNat n)=min k n;rw[aae ⋯,Yu]
theorem v5(v)(n d:Nat):(if v<0 then max (v+(n:Int)) 0 else min v (n:Int))=((cw n d (y' v):Nat):Int):=by
 show (if v<0 then max (v+(n:Int)) 0 else min v (n:Int))=(((if v<0 then(v+(n:Int)).toNat else min v.toNat n):Nat):Int);by_cases M:v<0
 ·simp only[aaf M];lia
 ·simp only[aae M];lia
theorem uD(lo hi)(n:Nat):Builtin.Slice.sliceAdjust lo hi 1 (n:Int)=(((cw n 0 lo:Nat):Int),((cw n n hi:Nat):Int)):=by
 have Z:¬((1:Int)<0):=⋯
 unfold Builtin.Slice.sliceAdjust;simp only[Z];refine Prod.ext ?_ ?_
 ·cases lo with
  |none=>rfl
  |some v=>exact v5 v n 0
 ·cases hi with
  |none=>rfl
  |some v=>exact v5 v n n
theorem vn(i j:Nat):Builtin.Slice.slicePlaces (i:Int) (j:Int) 1=j-i:=by
 unfold Builtin.Slice.slicePlaces;have Z:(1:Int)>0:=⋯
 simp only[Z,aag];split<;>lia
theorem nK(p:IsPart v o)(h:Q o s):wpAny (model prog w) A (Builtin.Slice.slicePartIndex v) Q E s:=by
 cases p with
 |none=>exact slicePart_none h
 |int i t=>exact slicePart_int h
theorem fw{lo hi:Option Int}{n:Nat}(l:s.heap.IsSliceOf sl vl vu .none)(pl:IsPart vl lo)(c:IsPart vu hi)
  (h:Q (((cw n 0 lo:Nat):Int),1,cw n n hi-cw n 0 lo) s):wpAny (model prog w) A (Builtin.Slice.sliceApplied (.ref sl)<|pure (n:Int)) Q E s:=by
 obtain⟨os,a,S,g⟩:=id l;refine WZ<|WZ<|aat a g rfl<|WZ<|aat a g rfl<|WZ<|aat a g rfl<|W2 ?_;refine WZ<|slicePart_none ?_;show wpAny _ _ (if ((1:Int)==0)=G' then _ else _) _ _ s;rw[aae (by decide)];refine WZ<|nK pl<|WZ<|nK c<|WZ<|W2 ?_;show wpAny _ _ (match Builtin.Slice.sliceAdjust lo hi 1 (n:Int)with|(lo,hi)=>pure (lo,(1:Int),Builtin.Slice.slicePlaces lo hi 1)) _ _ s;rw[uD lo hi n];show wpAny _ _ (pure (((cw n 0 lo:Nat):Int),(1:Int),Builtin.Slice.slicePlaces ((cw n 0 lo:Nat):Int) ((cw n n hi:Nat):Int) 1)) _ _ s;rw[vn];exact W2 h
theorem BU(xs:Array Value)(i k:Nat):((List.range k).filterMap λ(m:Nat)=>xs[((i:Int)+(m:Int)*1).toNat]?).toArray=((xs.toList.drop i).take k).toArray:=by
 have e:(λ(m:Nat)=>xs[((i:Int)+(m:Int)*1).toNat]?)=λm=>xs[i+m]?:=by
  funext m;have:((i:Int)+(m:Int)*1).toNat=i+m:=⋯
  rw[this]
 rw[e];have:=pick_run xs i k;rw[List.filterMap_map]at this;have e2:((λx=>xs[x]?) ∘ λx=>i+x)=λm=>xs[i+m]?:=rfl
 rw[e2]at this;rw[this]
theorem jq{lo hi:Option Int}(J:IsTup s.heap t items)(l:s.heap.IsSliceOf sl vl vu .none)(pl:IsPart vl lo)(c:IsPart vu hi)
  (B:¬(cw items.size 0 lo=0/\cw items.size items.size hi=items.size))
  (h:Q (.ref s.heap.objs.size) {s with heap:=s.heap.push {cls:=.type "tuple",data:=.seq ((items.toList.drop<|cw items.size 0 lo).take<|cw items.size items.size hi-cw items.size 0 lo).toArray}})
  (u:items.size<=sizeLine):wpAny (model prog w) A (getItem (.ref t)<|.ref sl) Q E s:=by
 have i:sizeOk (.seq ((items.toList.drop<|cw items.size 0 lo).take<|cw items.size items.size hi-cw items.size 0 lo).toArray):=by show ((items.toList.drop<|cw items.size 0 lo).take<|cw items.size items.size hi-cw items.size 0 lo).toArray.size<=sizeLine;rw[W4,Y8,Y1,Xo];omega
 obtain⟨os,a,zy,g⟩:=id l;have b:s.TypeIs (.ref sl) "slice":=#[os,a,zy];unfold getItem
 try with_reducible refine aau ?_
 first|refine WZ (W2 ?_)|skip
 refine WZ<|wpAny_sequenceKey J.typeIs (by decide) ?_;refine WZ (aar J.typeIs Z0
  (aas Z0 J.typeIs entry_tuple_getitem ?_<|args_tuple_getitem _ _))
 show wpAny _ _ (Builtin.Tuple.tupleItemsOf (.ref t) >>=_) _ _ s;refine WZ<|tupleItemsOf_ J ?_;refine WZ<|aaF b ?_;rw[aaf (by decide)];refine WZ<|fw l pl c ?_;have j:¬((((cw items.size 0 lo:Nat):Int)==0&&(1:Int)==1&&(cw items.size items.size hi-cw items.size 0 lo)==items.size)=G'):=by intro q;rw[W3,W3]at q;have S:=Xr q.1.1;have q2:=Xr q.2;exact B #[by omega,by omega]
 show wpAny _ _ (if (((cw items.size 0 lo:Nat):Int)==0&&(1:Int)==1&&(cw items.size items.size hi-cw items.size 0 lo)==items.size)=G' then _ else _) _ _ s;rw[aae j,BU]
 first
  |exact WZ<|aaw (W2 #[_,rfl,W2 h]) i
  |exact WZ<|aaw (WZ<|W2<|W2 #[_,rfl,W2 h]) i
  |exact WZ<|WZ<|aaw (W2<|W2 #[_,rfl,W2 h]) i
  |exact WZ<|WZ<|aaw (W2 #[_,rfl,W2 h]) i
end
end HT
namespace L2
open PySem PySem.Spec PyProof.Rows
abbrev TO:=St->Hp->(Option Int->Hp->Prop)->Prop
def PO(X:Cx)(e:Option Expr)(t:TO):Prop:=
 ∀(M:List (Addr×Obj))(s:Shared)(O:St)(H:Hp)(Q:Option Int->Hp->Prop),Inv X M O H s->t O H Q->
  wpAny (model X.prog X.w) X.A (evalPart e X.env) (λu S=>∃o j,Inv X M O j S/\IsPart u o/\Q o j) X.xe s
def Fv:TO:=λ_ H Q=>Q B' H
def Ou(t:TE):TO:=λO H Q=>t O H λx P=>∃i,x= .int i/\Q (y' i) P
theorem intsAre_of:∀{c:List Value},aw (ns.map V.int) c->IntsAre c ns:=by
 induction ns with
 |nil=>intro c r;rw[Zd]at r;cases r;exact .nil
 |cons n ns O=>
  intro c r;cases r with
  |cons B r2=>obtain⟨t,e⟩:=B;subst e;exact .cons n t<|O r2
section
variable{X:Cx}{e:Expr}{te:TE}{lo hi:Option Expr}{tl th:TO}{pos p2:Pos}
theorem xm:PO X B' Fv:=by intro M s O H Q I h;rw[evalPart_none];exact W2 #[B',H,I,.none,h]
theorem xo(h:PE X e te):PO X (y' e) (Ou te):=by
 intro M s O H Q I hw;rw[evalPart_some];refine b9 (h M s O H _ I hw) λu s1#[x,P,F,B,S]=>?_
 obtain⟨i,rfl,q⟩:=S;obtain⟨t,rfl⟩:=B;exact#[y' i,P,F,.int i t,q]
def K5(X:Cx)(r:V->Option Int->Option Int->Hp->VK->Prop):Prop:=
 ∀(M:List (Addr×Obj))(s:Shared)(O:St)(H:Hp)(x:V)(v o i:Value)(lo hi:Option Int)(Y:Addr)(Q:VK),Inv X M O H s->RelV x v->s.heap.IsSliceOf Y o i .none->IsPart o lo->IsPart i hi->r x lo hi H Q->
  ∃T id,typeLookup (.type T) "__getitem__"=pure (y'<|.builtin id)/\s.TypeIs v T/\wpAny (model X.prog X.w) X.A (getItem v<|.ref Y) (EP X M O Q) X.xe s
def Wd(r:V->Option Int->Option Int->Hp->VK->Prop)(L:TE)(b J:TO):TE:=λO H Q=>L O H λx P=>b O P λl n=>J O n λu K=>r x l u K Q
theorem tm(w:K5 X r)(K:PE X e te)(W:PO X lo tl)(hu:PO X hi th):PE X (.Subscript e (.Slice lo hi B' p2) pos) (Wd r te tl th):=by
 intro M s O H Q I h;refine Subscript_<|b9 (K M s O H _ I h) λv s1#[x,P,F,B,S]=>?_;refine wpAny_Slice<|b9 (W M s1 O P _ F S) λo p#[l,n,Y,pl,A]=>b9 (hu M p O n _ Y A) λi g#[u,H3,z,c,U]=>?_;rw[evalPart_none];refine W2 ?_;have I4:Inv X M O H3 {g with heap:=g.heap.push {cls:=.type "slice",data:=.fields [o,i,.none].toArray}}:=z.kept λb Z q=>W1 _ q
 obtain⟨T,id,hT,J,t⟩:=w M {g with heap:=g.heap.push {cls:=.type "slice",data:=.fields [o,i,.none].toArray}} O H3 x v o i l u g.heap.objs.size Q I4 B (Heap.IsSliceOf.new ..) pl c U;exact tail_any J hT t rfl
def rW(xs:List V)(lo hi:Option Int):List V:=(xs.drop<|HT.cw xs.length 0 lo).take<|HT.cw xs.length xs.length hi-HT.cw xs.length 0 lo
theorem kE(xs)(lo hi):(rW xs lo hi).length<=xs.length:=by
 unfold rW;rw[Y8,Y1]
 lia
def R8(K:PySem.W.Frag):V->Option Int->Option Int->Hp->VK->Prop:=λx lo hi H Q=>∃a xs,x= .ref a/\fD K H a xs/\
 ¬(HT.cw xs.length 0 lo=0/\HT.cw xs.length xs.length hi=xs.length)/\∀p,H p=B'->Q (.ref p) (upd H p<|.tup<|rW xs lo hi)
theorem J5:K5 X (R8 X.K):=by
 intro M s O H x v o i lo hi Y Q I S l pl c h;obtain⟨a,xs,rfl,U,hw,q⟩:=h;cases S;obtain⟨E,r,J,g⟩:=I.tuple U;have B:E.toArray.size=xs.length:=by rw[W4];exact r.length.symm
 refine#["tuple",_,Z0.lookup,J.typeIs,?_];refine HT.jq J l pl c (by rw[B];exact hw) ?_ (by rw[B];exact g);rw[B];refine#[.ref s.heap.objs.size,_,I.laid (λb Z q=>W1 _ q) (W9 _) ?_,rfl,q _<|I.hok.fresh<|W9 _];exact#[Xf (kE xs lo hi) g,_,(r.drop<|HT.cw xs.length 0 lo).take<|HT.cw xs.length xs.length hi-HT.cw xs.length 0 lo,oq.new _ _]
def NH(K:PySem.W.Frag):R2:=λx y H Q=>∃a b xs k,x= .ref a/\y= .ref b/\fD K H a xs/\fD K H b k/\xs≠[]/\xs.length+k.length<=sizeLine/\
 (k=[]->Q (.ref a) H)/\(k≠[]->∀p,H p=B'->Q (.ref p) (upd H p<|.tup<|xs++k))
theorem aw.qD(r:aw xs us):us=[]↔xs=[]:=by
 cases r with
 |nil=>simp
 |cons _ _=>simp
theorem jE:kB X (binaryOp .Add) (NH X.K):=by intro M s O H x y v u Q I S c h;obtain⟨a,b,xs,k,rfl,rfl,m,L,U,g,q1,A⟩:=h;cases S;cases c;obtain⟨E,B,o,_⟩:=I.tuple m;obtain⟨K,r2,p2,_⟩:=I.tuple L;refine HT.DD o p2 (λz=>U<|B.qD.mp z) (λz=>#[.ref a,H,I,rfl,q1<|r2.qD.mp z]) (λz=>?_) (by rw[<-B.length,<-r2.length];exact g);refine#[.ref s.heap.objs.size,_,I.laid (λb Z q=>W1 _ q) (W9 _) ?_,rfl,A (λw=>z<|r2.qD.mpr w) _<|I.hok.fresh<|W9 _];exact#[by rw[Xk];exact g,_,B.append r2,oq.new _ _]
end
end L2
namespace L2
open PySem PySem.Spec PyProof.Rows
def rA(n:Nat)(i:Int):Option Nat:=if 0<=i then(if i<n then y' i.toNat else B') else if -(n:Int)<=i then y' (i+n).toNat else B'
def uo{α:Type}(xs:List α)(i:Int):Option α:=(rA xs.length i).bind λj=>xs[j]?
theorem wI(h:rA n i=y' j):seqIndex? i n=y' j/\j<n/\ -(n:Int)<=i/\i<n:=by
 unfold rA at h;by_cases h0:0<=i
 ·rw[aaf h0]at h;by_cases Z:i<n
  ·rw[aaf Z]at h;have e:=ZY h;exact#[by rw[seqIndex_of h0 Z,e],⋯,⋯,Z]
  ·rw[aae Z]at h;cases h
 ·rw[aae h0]at h;by_cases Z: -(n:Int)<=i
  ·rw[aaf Z]at h;have e:=ZY h;exact#[by rw[seqIndex_neg ⋯ Z,e],⋯,Z,⋯]
  ·rw[aae Z]at h;cases h
theorem vU(h:uo xs i=y' v):∃j,seqIndex? i xs.length=y' j/\xs[j]?=y' v/\j<xs.length/\ -(xs.length:Int)<=i/\i<xs.length:=by
 unfold uo at h;cases e:rA xs.length i with
 |none=>rw[e]at h;cases h
 |some j=>rw[e]at h;obtain⟨Z,Y,u,Q⟩:=wI e;exact#[j,Z,h,Y,u,Q]
theorem Df{xs:List α}{j:Nat}{v:α}(h:xs[j]?=y' v):uo xs (j:Int)=y' v:=by
 have F:=(W6.mp h).1;have e:rA xs.length (j:Int)=y' j:=by unfold rA;rw[aaf ⋯,aaf ⋯];simp
 unfold uo;rw[e];exact h
def pQ(b:Expr):Prop:=∀o i,subscripted b J' o i=operate [o,i] (getItem o i)
def O7(X:Cx)(r:R2):Prop:=
 ∀(m b:Expr)(M:List (Addr×Obj))(s:Shared)(O:St)(H:Hp)(x y:V)(v u:Value)(Q:VK),Inv X M O H s->RelV x v->RelV y u->r x y H Q->
  subscripted b J' v u=operate [v,u] (getItem v u)->wpAny (model X.prog X.w) X.A (subscriptTail m b v u) (EP X M O Q) X.xe s
def SN(X:Cx)(id:String)(r:V->List V->Hp->VK->Prop):Prop:=
 ∀(M:List (Addr×Obj))(s:Shared)(O:St)(H:Hp)(x:V)(xs:List V)(v:Value)(c:List Value)(Q:VK),Inv X M O H s->RelV x v->aw xs c->r x xs H Q->
  wpAny (model X.prog X.w) X.A (call (.builtin id) (v::c)) (EP X M O Q) X.xe s
section
variable{X:Cx}{a b:Expr}{ta tb:TE}{pos:Pos}
theorem Nt(w:O7 X r)(m:PE X a ta)(L:PE X b tb)(l:pQ b):PE X (.Subscript a b pos) (PQ r ta tb):=by intro M s O H Q I h;exact Subscript_<|Hk m L I h λv u p x y n Y S c q=>w a b M p O n x y v u Q Y S c q<|l _ _
def R0(K:PySem.W.Frag):R2:=λx y H Q=>∃p xs i v,x= .ref p/\y= .int i/\cX K H p xs/\uo xs i=y' v/\Q v H
def R1(K:PySem.W.Frag):R2:=λx y H Q=>∃p xs i v,x= .ref p/\y= .int i/\fD K H p xs/\uo xs i=y' v/\Q v H
theorem wK:O7 X (R0 X.K):=by
 intro m b M s O H x y v u Q I S c h l;obtain⟨p,xs,i,z,rfl,rfl,K,he,q⟩:=h;cases S;obtain⟨t,rfl⟩:=c;obtain⟨E,r,pl,g⟩:=I.list K;obtain⟨j,Z,Y,h3,h4,A⟩:=vU he;obtain⟨w,a,k⟩:=r.get Y;have W:=r.length;have hn:=qw;have fin:EP X M O Q w s:=#[z,H,I,k,q];by_cases h0:0<=i
 ·have F:i.toNat=j:=by rw[seqIndex_of h0 A]at Z;exact ZY Z
  exact item_listR pl.isList h0 ⋯ (by rw[F];simpa using a) fin l
 ·have F:(i+(E.toArray.size:Int)).toNat=j:=by rw[seqIndex_neg ⋯ h4]at Z;rw[W4,<-W];exact ZY Z
  exact subscriptTail_builtinR pl.isList.typeIs slot_list_getitem.lookup
   (wpAny_getItem_list_neg pl.isList ⋯ (by rw[W4]<;>lia) ⋯ (by rw[F];simpa using a) #[rfl,fin]) l
theorem Iy:O7 X (R1 X.K):=by
 intro m b M s O H x y v u Q I S c h l;obtain⟨p,xs,i,z,rfl,rfl,K,he,q⟩:=h;cases S;obtain⟨t,rfl⟩:=c;obtain⟨E,r,pl,g⟩:=I.tuple K;obtain⟨j,Z,Y,h3,h4,A⟩:=vU he;obtain⟨w,a,k⟩:=r.get Y;have W:=r.length;have hn:=qw;have fin:EP X M O Q w s:=#[z,H,I,k,q];exact subscriptTail_builtinR pl.typeIs slot_tuple_getitem.lookup
  (getItem_tuple pl ⋯ ⋯ (by rw[W4,<-W];exact Z) (by simpa using a) #[rfl,fin]) l
theorem vf(E:List Value)(n j)(u):Obj.mapSeq (·.setIfInBounds j u) {cls:=.type "list",data:=.seq E.toArray n}={cls:=.type "list",data:=.seq (E.set j u).toArray n}:=by simp[Obj.mapSeq]
theorem Inv.lst{O:St}{H:Hp}{s:Shared}{p:Addr}{xs:List V}(I:Inv X K' O H s)(h:H p=y' (.lst xs)):
  ∃(E:List Value)(n:Nat),aw xs E/\s.heap.get? p=y' {cls:=.type "list",data:=.seq E.toArray n}/\xs.length<=sizeLine:=by
 obtain⟨z,E,n,r,e⟩:=I.hok p _ h;exact#[E,n,r,e,z]
theorem Inv.IK{O:St}{E c:List Value}(I:Inv X K' O H s)(h:H p=y' (.lst xs))
  (j:s.heap.get? p=y' {cls:=.type "list",data:=.seq E.toArray n}) (A:f {cls:=.type "list",data:=.seq E.toArray n}={cls:=.type "list",data:=.seq c.toArray n'}) (r:aw ys c) (g:ys.length<=sizeLine) (t):
  Inv X K' O (upd H p<|.lst ys) {s with heap:=s.heap.update p f,toks:=t}:=by
 have e:(s.heap.update p f).get? p=y' {cls:=.type "list",data:=.seq c.toArray n'}:=by rw[Heap.get?_update_self f j (by rw[A]<;>rfl),A]
 refine I.write (by rw[h];trivial) (.inl rfl) (λb u L q=>(Xw _ _<|ZX L).trans q) #[_,e] ?_;exact#[g,c,n',r,e]
def GG:V->V->V->Hp->(Hp->Prop)->Prop:=λo i v H Q=>∃p xs k j,o= .ref p/\i= .int k/\H p=y' (.lst xs)/\rA xs.length k=y' j/\Q (upd H p<|.lst<|xs.set j v)
theorem set_list:K4 X GG:=by
 intro M s O H o i v b a u Q I ro c rv h;obtain⟨p,xs,k,j,rfl,rfl,B,F,q⟩:=h;cases ro;obtain⟨t,rfl⟩:=c;obtain⟨E,n,r,ho,g⟩:=I.lst B;obtain⟨Z,Y,h3,h4⟩:=wI F;have W:=r.length;have hn:=qw;have w:=
  I.IK B ho (vf E n j u) (r.set rv j) (by rw[Y6];exact g) s.toks
 by_cases h0:0<=k
 ·have P:k.toNat=j:=by rw[seqIndex_of h0 h4]at Z;exact ZY Z
  exact PySem.W.ki_setAt ho h0 ⋯ (by rw[W4,<-W];exact h4) (by rw[P];exact#[_,w,q])
 ·have P:(k+(E.toArray.size:Int)).toNat=j:=by rw[seqIndex_neg ⋯ h3]at Z;rw[W4,<-W];exact ZY Z
  exact PySem.W.ki_setBack ho ⋯ (by rw[W4,<-W];exact h3) ⋯ (by rw[P];exact#[_,w,q])
theorem qU(lo hi)(n):(sliceBounds lo hi B' n).1=((HT.cw n 0 lo:Nat):Int)/\(sliceBounds lo hi B' n).2.1=((HT.cw n n hi:Nat):Int)/\(sliceBounds lo hi B' n).2.2=1:=by
 refine#[?_,?_,rfl]
 ·cases lo with
  |none=>simp[sliceBounds,HT.cw]
  |some i=>
   simp only[sliceBounds,HT.cw,Option.getD_none,aag];by_cases h:i<0
   ·simp only[h,aag]<;>lia
   ·simp only[h,aad]<;>lia
 ·cases hi with
  |none=>simp[sliceBounds,HT.cw]
  |some i=>
   simp only[sliceBounds,HT.cw,Option.getD_none,aag];by_cases h:i<0
   ·simp only[h,aag]<;>lia
   ·simp only[h,aad]<;>lia
theorem oH(E:List Value)(lo hi):slicePick E.toArray lo hi B'=((E.drop<|HT.cw E.length 0 lo).take<|HT.cw E.length E.length hi-HT.cw E.length 0 lo).toArray:=by obtain⟨Z,Y,u⟩:=qU lo hi E.toArray.size;unfold slicePick;rw[Z,Y,u];simp only[sliceRange_one,pick_run]<;>rfl
def R7(K:PySem.W.Frag):V->Option Int->Option Int->Hp->VK->Prop:=λx lo hi H Q=>∃a xs,x= .ref a/\cX K H a xs/\∀p,H p=B'->Q (.ref p) (upd H p<|.lst<|rW xs lo hi)
theorem xK:K5 X (R7 X.K):=by intro M s O H x v o i lo hi Y Q I S l pl c h;obtain⟨a,xs,rfl,U,q⟩:=h;cases S;obtain⟨E,r,J,g⟩:=I.list U;have B:=r.length;refine#["list",_,slot_list_getitem.lookup,J.isList.typeIs,?_];refine wpAny_getItem_list_slice J.isList l pl c .none (by simp) ?_ (by rw[W4]<;>lia);rw[oH,<-B];refine#[.ref s.heap.objs.size,_,I.laid (λb Z q=>W1 _ q) (W9 _) ?_,rfl,q _<|I.hok.fresh<|W9 _];exact#[Xf (kE xs lo hi) g,_,0,(r.drop<|HT.cw xs.length 0 lo).take<|HT.cw xs.length xs.length hi-HT.cw xs.length 0 lo,Xb _ rfl]
theorem pZ:cc X (.builtin "len") (λxs H Q=>∃p k,xs=[.ref p]/\(cX X.K H p k\/fD X.K H p k)/\Q (.int k.length) H):=by
 intro M s O H xs c Q I r h;obtain⟨p,k,rfl,K,q⟩:=h;obtain⟨u,rfl,S⟩:=vals1 r;cases S;have hn:=qw;rcases K with K|K
 ·obtain⟨E,r',pl,g⟩:=I.list K;have B:=r'.length;exact Calls.call_len_list pl.isList (by simp only[W4]<;>lia) #[.int k.length,H,I.tok _,#[s.toks+1,by rw[W4,B]],q]
 ·obtain⟨E,r',pl,g⟩:=I.tuple K;have B:=r'.length;exact len_tuple pl (by simp only[W4]<;>lia) #[.int k.length,H,I.tok _,#[s.toks+1,by rw[W4,B]],q]
theorem fI:cc X (.type "list") (λxs H Q=>∃p k,xs=[.ref p]/\(cX X.K H p k\/fD X.K H p k)/\∀l,H l=B'->Q (.ref l) (upd H l<|.lst k)):=by
 intro M s O H xs c Q I r h;obtain⟨p,k,rfl,K,q⟩:=h;obtain⟨u,rfl,S⟩:=vals1 r;cases S;have fin:∀(E:List Value),aw k E->k.length<=sizeLine->∀(y:Heap)(U:Nat),(∀b w,s.heap.get? b=y' w->y.get? b=y' w)->
   y.get? s.heap.objs.size=y' {cls:=.type "list",dict:=B',data:=.seq E.toArray U,slots:=#[]}->EP X M O Q (.ref s.heap.objs.size) {s with heap:=y}:=λE r' g y U kp e=>
  #[.ref s.heap.objs.size,_,I.laid kp (W9 _)<|show dZ X.prog X.w _ y _ (.lst k) from#[g,E,U,r',e],rfl,q _<|I.hok.fresh<|W9 _]
 rcases K with K|K
 ·obtain⟨E,r',pl,g⟩:=I.list K;have B:=r'.length;obtain⟨o,j,J,n,hd⟩:=pl.isList;exact call_list_seq p (.inl rfl) j J hd (λy U kp e=>fin E r' g y U kp e) (by simp only[W4]<;>lia)
 ·obtain⟨E,r',pl,g⟩:=I.tuple K;have B:=r'.length;obtain⟨o,j,J,n,hd⟩:=pl;exact call_list_seq p (.inr rfl) j J hd (λy U kp e=>fin E r' g y U kp e) (by simp only[W4]<;>lia)
theorem iK:cc X (.type "tuple") (λxs H Q=>∃p k,xs=[.ref p]/\((cX X.K H p k/\∀l,H l=B'->Q (.ref l) (upd H l<|.tup k))\/(fD X.K H p k/\Q (.ref p) H))):=by
 intro M s O H xs c Q I r h;obtain⟨p,k,rfl,h⟩:=h;obtain⟨u,rfl,S⟩:=vals1 r;cases S;rcases h with ⟨K,q⟩|⟨K,q⟩
 ·obtain⟨E,r',pl,g⟩:=I.list K;have B:=r'.length;refine call_tuple_list pl.isList (λy kp=>?_) (by simp only[W4]<;>lia);have F:=I.kept (t':=s.toks) kp;have Y:=
   F.laid (t':=s.toks) (λb o e=>W1 _ e) (W9 _) (show dZ X.prog X.w _ _ _ (.tup k) from#[g,E,r',oq.new _ _])
  exact#[.ref y.objs.size,_,Y,rfl,q _<|F.hok.fresh<|W9 _]
 ·obtain⟨E,r',pl,g⟩:=I.tuple K;exact call_tuple_same pl #[.ref p,H,I,rfl,q]
def SD(K:PySem.W.Frag)(T:String)(x:V)(H:Hp):Prop:=match x with
 |.str _=>T="str"
 |.int _=>T="int"
 |.ref p=>(T="list"/\∃xs,cX K H p xs)\/(T="tuple"/\∃o,K.lookup p=y' o/\o.cls= .type "tuple"/\o.dict=B')\/
   (T="dict"/\((∃eF,H p=y' (.dK eF))\/∃eF,H p=y' (.dT eF)))\/(T="set"/\∃S n,H p=y' (.set S n))
 |_=>False
theorem CF{O:St}(I:Inv X K' O H s)(r:RelV x v)(g:SD X.K T x H):
  s.TypeIs v T/\∀a,v= .ref a->∃Z,s.heap.get? a=y' Z/\Z.dict=B':=by
 cases x with
 |str z=>obtain⟨t,rfl⟩:=r;cases (g);exact#[typeIs_str s z t,λ_ e=>nomatch e]
 |int i=>obtain⟨t,rfl⟩:=r;cases (g);exact#[typeIs_int s i t,λ_ e=>nomatch e]
 |ref p=>
  cases r;rcases g with ⟨rfl,xs,K⟩|⟨rfl,o,P,J,hd⟩|⟨rfl,P⟩|⟨rfl,S,n,P⟩
  ·obtain⟨E,_,pl,_⟩:=I.list K;refine#[pl.isList.typeIs,λa e=>?_];cases e;obtain⟨o,n,e,c,hd,_⟩:=pl;exact#[o,e,hd]
  ·refine#[#[o,I.lA p o P,J],λa e=>?_];cases e;exact#[o,I.lA _ o P,hd]
  ·have z:∃o,s.heap.get? p=y' o/\o.ExactDict:=by
    rcases P with ⟨L,P⟩|⟨L,P⟩
    ·obtain⟨_,_,_,_,o,_,_,e,ex,_⟩:=I.hok p _ P;exact#[o,e,ex]
    ·obtain⟨_,_,_,_,o,_,_,e,ex,_⟩:=I.hok p _ P;exact#[o,e,ex]
   obtain⟨o,e,ex⟩:=z;refine#[#[o,e,ex.1],λa e2=>?_];cases e2;exact#[o,e,ex.2.1]
  ·obtain⟨o,_,_,_,e,ex,_⟩:=I.hok p _ P;refine#[#[o,e,ex.1],λa e2=>?_];cases e2;exact#[o,e,ex.2.1]
 |_=>exact False.elim g
def Ke(K:PySem.W.Frag)(T:String)(r:V->List V->Hp->VK->Prop)(c:TE):TE:=λO H Q=>c O H λx P=>SD K T x P/\r x [] P Q
def Ue(K:PySem.W.Frag)(T:String)(r:V->List V->Hp->VK->Prop)(c:TE)(t:TA):TE:=λO H Q=>c O H λx P=>SD K T x P/\t O P λxs n=>r x xs n Q
variable{o e:Expr}{es:List Expr}{to:TE}{t:TA}{name:Str}{apos eM:Pos}{T id:String}{r:V->List V->Hp->VK->Prop}
theorem vm(pa:PlainAttrs T)(slot:Slot T name id)(a:typeOf (.builtin id)=pure (.type "method_descriptor"))(E:SN X id r)(j:PE X o to)
  (w:attributeBase o name X.env (eval o X.env)=eval o X.env:=by rfl) (k:(apos.endLine==eM.line)=G':=by rfl):PE X (.Call (.Attribute o name apos) [] [] eM) (Ke X.K T r to):=by
 intro M s O H Q I h;refine wpAny_Call_method0_late w k<|b9 (j M s O H _ I h) λv s1#[x,P,F,B,g,S]=>?_;obtain⟨Z,Y⟩:=CF F B g;exact#[T,id,pa,slot,a,Z,Y,Calls.callWith_builtin rfl<|PySem.evalArgs_none<|E M s1 O P x [] v [] Q F B .nil S]
theorem Nr(pa:PlainAttrs T)(slot:Slot T name id)(a:typeOf (.builtin id)=pure (.type "method_descriptor"))(E:SN X id r)(j:PE X o to)(m:PA X (e::es) t)
  (w:attributeBase o name X.env (eval o X.env)=eval o X.env:=by rfl)
  (i:((backTo eM<|starEach (e::es) X.env).all (λx=> !x.1)&&(backToKw eM<|keywordEach [] X.env).all (λx=>x.1.isSome)
   &&decide ((e::es).length+([]:List Keyword).length+(if ([]:List Keyword).isEmpty then 0 else 1)<30))=G':=by rfl)
  (k:(apos.endLine==eM.line)=G':=by rfl) (l:starEach (e::es) X.env=(J',eval e X.env)::starEach es X.env:=by rfl) (b:(backTo eM<|starEach es X.env).any (·.1)=J':=by rfl):
  PE X (.Call (.Attribute o name apos) (e::es) [] eM) (Ue X.K T r to t):=by
 intro M s O H Q I h;refine wpAny_Call_method_late w i k rfl<|b9 (j M s O H _ I h) λv s1#[x,P,F,B,g,S]=>?_;obtain⟨Z,Y⟩:=CF F B g;refine#[T,id,pa,slot,a,Z,Y,?_];have hA:=m eM M s1 O P _ F S;rw[l]at hA ⊢;refine Calls.callWith_builtin (by show (J'||(backTo eM<|starEach es X.env).any (·.1))=J';rw[b]<;>rfl)<|Calls.evalArgs_plain ?_;exact b9 hA λc p#[U,n,I2,r2,A]=>E M p O n x U v c Q I2 B r2 A
end
end L2
namespace L2
open PySem PySem.Spec PyProof.Rows
def O9(X:Cx)(id:String)(r:V->List V->Hp->VK->Prop):Prop:=
 ∀(M:List (Addr×Obj))(s:Shared)(O:St)(H:Hp)(x:V)(xs:List V)(v:Value)(c:List Value)(Q:VK),Inv X M O H s->RelV x v->aw xs c->r x xs H Q->
  wpAny (model X.prog X.w) X.A (call (.builtin id) (v::c)) (EP X M O Q) X.xe s
theorem aw.cons_inv(h:aw (x::xs) us):∃u g,us=u::g/\RelV x u/\aw xs g:=by
 cases h with
 |cons r t=>exact#[_,_,rfl,r,t]
theorem aw.one(h:aw [x] us):∃u,us=[u]/\RelV x u:=
 have #[u,g,e,r,t]:=h.cons_inv
 #[u,by cases t;exact e,r]
theorem aw.two(h:aw [x,y] us):∃u v,us=[u,v]/\RelV x u/\RelV y v:=
 have #[u,g,e,r,t]:=h.cons_inv;have #[v,e2,q]:=t.one
 #[u,v,e2▸e,r,q]
theorem aw.zero:∀{c:List Value},aw [] c->c=[]
 |_,.nil=>rfl
theorem aw.dropLast(h:aw xs us):aw xs.dropLast us.dropLast:=by
 induction h with
 |nil=>exact .nil
 |cons r t O=>
  cases t with
  |nil=>exact .nil
  |cons q t'=>exact .cons r O
theorem aw.reverse(h:aw xs us):aw xs.reverse us.reverse:=by
 induction h with
 |nil=>exact .nil
 |cons r t O=>rw[List.reverse_cons,List.reverse_cons];exact aw.append O<|.cons r .nil
theorem aw.rep(h:aw xs us):∀k:Nat,aw (List.replicate k xs).flatten (List.replicate k us).flatten
 |0=>.nil
 |k+1=>by rw[Zu,Zu,YS,YS];exact aw.append h<|aw.rep h k
theorem uQ{α:Type}(l:List α):l.eraseIdx (l.length-1)=l.dropLast:=by
 induction l with
 |nil=>rfl
 |cons a r O=>
  cases r with
  |nil=>rfl
  |cons b r=>
   have e:(a::b::r).length-1=((b::r).length-1)+1:=by
    have Z:(a::b::r).length=r.length+2:=rfl;have Y:(b::r).length=r.length+1:=rfl
    lia
   rw[e,List.eraseIdx_cons_succ,O]
   all_goals rfl
theorem foldl_rep(E):∀(k:Nat)(W:List Value),
  List.foldl (λo U=>o++U) W.toArray (List.replicate k E.toArray)=(W++(List.replicate k E).flatten).toArray
 |0,W=>by simp
 |k+1,W=>by
  have e:W.toArray++E.toArray=(W++E).toArray:=by simp
  have e2:(W++E)++(List.replicate k E).flatten=W++(List.replicate (k+1) E).flatten:=by rw[Zu,YS,Xi]
  rw[<-e2,<-foldl_rep E k (W++E),<-e,Zu,List.foldl_cons]
section
variable{X:Cx}{K':List (Addr×Obj)}{σ:St}{H:Hp}{s:Shared}{l:Addr}{xs ys:List V}
theorem Inv.Ef{E c:List Value}(I:Inv X K' σ H s)(hH:H l=y' (.lst xs))
  (e:s.heap.get? l=y' {cls:=.type "list",data:=.seq E.toArray n}) (A:f E.toArray=c.toArray) (M:aw ys c) (g:ys.length<=sizeLine):
  Inv X K' σ (upd H l<|.lst ys) {s with heap:=s.heap.update l<|Obj.mapSeq f,toks:=t'}:=by
 have q:=PySem.IsL.update e f;rw[A]at q;refine I.write (by rw[hH];exact trivial) (.inl rfl) (λi u L J=>(Xw s.heap (Obj.mapSeq f)<|ZX L).trans J) #[_,q] ?_;exact#[g,c,_,M,q]
theorem Inv.IJ(I:Inv X K' σ H s)(M:aw ys ak)(g:ys.length<=sizeLine):
  Inv X K' σ (upd H s.heap.objs.size<|.lst ys) {s with heap:=s.heap.push {cls:=.type "list",data:=.seq ak.toArray},toks:=t'}:=
 I.laid (λ_ _ q=>W1 _ q) (W9 _) #[g,ak,0,M,Xb _ rfl]
theorem Inv.fresh(I:Inv X K' σ H s):H s.heap.objs.size=B':=I.hok.fresh<|W9 _
theorem Inv.ve(I:Inv X K' σ H s)(i:H l=y' (.lst xs)):xs.length<=sizeLine/\∃(E:List Value)(n:Nat),aw xs E/\xs.length=E.length/\s.heap.get? l=y' {cls:=.type "list",data:=.seq E.toArray n}:=by obtain⟨z,E,n,r,e⟩:=I.hok l _ i;exact#[z,E,n,r,r.length,e]
theorem BE(h:n<=sizeLine):Builtin.List.listTooLong n=J':=by exact Xt ⋯
end
section
variable{X:Cx}
def xD:V->List V->Hp->VK->Prop:=λx U H Q=>∃l xs y,x= .ref l/\U=[y]/\H l=y' (.lst xs)/\xs.length<sizeLine/\Q .bj (upd H l<|.lst<|xs++[y])
theorem pj:O9 X "list.append" xD:=by
 intro M s O H x U v c Q I S rv h;obtain⟨l,xs,y,rfl,rfl,i,g,q⟩:=h;cases S;obtain⟨u,rfl,w⟩:=rv.one;obtain⟨z,E,n,r,W,e⟩:=I.ve i;refine aaa F.slot_list_append #[_,e,rfl] F.entry_list_append (F.args_list_append_2 _ _) (PySem.list_append l E.toArray n u<|by rw[W4];lia) #[e,?_];refine#[.bj,_,I.Ef i e (by simp) (r.append<|.cons w .nil) ?_,rfl,q];rw[Xk,Y7]
 lia
def R5:V->List V->Hp->VK->Prop:=λx U H Q=>∃l xs y,x= .ref l/\U=[]/\H l=y' (.lst xs)/\xs[xs.length-1]?=y' y/\Q y (upd H l<|.lst xs.dropLast)
theorem IX:O9 X "list.pop" R5:=by
 intro M s O H x U v c Q I S rv h;obtain⟨l,xs,y,rfl,rfl,i,hy,q⟩:=h;cases S;have a:=rv.zero;subst a;obtain⟨z,E,n,r,W,e⟩:=I.ve i;obtain⟨u,J,w⟩:=r.get hy;have b:E.toArray[E.toArray.size-1]?=y' u:=by show E.toArray[E.length-1]?=y' u;rw[<-Array.getElem?_toList,<-W];exact J
 refine aaa F.slot_list_pop #[_,e,rfl] F.entry_list_pop (F.args_list_pop_1 _) (MeetsSeq.list_pop_last l E.toArray n u b<|by rw[W4];lia) #[e,?_];refine#[y,_,I.Ef i e ?_ r.dropLast ?_,w,q]
 ·show E.toArray.eraseIdxIfInBounds (E.toArray.size-1)=E.dropLast.toArray;rw[W4,List.eraseIdxIfInBounds_toArray,uQ]
 ·rw[List.length_dropLast]
  lia
def tN:V->List V->Hp->VK->Prop:=λx U H Q=>∃l xs,x= .ref l/\U=[]/\H l=y' (.lst xs)/\Q .bj (upd H l<|.lst xs.reverse)
theorem vg:O9 X "list.reverse" tN:=by intro M s O H x U v c Q I S rv h;obtain⟨l,xs,rfl,rfl,i,q⟩:=h;cases S;have a:=rv.zero;subst a;obtain⟨z,E,n,r,W,e⟩:=I.ve i;refine aaa F.slot_list_reverse #[_,e,rfl] F.entry_list_reverse (F.args_list_reverse_1 _) (AutoSeq1.list_reverse_list_0 l E.toArray n<|by rw[W4];omega) #[e,?_];refine#[.bj,_,I.Ef i e (by simp) r.reverse ?_,rfl,q];rw[List.length_reverse];omega
def Cd:V->List V->Hp->VK->Prop:=λx U H Q=>∃l xs,x= .ref l/\U=[]/\H l=y' (.lst xs)/\Q .bj (upd H l<|.lst [])
theorem Bx:O9 X "list.clear" Cd:=by intro M s O H x U v c Q I S rv h;obtain⟨l,xs,rfl,rfl,i,q⟩:=h;cases S;have a:=rv.zero;subst a;obtain⟨z,E,n,r,W,e⟩:=I.ve i;refine aaa F.slot_list_clear #[_,e,rfl] F.entry_list_clear (F.args_list_clear_1 _) (AutoSeq1.list_clear_list_0 l E.toArray n<|by rw[W4];lia) #[e,?_];exact#[.bj,_,I.Ef i e rfl .nil<|ZW _,rfl,q]
def RY:R2:=λx y H Q=>∃l b xs t,x= .ref l/\y= .ref b/\H l=y' (.lst xs)/\H b=y' (.lst t)/\xs.length+t.length<=sizeLine/\∀p,H p=B'->Q (.ref p) (upd H p<|.lst<|xs++t)
theorem BH:kB X (binaryOp .Add) RY:=by
 intro M s O H x y v u Q I S c h;obtain⟨l,b,xs,t,rfl,rfl,i,F,g,q⟩:=h;cases S;cases c;obtain⟨z,E,n,r,W,e⟩:=I.ve i;obtain⟨z2,K,P,r2,gp,e2⟩:=I.ve F;refine PySem.P.add_list e e2 ?_ (by rw[W4,W4];lia);have k:E.toArray++K.toArray=(E++K).toArray:=by simp
 rw[k];exact#[.ref _,_,I.IJ (r.append r2)<|by rw[Xk];lia,rfl,q _ I.fresh]
def R6:R2:=λx y H Q=>∃l k xs,x= .ref l/\y= .int k/\H l=y' (.lst xs)/\ -(2^63)<=k/\k<2^63/\xs.length*k.toNat<=sizeLine/\
 ∀p,H p=B'->Q (.ref p) (upd H p<|.lst (List.replicate k.toNat xs).flatten)
theorem len_rep{α:Type}(xs:List α)(k):(List.replicate k xs).flatten.length=k*xs.length:=by
 induction k with
 |zero=>simp
 |succ k O=>rw[Zu,YS,Xk,O,ZU,Nat.add_comm]
theorem Jm:kB X (binaryOp .Mult) R6:=by
 intro M s O H x y v u Q I rx c h;obtain⟨l,k,xs,rfl,rfl,i,Z,Y,g,q⟩:=h;cases rx;obtain⟨t,rfl⟩:=c;obtain⟨z,E,n,r,W,e⟩:=I.ve i;have B:E.toArray.size*k.toNat<=sizeLine:=by rw[W4,<-W];exact g
 have p:¬E.toArray.size*k.toNat>(2^63-1)/8:=by
  have:(sizeLine:Nat)<=(2^63-1)/8:=by decide
  lia
 have w:¬(!Builtin.List.listFitsIndex k)=G':=by rw[fitsIndex_both Z Y];exact X7
 have j:¬Builtin.List.listTooLong (E.toArray.size*k.toNat)=G':=by rw[BE B];exact X7
 have b:List.foldl (λo U=>o++U) #[] (List.replicate (if E.toArray.isEmpty=G' then 0 else k.toNat) E.toArray)=(List.replicate k.toNat E).flatten.toArray:=by
  have f0:∀m:Nat,List.foldl (λo U=>o++U) #[] (List.replicate m E.toArray)=(List.replicate m E).flatten.toArray:=λm=>by have:=foldl_rep E m [];exact this
  rw[f0];cases E with
  |nil=>simp
  |cons a r'=>rw[aae (by simp)]
 refine wpAny_binaryOp_repeat_ref (by decide) #[_,e,rfl] (λS=>typeIs_int S k t) noFill_list_mul F.fills_int_mul F.slot_int_rmul repeat_list F.slot_int_index.lookup
  (aaa F.slot_int_rmul (typeIs_int s k t) F.entry_int_rmul (F.args_int_rmul_2 _ _) (int___rmul___int_list k t l E.toArray n)
   #[e,rfl,#[_,e,rfl],aaa F.slot_list_mul #[_,e,rfl] F.entry_list_mul (F.args_list_mul_2 _ _) (AutoListH.list___mul___list_int_3 l E.toArray n k t w p j) #[e,?_]])
 rw[b];exact#[.ref _,_,I.IJ (r.rep k.toNat)<|by rw[len_rep,Nat.mul_comm];exact g,rfl,q _ I.fresh]
end
end L2
namespace Att
open PySem PySem.W PySem.Calls PyProof.Rows
theorem kQ:∀(ns:List Int)(U:List Value),WellAll P h U (ns.map WData.int)->IntsAre U ns:=by
 intro ns
 induction ns with
 |nil=>intro U w;cases w;exact .nil
 |cons n ns O=>
  intro U w;cases w with
  |cons a b=>cases a;exact .cons _ _<|O _ b
theorem y9{l:OpenLaw}(I:l.most=y' n)
  (i:l.row.toRowW.claim.pre args=G') (k:WellAll P h vals args):
  ∃a U ns,vals=[Value.ref a]/\args=[WData.list (ns.map WData.int)]/\h.get? a=y' {cls:=.type "list",data:=.seq U.toArray}/\IntsAre U ns/\ns.length<=n:=by
 have b:=(pre_splitW i).1;have J:l.pre.holds [] {args:=args}=G':=(pre_splitW i).2;obtain⟨d,r,rfl,Z,Y⟩:=hasAllW_cons b;obtain rfl:=hasAllW_nil Y;obtain⟨xs,rfl,u⟩:=hasW_list Z;obtain⟨ns,rfl⟩:=items_int u;have B:ns.length<=n:=by
  have Q:(WTm.not<|.lt (.lit<|.int (n:Int))<|.len<|.arg 0).holds [] {args:=[.list (ns.map .int)]}=G':=by have Q:=(holds_andW J).1;rw[I]at Q;exact Q
  have A:=condW_of Q<|w_not<|w_lt w_lit<|w_len_list<|w_arg rfl;refine Nat.le_of_not_lt λq=>?_
  first
   |(rw[Xx q']at A;exact absurd A<|by decide)
   |(simp at A;omega)
 cases k with
 |cons w1 w2=>
  cases w2;cases w1 with
  |list j o=>exact#[_,_,ns,rfl,rfl,j,kQ ns _ o,B]
theorem yU(l:OpenLaw)(args):l.row.toRowW.claim.post args (.bool G') args=G':=
 postW_of
  (show WShape.has [] (.bool G') .bool=G' by first|rfl|decide|simp[WShape.arms])
  (w_eq_bool (w_res rfl) w_lit) rfl
theorem rL{l:OpenLaw}
  (I:l.most=y' n) (m:d.params.defaults=[])
  (call:∀(w:World)(s₀ Z:Shared)(mg mb:Str->Option Value)(y:Addr)(o:Obj)(pm cd p:Value)(a:Addr)(U:List Value)(ns:List Int),
   Ground q loose [] XP w s₀ mg mb Z.heap->YP w Z.heap->
   Z.heap.get? y=y' o->o.data= .func (docDef d.name d.params d.body d.scope pm cd p)->Z.heap.CodeRec cd d.name->mg d.name=y' (.ref y)->
   Z.heap.get? a=y' {cls:=.type "list",data:=.seq U.toArray}->IntsAre U ns->ns.length<=n->Z.gens=#[]->
   codeAny (model l.prog w) callerA (.call (.ref y) #[[.ref a],[]]) (λr S=>r= .ok (.ret<|.bool G')/\OldK Z.heap S.heap/\S.os=Z.os/\AllBare S.gens) Z):
  WalkO q loose XP YP l.row.toRowW d [] (λf U=>PySem.call f U):=by
 intro w s₀ Z mg mb G Y y o pm cd p dV kV j hd g O c t args s v i h x k z;obtain rfl:dV= .none:=Dflts.none O m;obtain rfl:kV= .none:=Dflts.noKw O;obtain⟨a,U,ns,rfl,rfl,J,b,B⟩:=y9 I i k;refine enter_call<|codeAny_mono (call w s₀ Z mg mb y o pm cd p a U ns G Y j (fd_plain hd) g c J b B t) λr S K=>?_;obtain⟨rfl,h2,u,Q⟩:=K;exact#[.inl #[.bool G',.bool G',[],rfl,λ_=>rfl,.bool G',yU l _,λ_=>#[List.Pairwise.nil,λ_ E=>(nomatch E)]],h2,u,Q]
end Att
namespace L2
open PySem PySem.Spec PyProof.Rows
theorem pN:∀{U:List Value}{ns:List Int},IntsAre U ns->aw (ns.map V.int) U
 |_,_,.nil=>.nil
 |_,_,.cons n t h=>.cons #[t,rfl]<|pN h
def G1(H:Hp):Prop:=∀b,H b=B'\/∃o xs,H b=y' (.yl o<|.lst xs)
theorem Bt{K:PySem.W.Frag}
  (i:K.In s₁.heap) (oj:s₁.heap.Ns mainGlobals mg) (L:s₁.heap.Ns builtinsNs mb) (B:∀x:Str,x≠"__name__"->mb x=bootBuiltins x) (cN:s₁.heap.NoLimit) (t:s₁.gens=#[])
  (ha:s₁.heap.get? a=y' {cls:=.type "list",data:=.seq vs.toArray}) (hi:IntsAre vs ns) (W:ns.length<=sizeLine) (hr:jb k callerA)
  (F:∀base:Heap,K.In base->base.Ns mainGlobals mg->jS P w K mg base CX k fa fd [x] sp) (L6:∀(s:Shared)(u:Value),BindsTo s fd #[[u],[]] [(x,u)])
  (M:∀H:Hp,G1 H->cX K H a (ns.map V.int)->sp [.ref a] H (λv _=>v= .bl G') λ_ _ _=>False)
  (O:∀H e S,CX [] H s₁ (λ_ _ _=>False) e S->False):
  codeAny (model P w) callerA (.call (.ref fa) #[[.ref a],[]]) (λr S=>r= .ok (.ret<|.bool G')/\OldK s₁.heap S.heap/\S.os=s₁.os/\AllBare S.gens) s₁:=by
 have rv:=pN hi;have Rz:=hi.length;have l:∀H:Hp,G1 H->cX K H a (ns.map V.int)->eS P w H s₁.heap->(∀b,H b≠B'->b=a)->(H a≠B'->K.lookup a=B')->
   codeAny (model P w) callerA (.call (.ref fa) #[[.ref a],[]]) (λr S=>r= .ok (.ret<|.bool G')/\OldK s₁.heap S.heap/\S.os=s₁.os/\AllBare S.gens) s₁:=by
  intro H A hS hok hA hK;have U:∀{b:Addr}{o:Obj},s₁.heap.get? b=y' o->H b=B'->(qr s₁.heap H).get? b=y' o:=λe n=>Be e n
  have I:∀{b:Addr}{o:Obj}{es:Array DictEntry}{Q:Nat},s₁.heap.get? b=y' o->o.data= .dict es Q->H b=B':=λ {b o es Q} e d=>by
   cases q:H b with
   |none=>rfl
   |some u=>have J:=hA b (by rw[q];simp);subst J;rw[ha]at e;cases e;have p:=d;cases p
  have y:∀{b:Addr}{m:Str->Option Value},s₁.heap.Ns b m->(qr s₁.heap H).Ns b m:=λ {b m} #[o,es,Q,e,d,r]=>#[o,es,Q,U e<|I e d,d,r]
  have Tp:K.In (qr s₁.heap H):=λb o e=>U (i b o e) (by
   cases q:H b with
   |none=>rfl
   |some u=>
    have J:=hA b (by rw[q];simp);subst J;rw[hK (by rw[q];simp)]at e;cases e)
  have c:Mod K mg (qr s₁.heap H):=#[Tp,y oj,#[mb,y L,B],let #[E,Z,Y]:=cN;#[E,y Z,Y]];have e0:C9 P w K mg (qr s₁.heap H) callerA [] s₁ H:=#[rfl,c,λb o e=>Ew e,Nat.le_of_eq<|yz _ _,trivial,λb L=>absurd (show b∈([]:List Addr) from L)<|by simp,hok,.of_eq t];refine codeAny_mono ((F _ Tp<|y oj).run callerA [] s₁ H #[[.ref a],[]] [.ref a] [.ref a] _ _ hr e0 (L6 s₁<|.ref a) (.cons rfl .nil)<|M H A hS) λr S h=>?_
  cases r with
  |error e=>exact(O H e S h).elim
  |ok fl=>
   cases fl with
   |next=>exact False.elim h
   |brk=>exact False.elim h
   |cont=>exact False.elim h
   |ret u=>
    obtain⟨v,j,os,bare,un,DY,r',q⟩:=h;have q':=q;subst q';obtain rfl:u=Value.bool G':=r';refine#[rfl,OldK.of_keep λb o e=>?_,os,bare];cases q:H b with
    |none=>exact un.keep b o e q (by intro z;exact absurd (show b∈([]:List Addr) from z)<|by simp) (by simp)
    |some u=>
     rcases A b with z|⟨ob,xs,z⟩
     ·rw[q]at z;cases z
     ·have X:=un.frzs b ob _ z;obtain⟨e1,_⟩:=hok b _ z;obtain⟨e2,_⟩:=DY b _ X;rw[e]at e1;cases e1;exact e2
 cases hk:K.lookup a with
 |some o=>have e:=i a o hk;rw[ha]at e;cases e;refine l (λ_=>B') (λ_=>.inl rfl) (.inr #[_,vs.toArray,_,hk,rfl,rfl,rfl,by rw[W4,Rz];exact W,by simpa using rv]) (λb u z=>by have g:=z;cases g) (λb z=>absurd rfl z) λz=>absurd rfl z
 |none=>
  refine l (λb=>if b=a then y' (.yl {cls:=.type "list",data:=.seq vs.toArray}<|.lst<|ns.map V.int) else B') (λb=>?_) (.inl<|.inr #[{cls:=.type "list",data:=.seq vs.toArray},aaf rfl]) (λb u z=>?_) (λb z=>?_) λ_=>hk
  ·by_cases L:b=a
   ·exact .inr #[_,_,aaf L]
   ·exact .inl<|aae L
  ·by_cases L:b=a
   ·have g:=(aaf L).symm.trans z;cases g;subst L;exact#[ha,by rw[Xd];exact W,vs,_,rv,ha]
   ·have g:=(aae L).symm.trans z;cases g
  ·by_cases L:b=a
   ·exact L
   ·exact absurd (aae L) z
end L2
namespace L2
open PySem PySem.Spec PyProof.Rows
theorem rh{l:PySem.W.OpenLaw}{K:Params->PySem.W.Frag}{CX:World->oo}{sp:World->Sp}
  (I:l.most=y' n) (z:n<=sizeLine) (m:d.params.defaults=[]) (hr:jb k callerA)
  (E:∀(w:World)(h:Heap),YP w h->(K w.params).In h)
  (F:∀(w:World)(mg:Str->Option Value)(y:Addr)(h:Heap),(K w.params).In h->h.Ns mainGlobals mg->mg d.name=y' (.ref y)->
   ∃g:FuncData,(∀(s:Shared)(u:Value),BindsTo s g #[[u],[]] [(x,u)])/\
    ∀base:Heap,(K w.params).In base->base.Ns mainGlobals mg->jS l.prog w (K w.params) mg base (CX w) k y g [x] (sp w))
  (M:∀(w:World)(H:Hp)(a:Addr)(ns:List Int),ns.length<=n->G1 H->cX (K w.params) H a (ns.map V.int)->sp w [.ref a] H (λv _=>v= .bl G') λ_ _ _=>False)
  (O:∀(w:World)(H:Hp)(s:Shared)(e:Value)(S:Shared),CX w [] H s (λ_ _ _=>False) e S->False):
  PySem.W.WalkO q loose XP YP l.row.toRowW d [] (λf U=>PySem.call f U):=by
 refine Att.rL I m λw s₀ Z mg mb y o pm cd p a U ns G Y j hd zw c J b B t=>?_
 have i:=E w _ Y;obtain⟨g,L,hF⟩:=F w mg y _ i G.T.g c;exact Bt i G.T.g G.T.b G.T.builtins G.T.nolimit t J b (Xf B z) hr hF L (λH A hS=>M w H a ns B A hS) λH e S=>O w H Z e S
end L2
namespace L2
open PySem PySem.Spec PyProof.Rows
def qa(s:Stmt):Arguments:=match s with
 |.FunctionDef _ a _ _ _ _ _ _ _ _=>a
 |_=>{posonlyargs:=[],args:=[],vararg:=B',kwonlyargs:=[],kw_defaults:=[],kwarg:=B',defaults:=[]}
def jk(s:Stmt):List Stmt:=match s with
 |.FunctionDef _ _ b _ _ _ _ _ _ _=>b
 |_=>[]
def bM(s:Stmt):Scope:=match s with
 |.FunctionDef _ _ _ _ _ _ sc _ _ _=>sc
 |_=>{kind:=.function,names:=[],isGenerator:=J',isCoroutine:=J'}
theorem MH{A B:Prop}(h:B):if J'=G' then A else B:=by rw[aae X7];exact h
theorem MJ{A B:Prop}(h:A):if G'=G' then A else B:=by rw[aaf rfl];exact h
def bT(H H':Hp):Prop:=∀b o,H b=y' o->H' b=y' o
theorem bT.refl(H):bT H H:=λ_ _ h=>h
theorem bT.trans(a:bT H H1)(b:bT H1 H2):bT H H2:=λc o h=>b c o<|a c o h
end L2
end
section
namespace Mx
open PySem PyProof.Rows
set_option genInjectivity true in
inductive D where
 |int (i:Int)
 |str (x:Str)
 |tup (ds:List D)
mutual
noncomputable def D.iN:D->D->Bool
 |.int i,.int j=>i==j
 |.str x,.str y=>x==y
 |.tup a,.tup b=>D.eqs a b
 |_,_=>J'
noncomputable def D.eqs:List D->List D->Bool
 |[],[]=>G'
 |x::xs,y::ys=>D.iN x y&&D.eqs xs ys
 |_,_=>J'
end
mutual
noncomputable def D.lt:D->D->Bool
 |.int i,.int j=>decide (i<j)
 |.int _,_=>G'
 |.str _,.int _=>J'
 |.str x,.str y=>decide (x.cps.toList<y.cps.toList)
 |.str _,.tup _=>G'
 |.tup a,.tup b=>D.f6 a b
 |.tup _,_=>J'
noncomputable def D.f6:List D->List D->Bool
 |[],[]=>J'
 |[],_::_=>G'
 |_::_,[]=>J'
 |x::xs,y::ys=>if D.iN x y=G' then D.f6 xs ys else D.lt x y
end
mutual
theorem D.dg:∀a b:D,D.iN a b=G'↔a=b
 |.int i,.int j=>by simp[D.iN]
 |.str x,.str y=>by simp[D.iN]
 |.tup a,.tup b=>by simp only[D.iN,D.tup.injEq];exact D.wm a b
 |.int _,.str _=>by simp[D.iN]
 |.int _,.tup _=>by simp[D.iN]
 |.str _,.int _=>by simp[D.iN]
 |.str _,.tup _=>by simp[D.iN]
 |.tup _,.int _=>by simp[D.iN]
 |.tup _,.str _=>by simp[D.iN]
theorem D.wm:∀a b:List D,D.eqs a b=G'↔a=b
 |[],[]=>by simp[D.eqs]
 |[],_::_=>by simp[D.eqs]
 |_::_,[]=>by simp[D.eqs]
 |x::xs,y::ys=>by simp only[D.eqs,W3,YG];rw[D.dg x y,D.wm xs ys]
end
noncomputable instance:DecidableEq D:=λa b=>if h:D.iN a b=G' then isTrue ((D.dg a b).mp h) else isFalse λe=>h<|(D.dg a b).mpr e
theorem D.kX(a b):D.iN a b=decide (a=b):=by rw[X5,D.dg];simp
theorem D.d9(x y)(xs k):D.f6 (x::xs) (y::k)=if x=y then D.f6 xs k else D.lt x y:=by
 rw[D.f6];by_cases h:x=y
 ·rw[aaf h,aaf ((D.dg x y).mpr h)]
 ·rw[aae h,aae λe=>h<|(D.dg x y).mp e]
mutual
theorem D.lt_irrefl:∀a:D,D.lt a a=J'
 |.int i=>by simp[D.lt]
 |.str x=>by simp only[D.lt];exact strKind.irrefl _
 |.tup a=>by simp only[D.lt];exact D.mX a
theorem D.mX:∀a:List D,D.f6 a a=J'
 |[]=>by simp[D.f6]
 |x::xs=>by rw[D.d9,aaf rfl];exact D.mX xs
end
mutual
theorem D.gM:∀a b:D,D.lt a b=J'->D.lt b a=J'->a=b
 |.int i,.int j,h1,h2=>by simp only[D.lt,decide_eq_false_iff_not]at h1 h2;congr 1;lia
 |.str x,.str y,h1,h2=>by simp only[D.lt]at h1 h2;have:=strKind.total _ _ h1 h2;congr 1;cases x;cases y;simp only at this;congr 1;exact X0.mp this
 |.tup a,.tup b,h1,h2=>by simp only[D.lt]at h1 h2;rw[D.pf a b h1 h2]
 |.int _,.str _,h1,_=>by simp[D.lt]at h1
 |.int _,.tup _,h1,_=>by simp[D.lt]at h1
 |.str _,.int _,_,h2=>by simp[D.lt]at h2
 |.str _,.tup _,h1,_=>by simp[D.lt]at h1
 |.tup _,.int _,_,h2=>by simp[D.lt]at h2
 |.tup _,.str _,_,h2=>by simp[D.lt]at h2
theorem D.pf:∀a b:List D,D.f6 a b=J'->D.f6 b a=J'->a=b
 |[],[],_,_=>rfl
 |[],_::_,h1,_=>by simp[D.f6]at h1
 |_::_,[],_,h2=>by simp[D.f6]at h2
 |x::xs,y::ys,h1,h2=>by
  rw[D.d9]at h1 h2;by_cases h:x=y
  ·subst h;rw[aaf rfl]at h1 h2;rw[D.pf xs ys h1 h2]
  ·rw[aae h]at h1;rw[aae (ZX h)]at h2;exact absurd (D.gM x y h1 h2) h
end
mutual
theorem D.lt_trans:∀a b c:D,D.lt a b=G'->D.lt b c=G'->D.lt a c=G'
 |.int i,.int j,.int k,h1,h2=>by simp only[D.lt,aac]at *;lia
 |.int _,_,.str _,_,_=>by simp[D.lt]
 |.int _,_,.tup _,_,_=>by simp[D.lt]
 |.int _,.str _,.int _,_,h2=>by simp[D.lt]at h2
 |.int _,.tup _,.int _,_,h2=>by simp[D.lt]at h2
 |.str _,.int _,_,h1,_=>by simp[D.lt]at h1
 |.str x,.str y,.str z,h1,h2=>by simp only[D.lt]at *;exact strKind.trans _ _ _ h1 h2
 |.str _,.str _,.int _,_,h2=>by simp[D.lt]at h2
 |.str _,_,.tup _,_,_=>by simp[D.lt]
 |.str _,.tup _,.int _,_,h2=>by simp[D.lt]at h2
 |.str _,.tup _,.str _,_,h2=>by simp[D.lt]at h2
 |.tup _,.int _,_,h1,_=>by simp[D.lt]at h1
 |.tup _,.str _,_,h1,_=>by simp[D.lt]at h1
 |.tup _,.tup _,.int _,_,h2=>by simp[D.lt]at h2
 |.tup _,.tup _,.str _,_,h2=>by simp[D.lt]at h2
 |.tup a,.tup b,.tup c,h1,h2=>by simp only[D.lt]at *;exact D.ph a b c h1 h2
theorem D.ph:∀a b c:List D,D.f6 a b=G'->D.f6 b c=G'->D.f6 a c=G'
 |[],[],_,h1,_=>by simp[D.f6]at h1
 |[],_::_,[],_,h2=>by simp[D.f6]at h2
 |[],_::_,_::_,_,_=>by simp[D.f6]
 |_::_,[],_,h1,_=>by simp[D.f6]at h1
 |_::_,_::_,[],_,h2=>by simp[D.f6]at h2
 |x::xs,y::ys,z::zs,h1,h2=>by
  rw[D.d9]at h1 h2 ⊢;by_cases h:x=y
  ·subst h;rw[aaf rfl]at h1;by_cases h':x=z
   ·rw[aaf h']at h2 ⊢;exact D.ph xs ys zs h1 h2
   ·rw[aae h']at h2 ⊢;exact h2
  ·rw[aae h]at h1;by_cases h':y=z
   ·subst h';rw[aae h];exact h1
   ·rw[aae h']at h2;have h3:=D.lt_trans x y z h1 h2;by_cases h'':x=z
    ·subst h'';rw[D.lt_irrefl]at h3;cases h3
    ·rw[aae h''];exact h3
end
@[reducible] noncomputable def Ly:KeyOrd where
 α:=D
 blt:=D.lt
 irrefl:=D.lt_irrefl
 trans:=D.lt_trans
 negTrans:=λa b c h=>by
  cases h1:D.lt a b with
  |true=>exact .inl rfl
  |false=>
   right;cases h2:D.lt b a with
   |true=>exact D.lt_trans b a c h2 h
   |false=>rw[D.gM a b h1 h2]at h;exact h
 total:=D.gM
end Mx
end
section
namespace MxSort
open PySem PySem.W PyProof.Rows
section
variable{O:KeyOrd}{key:Nat->O.α}
def Rw(key:Nat->O.α)(p:Array Nat)(i:Nat):O.α:=key<|p.getD i 0
def Up(key:Nat->O.α)(p:Array Nat)(n:Nat):Prop:=∀i j,i<=j->j<n->O.kle (Rw key p i) (Rw key p j)
def Ord(N:Nat)(p:Array Nat):Prop:=p.toList.Perm<|List.range N
theorem Ord.size(h:Ord N p):p.size=N:=by have:=h.length_eq;rw[Y3]at this;rw[<-this];simp
variable{cmp:Nat->Nat->(Bool->Shared->Prop)->Shared->Prop}{s:Shared}{N:Nat}
def Tells(O:KeyOrd)(key:Nat->O.α)(a:Nat->Nat->(Bool->Shared->Prop)->Shared->Prop)(N:Nat)(s:Shared):Prop:=
 ∀i j,i<N->j<N->∀C:Bool->Shared->Prop,C (O.blt (key i)<|key j) s->a i j C s
end
end MxSort
end
section
namespace Mx
open PySem PySem.Spec PyProof.Rows L2 PySem.SeqAt
mutual
noncomputable def D.dep:D->Nat
 |.int _=>0
 |.str _=>0
 |.tup ds=>D.gh ds+1
noncomputable def D.gh:List D->Nat
 |[]=>0
 |d::ds=>max (D.dep d)<|D.gh ds
end
mutual
noncomputable def DV(H:Hp):V->D->Prop
 |x,.int i=>x= .int i
 |x,.str z=>x= .str z
 |x,.tup ds=>∃a xs,x= .ref a/\H a=y' (.tup xs)/\bK H xs ds
noncomputable def bK(H:Hp):List V->List D->Prop
 |[],[]=>True
 |x::xs,d::ds=>DV H x d/\bK H xs ds
 |[],_::_=>False
 |_::_,[]=>False
end
theorem bK.nil:bK H [] []:=by unfold bK;trivial
theorem bK.cons(h:DV H x d)(t:bK H xs ds):bK H (x::xs) (d::ds):=by unfold bK;exact#[h,t]
theorem DV.int:DV H (.int i) (.int i):=by unfold DV;rfl
theorem DV.str:DV H (.str x) (.str x):=by unfold DV;rfl
theorem DV.tup{a:Addr}{xs:List V}{ds:List D}(h:H a=y' (.tup xs))(t:bK H xs ds):DV H (.ref a) (.tup ds):=by unfold DV;exact#[a,xs,rfl,h,t]
theorem DV.au(h:DV H x (.tup ds)):∃a xs,x= .ref a/\H a=y' (.tup xs)/\bK H xs ds:=by unfold DV at h;exact h
theorem DV.int_inv(h:DV H x (.int i)):x= .int i:=by unfold DV at h;exact h
theorem DV.str_inv(h:DV H x (.str i)):x= .str i:=by unfold DV at h;exact h
theorem bK.cons_inv(h:bK H xs (d::ds)):∃x r,xs=x::r/\DV H x d/\bK H r ds:=by
 cases xs with
 |nil=>unfold bK at h;exact h.elim
 |cons x r=>unfold bK at h;exact#[x,r,rfl,h]
theorem bK.length:∀{xs:List V}{ds:List D},bK H xs ds->xs.length=ds.length
 |[],[],_=>rfl
 |[],_::_,h=>by unfold bK at h;exact h.elim
 |_::_,[],h=>by unfold bK at h;exact h.elim
 |_::xs,_::ds,h=>by unfold bK at h;simp[bK.length h.2]
theorem bK.get:∀{xs:List V}{ds:List D}{i:Nat}{x:V},bK H xs ds->xs[i]?=y' x->∃d,ds[i]?=y' d/\DV H x d
 |[],_,_,_,_,e=>by simp at e
 |_::_,[],_,_,h,_=>by unfold bK at h;exact h.elim
 |_::_,_::_,0,_,h,e=>by unfold bK at h;simp at e;subst e;exact#[_,rfl,h.1]
 |_::xs,_::ds,i+1,x,h,e=>by obtain⟨d,e1,e2⟩:=bK.get h.2 (by simpa using e);exact#[d,by simpa using e1,e2]
def G4(H j:Hp):Prop:=∀a xs,H a=y' (.tup xs)->j a=y' (.tup xs)
mutual
theorem DV.mono{H H':Hp}(t:G4 H H'):∀{x:V}{d:D},DV H x d->DV H' x d
 |x,.int i,h=>by unfold DV at h ⊢;exact h
 |x,.str z,h=>by unfold DV at h ⊢;exact h
 |x,.tup ds,h=>by obtain⟨a,xs,e,e1,e2⟩:=h.au;subst e;exact DV.tup (t a xs e1)<|bK.mono t e2
theorem bK.mono{H H':Hp}(t:G4 H H'):∀{xs:List V}{ds:List D},bK H xs ds->bK H' xs ds
 |[],[],_=>bK.nil
 |[],_::_,h=>by unfold bK at h;exact h.elim
 |_::_,[],h=>by unfold bK at h;exact h.elim
 |_::xs,_::ds,h=>by unfold bK at h;exact bK.cons (DV.mono t h.1)<|bK.mono t h.2
end
mutual
theorem DV.inj{H:Hp}:∀{x:V}{d e:D},DV H x d->DV H x e->d=e
 |x,.int i,e,h1,h2=>by
  have:=h1.int_inv;subst this;cases e with
  |int j=>have:=h2.int_inv;injection this with q;rw[q]
  |str j=>have:=h2.str_inv;cases this
  |tup j=>obtain⟨_,_,q,_⟩:=h2.au;cases q
 |x,.str i,e,h1,h2=>by
  have:=h1.str_inv;subst this;cases e with
  |int j=>have:=h2.int_inv;cases this
  |str j=>have:=h2.str_inv;injection this with q;rw[q]
  |tup j=>obtain⟨_,_,q,_⟩:=h2.au;cases q
 |x,.tup ds,e,h1,h2=>by
  obtain⟨a,xs,q,e1,e2⟩:=h1.au;subst q;cases e with
  |int j=>have:=h2.int_inv;cases this
  |str j=>have:=h2.str_inv;cases this
  |tup j=>obtain⟨b,ys,q,f1,f2⟩:=h2.au;cases q;rw[e1]at f1;cases f1;rw[bK.inj e2 f2]
theorem bK.inj{H:Hp}:∀{xs:List V}{ds es:List D},bK H xs ds->bK H xs es->ds=es
 |[],[],[],_,_=>rfl
 |[],[],_::_,_,h=>by unfold bK at h;exact h.elim
 |[],_::_,_,h,_=>by unfold bK at h;exact h.elim
 |_::_,[],_,h,_=>by unfold bK at h;exact h.elim
 |_::_,_::_,[],_,h=>by unfold bK at h;exact h.elim
 |_::xs,_::ds,_::es,h1,h2=>by unfold bK at h1 h2;rw[DV.inj h1.1 h2.1,bK.inj h1.2 h2.2]
end
def Pi(ds es:List D)(j:Nat):Bool:=match ds[j]?,es[j]? with
 |some d,y' e=>D.iN d e
 |_,_=>G'
theorem vS:∀ds es:List D,((List.range<|min ds.length es.length).all (Pi ds es)&&ds.length==es.length)=D.eqs ds es
 |[],[]=>by simp[D.eqs]
 |[],_::_=>by simp[D.eqs]
 |_::_,[]=>by simp[D.eqs]
 |d::ds,e::es=>by
  have O:=vS ds es;have E:min (d::ds).length (e::es).length=min ds.length es.length+1:=by simp only[Xm];lia
  have e1:((d::ds).length==(e::es).length)=(ds.length==es.length):=by rw[X5];simp
  rw[E,List.range_succ_eq_map,YD,List.all_map,e1,D.eqs,<-O,Bool.and_assoc];rfl
theorem qb:∀{ds:List D}{j:Nat},ds[j]?=y' d->D.dep d<=D.gh ds
 |[],_,h=>by simp at h
 |p::ds,0,h=>by simp at h;subst h;unfold D.gh;lia
 |p::ds,j+1,h=>by have:=qb (by simpa using h);unfold D.gh;lia
section
variable{P:Program}{w:World}{H:Hp}{s:Shared}
theorem a8(hok:eS P w H s.heap)(h:H a=y' (.tup xs)):∃E:List Value,aw xs E/\s.heap.IsTuple a E.toArray:=by obtain⟨_,E,r,t⟩:=hok a _ h;exact#[E,r,t.is]
theorem eq_data(hok:eS P w H s.heap):∀(n:Nat)(d e:D)(x y:V)(u v:Value)(A:Around),D.dep d<=n->A.units+n<cLine->DV H x d->DV H y e->RelV x u->RelV y v->EqAt A s u v (D.iN d e):=by
 intro n
 induction n with
 |zero=>
  intro d e x y u v A hd hu U F S c;cases d with
  |int i=>
   have:=U.int_inv;subst this;obtain⟨t,rfl⟩:=S;cases e with
   |int j=>have:=F.int_inv;subst this;obtain⟨t',rfl⟩:=c;exact EqAt.int_int i t j t'
   |str j=>have:=F.str_inv;subst this;obtain⟨t',rfl⟩:=c;exact EqAt.int_str i t j t'
   |tup j=>obtain⟨b,k,q,r,Q⟩:=F.au;subst q;cases c;obtain⟨E,_,J⟩:=a8 hok r;exact EqAt.int_tuple i t J ⋯
  |str i=>
   have:=U.str_inv;subst this;obtain⟨t,rfl⟩:=S;cases e with
   |int j=>have:=F.int_inv;subst this;obtain⟨t',rfl⟩:=c;exact EqAt.str_int i t j t'
   |str j=>have:=F.str_inv;subst this;obtain⟨t',rfl⟩:=c;exact EqAt.str_str i t j t'
   |tup j=>obtain⟨b,k,q,r,Q⟩:=F.au;subst q;cases c;obtain⟨E,_,J⟩:=a8 hok r;exact EqAt.str_tuple i t J ⋯
  |tup ds=>unfold D.dep at hd;lia
 |succ n O=>
  intro d e x y u v A hd hu U F S c;cases d with
  |int i=>exact O (.int i) e x y u v A (by unfold D.dep;lia) ⋯ U F S c
  |str i=>exact O (.str i) e x y u v A (by unfold D.dep;lia) ⋯ U F S c
  |tup ds=>
   obtain⟨a,xs,q,e1,e2⟩:=U.au;subst q;cases S;obtain⟨E,B,J⟩:=a8 hok e1;cases e with
   |int j=>have:=F.int_inv;subst this;obtain⟨t',rfl⟩:=c;exact EqAt.tuple_int j t' J ⋯
   |str j=>have:=F.str_inv;subst this;obtain⟨t',rfl⟩:=c;exact EqAt.tuple_str j t' J ⋯
   |tup es=>
    obtain⟨b,k,q,r,Q⟩:=F.au;subst q;cases c;obtain⟨K,r2,o⟩:=a8 hok r;by_cases g:a=b
    ·subst g;rw[e1]at r;cases r;have:=bK.inj e2 Q;subst this;have q:D.iN (.tup ds) (.tup ds)=G':=(D.dg _ _).mpr rfl;rw[q];exact EqAt.same _
    ·have M:E.toArray.size=ds.length:=by rw[W4,<-B.length,e2.length]
     have m:K.toArray.size=es.length:=by rw[W4,<-r2.length,Q.length]
     have key:=RcAt.tuples (A:=A) (e:=Pi ds es) J o ⋯ (λj Z Y=>?_)
     ·have q:=vS ds es;rw[<-M,<-m]at q;rw[q]at key;exact EqAt.of_refs g key
     ·have yt:j<xs.length:=by rw[e2.length,<-M];exact Z
      have L:j<k.length:=by rw[Q.length,<-m];exact Y
      obtain⟨d,I,W⟩:=e2.get (i:=j) (x:=xs[j]) (by simp[yt]);obtain⟨e,k1,k2⟩:=Q.get (i:=j) (x:=k[j]) (by simp[L]);obtain⟨u,h,ru⟩:=B.get (i:=j) (x:=xs[j]) (by simp[yt]);obtain⟨v,l,rv⟩:=r2.get (i:=j) (x:=k[j]) (by simp[L]);have p:E.toArray[j]=u:=by have:=h;simp only[Y0];have q:=W6.mp this;exact q.2
      have ev:K.toArray[j]=v:=by have:=l;simp only[Y0];have q:=W6.mp this;exact q.2
      rw[p,ev];have ee:Pi ds es j=D.iN d e:=by unfold Pi;rw[I,k1]
      rw[ee];refine O d e xs[j] k[j] u v A.in1 ?_ (by show A.units+1+n<cLine;lia) W k2 ru rv;have:=qb I;unfold D.dep at hd
      lia
end
mutual
noncomputable def D.eO:D->D->Prop
 |.int _,.int _=>True
 |.str _,.str _=>True
 |.tup a,.tup b=>D.jx a b
 |_,_=>False
noncomputable def D.jx:List D->List D->Prop
 |x::xs,y::ys=>D.eO x y/\D.jx xs ys
 |_,_=>True
end
def ng:Bool->Bool->Bool
 |true,b=> !b
 |false,b=>b
def S6:Bool->CmpOp
 |true=>.GtE
 |false=>.Lt
def Oz:Bool->Builtin
 |true=>Builtin.«tuple.__ge__»
 |false=>Builtin.«tuple.__lt__»
def zK(g:Bool)(A:Around)(s:Shared)(u v:Value)(b:Bool):Prop:=
 ∀(prog:Program)(w:World)(E:Value->Shared->Prop)(Q:Value->Shared->Prop),Q (.bool<|ng g b) s->wpAny (model prog w) A (richCompare (S6 g) u v) Q E s
inductive Zp(g:Bool)(A:Around)(s:Shared):List Value->List Value->List D->List D->Prop
 |nil {ws:List Value} {es:List D}:ws.length=es.length->Zp g A s [] ws [] es
 |Et {vs:List Value} {ds:List D}:vs.length=ds.length->Zp g A s vs [] ds []
 |cons {v w:Value} {d e:D} {vs ws:List Value} {ds es:List D}:EqAt A s v w (D.iN d e)->(d≠e->zK g A s v w (D.lt d e))->Zp g A s vs ws ds es->Zp g A s (v::vs) (w::ws) (d::ds) (e::es)
section
open PySem.AutoSeq1 (wpAny_loadPart')
open PySem.MeetsSeq PySem.MeetsSeq2 PySem.MeetsSeq3
theorem oK(g)(l b)(i p)(n P)(dd o)(Y m)(ds es)(O:i.size=ds.length)(X:p.size=es.length):
  Meets (Oz g #[[.ref l,.ref b],[]])
   (λA R s=>s.heap.get? l=y' {cls:=.type "tuple",dict:=dd,data:=.seq i n,slots:=Y}/\s.heap.get? b=y' {cls:=.type "tuple",dict:=o,data:=.seq p P,slots:=m}/\
    Zp g A.in1 s i.toList p.toList ds es/\R (.ok<|.ret<|.bool<|ng g<|D.f6 ds es) s):=by
 rcases g.eq_false_or_eq_true with t|t
 all_goals
  rw[show Oz g=Oz _ from aab Oz t];unfold Oz;refine .of_wp λprog w A R s h=>?_
  obtain⟨B,q,d,tk,os⟩:=s;obtain⟨W,L,VX,h⟩:=h;have Q:=AutoSeq1.sub_tuple_tuple
  wp_walk using wpAny_loadPart' W,wpAny_loadPart' L,wpAny_forIn_list _ (λF b S=>b.1=B'/\S=#[B,q,d,tk,os]/\∃(U j:List Value)(E k:List D),F=U.zip j/\
   Zp g A.in1 #[B,q,d,tk,os] U j E k/\E.length+p.size=k.length+i.size/\R (.ok<|.ret<|.bool<|ng g<|D.f6 E k) #[B,q,d,tk,os]) _
  case turn=>
   rintro⟨y,x⟩ F b S ⟨r,rfl,U,j,E,k,hz,Gp,hlen,J⟩;cases Gp with
   |nil _=>rw[ZH]at hz;cases hz
   |Et _=>rw[ZI]at hz;cases hz
   |cons he W MA=>
    rename_i v K d0 e0 I H ds'' Z;rw[ZG]at hz;injection hz with hyx Mr;injection hyx with hy hx;subst hy hx;rw[D.d9]at J;simp only[Xm]at hlen;refine WZ<|he prog w _ _ ?_;by_cases a:d0=e0
    ·rw[aaf a]at J;rw[(D.dg d0 e0).mpr a]
     wp_walk
     exact#[rfl,rfl,_,_,_,_,Mr,MA,⋯,J]
    ·rw[aae a]at J;have UE:D.iN d0 e0=J':=by rw[D.kX];exact Xt a
     rw[UE];have z:=W a prog w;rw[t]at z J;dsimp only[S6]at z
     wp_walk using z
     exact#[_,rfl,J]
  case fin=>
   rintro⟨b1,b2⟩ S ⟨r,rfl,U,j,E,k,hz,Gp,hlen,J⟩;simp only at r;subst r;have M:D.f6 E k=decide (i.size<p.size):=by
    cases Gp with
    |nil _=>
     cases k with
     |nil=>simp only[Y2]at hlen;exact(Xt ⋯).symm
     |cons c u=>simp only[Y2,Xm]at hlen;exact(Xx ⋯).symm
    |Et _=>simp only[Y2]at hlen;rw[show D.f6 E []=J' by cases E<;>rfl];exact(Xt ⋯).symm
    |cons he W MA=>rw[ZG]at hz;cases hz
   rw[M,t]at J
   wp_walk
   exact#[_,rfl,by first|simpa [Builtin.Tuple.tupleCompareSizes]using J|simpa [Builtin.Tuple.tupleCompareSizes,ng,<-Nat.not_lt]using J]
  case h=>exact#[rfl,rfl,i.toList,p.toList,ds,es,rfl,VX,⋯,h]
end
section
variable{P:Program}{w:World}{H:Hp}{s:Shared}
theorem CY(hok:eS P w H s.heap)(J:A.units+n<cLine)(O:∀(d e:D)(x y:V)(u v:Value),D.dep d<=n->D.eO d e->DV H x d->DV H y e->RelV x u->RelV y v->zK g A s u v (D.lt d e)):
  ∀{xs k:List V}{c U:List Value}{ds es:List D},D.gh ds<=n->D.jx ds es->bK H xs ds->bK H k es->aw xs c->aw k U->Zp g A s c U ds es
 |[],k,c,U,[],es,_,_,_,Y,B,r2=>by cases B;exact .nil (by rw[<-r2.length,Y.length])
 |x::xs,[],c,U,ds,[],_,_,Z,_,B,r2=>by cases r2;exact .Et (by rw[<-B.length,Z.length])
 |[],_,_,_,_::_,_,_,_,h,_,_,_=>by unfold bK at h;exact h.elim
 |_::_,_,_,_,[],_,_,_,h,_,_,_=>by unfold bK at h;exact h.elim
 |_::_,[],_,_,_::_,_::_,_,_,_,h,_,_=>by unfold bK at h;exact h.elim
 |_::_,_::_,_,_,_::_,[],_,_,_,h,_,_=>by unfold bK at h;exact h.elim
 |x::xs,y::k,c,U,d::ds,e::es,hd,W,Z,Y,B,r2=>by
  unfold D.gh at hd;cases B with
  |cons B t1=>
   cases r2 with
   |cons r2 t2=>exact .cons (eq_data hok n d e x y _ _ A ⋯ J Z.1 Y.1 B r2) (λ_=>O d e x y _ _ ⋯ W.1 Z.1 Y.1 B r2)<|CY hok J O ⋯ W.2 Z.2 Y.2 t1 t2
theorem v8(g)(hok:eS P w H s.heap):∀(n:Nat)(d e:D)(x y:V)(u v:Value)(A:Around),D.dep d<=n->A.units+n<cLine->D.eO d e->DV H x d->DV H y e->RelV x u->RelV y v->zK g A s u v (D.lt d e):=by
 intro n
 induction n with
 |zero=>
  intro d e x y u v A hd hu W U F S c;cases d with
  |int i=>
   have:=U.int_inv;subst this;obtain⟨t,rfl⟩:=S;cases e with
   |int j=>
    have:=F.int_inv;subst this;obtain⟨t',rfl⟩:=c;intro prog wd E Q q;cases g with
    |false=>exact(PyProof.Rows.lt_int q:wpAny (model prog wd) A (compareOp .Lt (.int i t)<|.int j t') Q E s)
    |true=>exact(PyProof.Rows.ge_int (by unfold D.lt at q;rw[show decide (j<=i)= !decide (i<j) from by by_cases h:i<j<;>simp[h]<;>lia];exact q):wpAny (model prog wd) A (compareOp .GtE (.int i t)<|.int j t') Q E s)
   |str j=>unfold D.eO at W;exact W.elim
   |tup j=>unfold D.eO at W;exact W.elim
  |str i=>
   have:=U.str_inv;subst this;obtain⟨t,rfl⟩:=S;cases e with
   |int j=>unfold D.eO at W;exact W.elim
   |str j=>
    have:=F.str_inv;subst this;obtain⟨t',rfl⟩:=c;intro prog wd E Q q;cases g with
    |false=>exact(PySem.P.lt_str q:wpAny (model prog wd) A (compareOp .Lt (.str i t)<|.str j t') Q E s)
    |true=>exact(PySem.P.ge_str q:wpAny (model prog wd) A (compareOp .GtE (.str i t)<|.str j t') Q E s)
   |tup j=>unfold D.eO at W;exact W.elim
  |tup ds=>unfold D.dep at hd;lia
 |succ n O=>
  intro d e x y u v A hd hu W U F S c;cases d with
  |int i=>exact O (.int i) e x y u v A (by unfold D.dep;lia) ⋯ W U F S c
  |str i=>exact O (.str i) e x y u v A (by unfold D.dep;lia) ⋯ W U F S c
  |tup ds=>
   obtain⟨a,xs,q,e1,e2⟩:=U.au;subst q;cases S;cases e with
   |int j=>unfold D.eO at W;exact W.elim
   |str j=>unfold D.eO at W;exact W.elim
   |tup es=>
    obtain⟨b,ys,q,r,f2⟩:=F.au;subst q;cases c;obtain⟨ak,B,ht⟩:=a8 hok e1;obtain⟨K,r2,o⟩:=a8 hok r;have M:ak.toArray.size=ds.length:=by rw[W4,<-B.length,e2.length]
    have m:K.toArray.size=es.length:=by rw[W4,<-r2.length,f2.length]
    have oB:D.gh ds<=n:=by unfold D.dep at hd;lia
    have HZ:D.jx ds es:=by unfold D.eO at W;exact W
    have zz:=CY hok (by show A.units+1+n<cLine;lia) (λd e x y u v hd2 gp Z Mz X ry2=>O d e x y u v A.in1 hd2 (by show A.units+1+n<cLine;lia) gp Z Mz X ry2) oB HZ e2 f2 B r2;intro prog wd E Q q;obtain⟨⟨cls,dd,data,Y⟩,ho,J,k,L⟩:=id ht;obtain⟨⟨Lv,C1,p,zF⟩,l,I,k2,Bd⟩:=id o;subst J L I Bd;have q':Q (.bool<|ng g<|D.f6 ds es) s:=by have z:=q;unfold D.lt at z;exact z
    have tc:=oK g a b ak.toArray K.toArray k k2 dd C1 Y zF ds es M m;have fin:s.heap.get? a=_/\s.heap.get? b=_/\Zp g A.in1 s ak K ds es/\Value.bool (ng g<|D.f6 ds es)≠Value.notImplemented/\Q (.bool<|ng g<|D.f6 ds es) s:=#[ho,l,zz,(λx=>nomatch x),q'];cases g with
    |false=>exact richCompare_meets_room #[_,ho,rfl] #[_,l,rfl] PySem.F.slot_tuple_lt PySem.F.entry_tuple_lt (PySem.F.args_tuple_lt_2 _ _) tc fin ⋯
    |true=>exact richCompare_meets_room #[_,ho,rfl] #[_,l,rfl] PySem.F.slot_tuple_ge PySem.F.entry_tuple_ge (PySem.F.args_tuple_ge_2 _ _) tc fin ⋯
theorem Eg(hok:eS P w H s.heap):∀(n:Nat)(d e:D)(x y:V)(u v:Value)(A:Around),D.dep d<=n->A.units+n<cLine->D.eO d e->DV H x d->DV H y e->RelV x u->RelV y v->zK J' A s u v (D.lt d e):=v8 J' hok
end
end Mx
end
section
namespace Mx
open PySem PySem.W PySem.Spec PyProof.Rows L2 PySem.SeqAt MxSort
section
variable{w:World}{prog:Program}{s:Shared}{A:Around}
theorem Ea(z:Zp J' A s us U ds es):∀(i:Nat),1<=i->ds.length+m=es.length+n->Q (D.f6 ds es) s->KatLex prog w A b (decide (n<m)) Q (us.zip U) i s:=by
 induction z with
 |nil W=>
  intro i hi B q;rw[ZH];refine kat_nil ?_;rename_i j es;cases es with
  |nil=>simp only[Y2]at B;rw[D.f6]at q;rw[Xt ⋯];exact q
  |cons c u=>simp only[Y2,Xm]at B;rw[D.f6]at q;rw[Xx ⋯];exact q
 |Et W=>
  intro i hi B q;rw[ZI];refine kat_nil ?_;rename_i U ds;cases ds with
  |nil=>simp only[Y2]at B;rw[D.f6]at q;rw[Xt ⋯];exact q
  |cons c u=>simp only[Y2]at B;rw[D.f6]at q;rw[Xt ⋯];exact q
 |cons he W g O=>
  intro i hi B q;rename_i v K d e I H E k;rw[ZG];simp only[Xm]at B;rw[D.d9]at q;refine kat_cons<|he prog w _ _ ?_;by_cases a:d=e
  ·rw[(D.dg d e).mpr a];rw[aaf a]at q;exact kat_yes<|O (i+1) ⋯ ⋯ q
  ·rw[show D.iN d e=J' by rw[D.kX];exact Xt a];rw[aae a]at q;refine kat_no ?_;rw[show (b&&i==0)=J' by rw[show (i==0)=J' by simp;lia];simp];exact kat_one v K<|W a prog w _ _ q
end
def l3(ds es:List D):Prop:=es.Perm ds/\es.Pairwise λa b=>D.lt b a=J'
theorem bK.map(h:bK H xs ds):∀{p:List Nat},(∀i∈p,i<xs.length)->bK H (p.map λi=>xs.getD i .bj) (p.map λi=>ds.getD i<|.int 0)
 |[],_=>bK.nil
 |i::p,B=>by have hi:=B i Xa;obtain⟨d,e1,e2⟩:=h.get (i:=i) (x:=xs[i]) (by simp[hi]);refine bK.cons ?_<|bK.map h λj F=>B j<|W7 _ F;dsimp only;rw[show xs.getD i .bj=xs[i] by simp[hi],show ds.getD i (.int 0)=d by simp[e1]];exact e2
theorem ud(h:aw xs us):∀{p:List Nat},(∀i∈p,i<xs.length)->aw (p.map λi=>xs.getD i .bj) (p.map λi=>us.getD i .none)
 |[],_=>.nil
 |i::p,B=>by have hi:=B i Xa;obtain⟨u,e1,e2⟩:=h.get (i:=i) (x:=xs[i]) (by simp[hi]);refine .cons ?_<|ud h λj F=>B j<|W7 _ F;dsimp only;rw[show xs.getD i .bj=xs[i] by simp[hi],show us.getD i .none=u by simp[e1]];exact e2
theorem ec{α:Type}(l)(d:α):(List.range l.length).map (λi=>l.getD i d)=l:=by
 refine List.ext_getElem (by simp) λi Z Y=>?_
 simp at Z;simp[Z]
end Mx
end
section
namespace L2
open PySem PySem.Spec PyProof.Rows
def rT(env:Env):List (Str×NameKind)->List (Str×Addr)->List (Str×Addr)
 |[],cs=>cs
 |(n,k)::r,cs=>rT env r (if k== .free then(n,(env.cells.lookup n).getD 0)::cs else cs)
def gf(scope:Scope)(env:Env):List (Str×Addr):=rT env scope.names []
theorem mF:∀(l:List (Str×NameKind))(w:List (Str×Addr)),(∀y∈l,y.2= .free->∃c,env.cells.lookup y.1=y' c)->
  (forIn l w (λx r=>do
   if x.2==NameKind.free then do let a<-cellOf env x.1;pure (ForInStep.yield ((x.1,a)::r)) else pure (ForInStep.yield r)):Sem (List<|Str×Addr))=pure (rT env l w)
 |[],w,_=>rfl
 |(n,k)::r,w,h=>by
  rw[YT];have O:=λw=>mF r w λy F=>h y (W7 _ F)
  cases P:(k==NameKind.free) with
  |false=>simp only[P,aad,rT];exact O w
  |true=>
   obtain⟨c,J⟩:=h (n,k) Xa (by simpa using P);have q:=J;have e:cellOf env n=pure c:=by unfold cellOf;rw[q]
   simp only[P,rT,e,q];exact O _
theorem iM(h:∀y∈scope.names,y.2= .free->∃c,env.cells.lookup y.1=y' c):closureFor scope env=pure (gf scope env):=by have q:=mF scope.names [] h;unfold closureFor gf;rw[<-q];simp only[bind_pure]
theorem kD:∀(l:List (Str×NameKind))(w:List (Str×Addr)),(∀y∈l,y.2= .free->∃c,env.cells.lookup y.1=y' c)->
  (∀c,w.lookup x=y' c->env.cells.lookup x=y' c)->(rT env l w).lookup x=y' c->env.cells.lookup x=y' c
 |[],w,_,Y,h=>Y c h
 |(n,k)::r,w,Z,Y,h=>by
  refine kD r _ (λy F=>Z y<|W7 _ F) (λc' q=>?_) h;by_cases P:(k==NameKind.free)=G'
  ·rw[aaf P,Xu]at q;by_cases U:(x==n)=G'
   ·rw[U]at q;have a:x=n:=by simpa using U
    subst a;obtain⟨b,e⟩:=Z (x,k) Xa (by simpa using P);have J:=e;rw[J]at q ⊢;simpa using q
   ·rw[Bool.not_eq_true]at U;rw[U]at q;exact Y c' q
  ·rw[aae P]at q;exact Y c' q
theorem ml:∀(l:List (Str×NameKind))(w:List (Str×Addr)),(((x,NameKind.free)∈l)\/∃c,w.lookup x=y' c)->∃c,(rT env l w).lookup x=y' c
 |[],w,h=>by
  rcases h with h|h
  ·cases h
  ·exact h
 |(n,k)::r,w,h=>by
  refine ml r _ ?_;by_cases P:(k==NameKind.free)=G'
  ·rw[aaf P];by_cases U:(x==n)=G'
   ·exact .inr #[_,by rw[Xu,U]]
   ·rw[Bool.not_eq_true]at U;rcases h with h|h
    ·rcases Xg.mp h with e|h
     ·injection e with e1 e2;subst e1;simp at U
     ·exact .inl h
    ·exact .inr (by obtain⟨c,e⟩:=h;exact#[c,by rw[Xu,U];exact e])
  ·rw[aae P];rcases h with h|h
   ·rcases Xg.mp h with e|h
    ·injection e with e1 e2;subst e2;exact absurd rfl P
    ·exact .inl h
   ·exact .inr h
theorem ba{env:Env}{x:Str}:∀{names:List (Str×NameKind)}{k:NameKind},names.lookup x=y' k->
  (names.map λ(n,k)=>if (k==NameKind.free&&env.scope.kind== .function&&env.kindOf n==y' .cell) then(n,NameKind.cell) else(n,k)).lookup x=
   y' (if (k==NameKind.free&&env.scope.kind== .function&&env.kindOf x==y' .cell) then NameKind.cell else k)
 |[],_,h=>by simp at h
 |(n,Q)::r,k,h=>by
  have O:=@ba env x r k;show List.lookup x ((if (Q==NameKind.free&&env.scope.kind== .function&&env.kindOf n==y' .cell)=G' then(n,NameKind.cell) else(n,Q))::_)=_;cases U:x==n with
  |true=>
   have a:x=n:=by simpa using U
   subst a;simp only[Xu,U]at h;cases h;by_cases J:(Q==NameKind.free&&env.scope.kind== .function&&env.kindOf x==y' .cell)=G'
   ·simp only[J,aag,Xu,U]
   ·rw[aae J,aae J];simp only[Xu,U]
  |false=>
   simp only[Xu,U]at h;by_cases J:(Q==NameKind.free&&env.scope.kind== .function&&env.kindOf n==y' .cell)=G'
   ·rw[aaf J];simp only[Xu,U];exact O h
   ·rw[aae J];simp only[Xu,U];exact O h
theorem cu{env:Env}:∀{names:List (Str×NameKind)},names.lookup x=B'->
  (names.map λ(n,k)=>if (k==NameKind.free&&env.scope.kind== .function&&env.kindOf n==y' .cell) then(n,NameKind.cell) else(n,k)).lookup x=B'
 |[],h=>rfl
 |(n,Q)::r,h=>by
  show List.lookup x ((if (Q==NameKind.free&&env.scope.kind== .function&&env.kindOf n==y' .cell)=G' then(n,NameKind.cell) else(n,Q))::_)=_;cases U:x==n with
  |true=>simp only[Xu,U]at h;cases h
  |false=>
   simp only[Xu,U]at h;by_cases J:(Q==NameKind.free&&env.scope.kind== .function&&env.kindOf n==y' .cell)=G'
   ·rw[aaf J];simp only[Xu,U];exact cu h
   ·rw[aae J];simp only[Xu,U];exact cu h
def dm(cap:List (Option Nat))(O:St):St:=cap.map λo=>o.bind λi=>(O[i]?).join
def FI(X:Cx)(ifs:List Expr)(t:TT):Prop:=
 ∀(K':List (Addr×Obj))(s:Shared)(σ:St)(H:Hp)(Q:Bool->Hp->Prop),Inv X K' σ H s->t σ H Q->
  wpAny (model X.prog X.w) X.A (forIn ifs G' λc r=>if r=G' then do let ok<-isTrue c X.env (eval c X.env);pure (ForInStep.yield ok) else pure (ForInStep.yield r)) (TP X K' σ Q) X.xe s
def Sv:TT:=λ_ H Q=>Q G' H
theorem EY:FI X [] Sv:=λ_ _ _ H _ I h=>wpAny_tests_nil #[H,I,h]
theorem EZ(h:PT X c t):FI X [c] t:=λM s O H Q I B=>wpAny_tests_one<|h M s O H Q I B
end L2
end
section
namespace Mx
open PySem PySem.W PySem.Spec PyProof.Rows L2 PySem.SeqAt
section
variable{X:Cx}
def RZ(K:PySem.W.Frag):List V->Hp->VK->Prop:=λxs H Q=>∃x T t b,xs=[x,.ty T]/\jd K H x t/\PySem.W.kitOne K t (.type T)=y' b/\Q (.bl b) H
theorem As:cc X (.builtin "isinstance") (RZ X.K):=by intro M s O H xs c Q I r h;obtain⟨x,T,t,b,rfl,g,P,q⟩:=h;obtain⟨u,v,rfl,B,r2⟩:=r.two;cases r2;exact yF I B g P λtk=>#[.bl b,H,I.tok tk,rfl,q]
end
end Mx
end
section
namespace Mx
open PySem PySem.Spec PySem.W PyProof.Rows L2 PySem.SeqAt
section
variable{X:Cx}{pos:Pos}
def sr(K:PySem.W.Frag)(n:Nat)(t:zo):TG:=λv O H Q=>∃a xs,v= .ref a/\(fD K H a xs\/cX K H a xs)/\xs.length=n/\t xs O H Q
theorem xl(J:X.calm=G')(h:KD X es t)(hn:(assignEach es X.env).length=n)(p:(assignEach es X.env).findIdx? (·.1)=B'):PG X (.Tuple es k pos) (sr X.K n t):=by
 intro M s O H v u Q I r B;obtain⟨a,xs,rfl,K|K,W,B⟩:=B
 ·exact Ju J h hn p M s O H _ u Q I r #[a,xs,rfl,K,W,B]
 cases r;obtain⟨E,rv,pl,_⟩:=I.list K;have e:(assignEach es X.env).length=E.toArray.size:=by rw[hn,<-W,rv.length,W4]
 rw[arm_assign_Tuple];refine WZ<|aaD ?_;unfold unpack;rw[p,e];refine WZ<|aau<|PySem.W.kun_itemsOf (I.ok.hd J) pl.isList λy U=>?_;exact h M _ O H xs _ Q (I.kept λb o z=>U b o (Xz<|Xe z) z) rv B
end
end Mx
end
section
namespace Mx
open PySem PySem.W PySem.Spec PyProof.Rows L2
structure zR(z TI TO i1 i2:Addr):Prop where
 TIz:TI≠z
 TOz:TO≠z
 i1z:i1≠z
 i2z:i2≠z
 TITO:TI≠TO
 TIi1:TI≠i1
 TIi2:TI≠i2
 TOi1:TO≠i1
 TOi2:TO≠i2
 i12:i1≠i2
theorem dB(h:H p=B')(o):bT H (upd H p o):=λb u q=>by rw[aN (br q h)];exact q
theorem tZ{D:Addr}(O:H D=y' (.lst xs)):G4 H (upd H D<|.lst ys):=λb t q=>by
 by_cases e:b=D
 ·subst e;rw[O]at q;cases q
 ·rw[aN e];exact q
def cK:Bool->Heap->Addr->Addr->Nat->Prop
 |false,h,i,l,k=>h.IsListIter i l k
 |true,h,i,l,k=>h.IsTupleIter i l k
def gz:Bool->Heap->Addr->Array Value->Prop
 |false,h,l,xs=>h.IsList l xs
 |true,h,l,xs=>h.IsTuple l xs
theorem cK.at:∀{b:Bool}{h y:Heap}{i l:Addr}{k:Nat},cK b h i l k->(∀o,h.get? i=y' o->y.get? i=y' o)->cK b y i l k
 |false,_,_,_,_,_,x,e=>Heap.IsListIter.at x e
 |true,_,_,_,_,_,x,e=>Heap.IsTupleIter.at x e
theorem gz.at:∀{b:Bool}{h y:Heap}{l:Addr}{xs:Array Value},gz b h l xs->(∀o,h.get? l=y' o->y.get? l=y' o)->gz b y l xs
 |false,_,_,_,_,x,e=>let #[o,j,r]:=x;#[o,e o j,r]
 |true,_,_,_,_,x,e=>let #[o,j,r]:=x;#[o,e o j,r]
theorem cK.obj:∀{b:Bool}{h:Heap}{i l:Addr}{k:Nat},cK b h i l k->∃o,h.get? i=y' o/\∀v,o.data≠ .cell v
 |false,_,_,_,_,x=>by obtain⟨o,e,c,d⟩:=x;exact#[o,e,λv q=>by rw[d]at q;cases q]
 |true,_,_,_,_,x=>by obtain⟨o,e,c,d⟩:=x;exact#[o,e,λv q=>by rw[d]at q;cases q]
section
variable{prog:Program}{w:World}{A:Around}{E:Value->Shared->Prop}{s:Shared}
theorem vH(a:s.heap.IsTupleIter it t i)(ht:s.heap.IsTuple t items)(U:items[i]?=y' x)
  (L:∀y,y.IsTupleIter it t (i+1)->Heap.SameBut it s.heap y->Q x {s with heap:=y}):wpAny (model prog w) A (Builtin.SmallTypes.nextOf<|.ref it) Q E s:=by
 obtain⟨o,j,J,hd⟩:=id a;obtain⟨g,b,_,h,k⟩:=ht;refine WZ<|aar a.typeIs Yg<|aas Yg a.typeIs Yf (show wpAny _ _ (field (.ref it) 0 >>=_) _ _ s from WZ<|aat j hd rfl ?_)<|Ye _;show wpAny _ _ (if (Value.ref t==Value.none)=G' then _ else _) _ _ s;rw[aae (show¬((Value.ref t==Value.none)=G') from X7)];refine(WZ<|aat j hd rfl<|WZ<|aaC b k ?_);simp only[Yu,U];refine WZ<|wpAny_setField j hd (by simp)<|W2 #[x,rfl,W2<|L _ #[_,Heap.get?_update_self _ j<|Obj.isFreed_of_fields<|Obj.data_mapFields hd _,(Obj.cls_mapFields ..).trans J,?_]<|Heap.SameBut.update ..];rw[Obj.data_mapFields hd];simp[rawInt]
theorem zf(W:A.handled=B')(a:s.heap.IsTupleIter it t i)(ht:s.heap.IsTuple t items)(U:items[i]?=B')
  (c:∀y e,Heap.ExtBut it s.heap y->(∃o,y.get? e=y' o/\o.cls= .type "StopIteration")->E (.ref e) {s with heap:=y}):wpAny (model prog w) A (Builtin.SmallTypes.nextOf (.ref it)) Q E s:=by
 obtain⟨o,j,J,hd⟩:=id a;obtain⟨g,b,_,h,k⟩:=ht;refine WZ (aar a.typeIs Yg (aas Yg a.typeIs Yf (show wpAny _ _ (field (.ref it) 0 >>=_) _ _ s from WZ (aat j hd rfl ?_)) (Ye _)));show wpAny _ _ (if (Value.ref t==Value.none)=G' then _ else _) _ _ s;rw[aae (show¬((Value.ref t==Value.none)=G') from X7)];refine(WZ (aat j hd rfl (WZ (aaC b k ?_))));simp only[Yu,U];refine WZ (aaB (WZ (wpAny_setField j hd (by simp) (WZ ?_))));simp only[newExc];refine WZ (aaw (WZ (wpAny_of_eq rfl (aaw ?_ (by size_fits)))) (by size_fits));simp only[raiseNew];refine WZ (wpAny_handled ?_)
 first|rw[show A.in1.handled=B' from W]|rw[W]
 exact WZ (W2 (wpAny_throw (c _ _ (((Heap.SameBut.update ..).extBut.push _).push _) #[_,Xb _ rfl,rfl])))
theorem iT(a:cK b s.heap it l i)(W:gz b s.heap l items)(U:items[i]?=y' x)
  (L:∀y,cK b y it l (i+1)->Heap.SameBut it s.heap y->Q x {s with heap:=y}):wpAny (model prog w) A (Builtin.SmallTypes.nextOf<|.ref it) Q E s:=by
 cases b with
 |false=>exact wpAny_nextOf_list_item a W U L
 |true=>exact vH a W U L
theorem o4(hh:A.handled=B')(a:cK b s.heap it l i)(W:gz b s.heap l items)(U:items[i]?=B')
  (c:∀y e,Heap.ExtBut it s.heap y->(∃o,y.get? e=y' o/\o.cls= .type "StopIteration")->E (.ref e) {s with heap:=y}):wpAny (model prog w) A (Builtin.SmallTypes.nextOf<|.ref it) Q E s:=by
 cases b with
 |false=>exact wpAny_nextOf_list_end hh a W U c
 |true=>exact zf hh a W U c
end
structure jT(z TO i1 i2 l:Addr):Prop where
 z:l≠z
 o:l≠TO
 a:l≠i1
 b:l≠i2
section
variable{prog:Program}{w:World}{A:Around}{E:Value->Shared->Prop}{s:Shared}
theorem zm{z n r i1 i2 M m:Addr}(D:zR z n r i1 i2)(O1:jT z r i1 i2 M)(O2:jT z r i1 i2 m)
  (g:IsZip s.heap z n r .none) (QQ:IsPair s.heap n (.ref i1) (.ref i2)) (QS:IsPair s.heap r a b) (Z:cK b1 s.heap i1 M k1) (Y:cK b2 s.heap i2 m k2) (k8:gz b1 s.heap M xs) (S:gz b2 s.heap m ys) (U:xs[k1]?=y' x) (hy:ys[k2]?=y' y)
  (L:∀h',IsZip h' z n r (rawInt s.heap.objs.size)->IsPair h' r x y->cK b1 h' i1 M (k1+1)->cK b2 h' i2 m (k2+1)->IsPair h' s.heap.objs.size x y->
   (∀c o,c≠z->c≠r->c≠i1->c≠i2->s.heap.get? c=y' o->h'.get? c=y' o)->Q (y'<|.ref s.heap.objs.size) {s with heap:=h'}):wpAny (model prog w) A (pyNext<|.ref z) Q E s:=by
 have hT:s.TypeIs (.ref z) "zip":=#[_,g,rfl];refine WZ<|wpAny_attempt<|aar hT Yh<|aas Yh hT F.entry_zip_next ?_<|F.args_zip_next_1 _;refine(show wpAny _ _ (field (.ref z) 2 >>=_) _ _ _ from WZ<|aat g rfl rfl<|WZ<|aat g rfl rfl<|WZ<|aaC QQ rfl<|WZ ?_);refine WZ<|aat g rfl rfl<|W2 ?_;simp only[aag];refine WZ (aaB<|WZ<|aat g rfl rfl<|WZ<|XB g (by simp) λI O e1=>WZ ?_)
 replace O:IsZip I z n r .ellipsis:=O
 simp only[ZF,YT];refine WZ<|WZ<|aax<|WZ<|iT (Z.at λo q=>e1.extBut _ o D.i1z q) (k8.at λo q=>e1.extBut _ o O1.z q) U λW j1 e2=>W2 ?_;have k:=e2.extBut _ _ D.TOi1<|e1.extBut _ _ D.TOz QS;refine WZ (aaC k rfl<|WZ<|aaG k λi t3 l=>WZ<|wpAny_letGo<|W2 ?_)
 replace t3:IsPair i r x b:=t3
 refine WZ<|WZ<|aax<|WZ<|iT (Y.at λo q=>l.extBut _ o D.TOi2.symm<|e2.extBut _ o D.i12.symm<|e1.extBut _ o D.i2z q) (S.at λo q=>l.extBut _ o O2.o<|e2.extBut _ o O2.a<|e1.extBut _ o O2.z q) hy λg4 j2 e4=>W2 ?_;have t4:=e4.extBut _ _ D.TOi2 t3;refine WZ (aaC t4 rfl<|WZ<|aaG t4 λj J p=>WZ<|wpAny_letGo<|W2<|W2 ?_)
 replace J:IsPair j r x y:=J
 refine WZ<|aaC J rfl<|WZ<|wpAny_newTuple ?_;have sz:j.objs.size=s.heap.objs.size:=by rw[p.1,e4.1,l.1,e2.1,e1.1]
 have z5:=p.extBut _ _ D.TOz.symm<|e4.extBut _ _ D.i2z.symm<|l.extBut _ _ D.TOz.symm<|e2.extBut _ _ D.i1z.symm O;have t:∀c o,c≠z->c≠r->c≠i1->c≠i2->s.heap.get? c=y' o->j.get? c=y' o:=λc o v X H h q=>p.extBut _ _ X (e4.extBut _ _ h<|l.extBut _ _ X<|e2.extBut _ _ H<|e1.extBut _ _ v q)
 have K:=j1.at λo q=>p.extBut _ o D.TOi1.symm (e4.extBut _ o D.i12<|l.extBut _ o D.TOi1.symm q)
 have P:=j2.at λo q=>p.extBut _ o D.TOi2.symm q
 have Uj:=Xe z5;refine(WZ ?_);have z6:IsZip (j.push {cls:=.type "tuple",data:=.seq [x,y].toArray}) z n r .ellipsis:=W1 _ z5;refine WZ (XB z6 (by simp) λg7 z7 u=>?_)
 replace z7:IsZip g7 z n r (rawInt j.objs.size):=z7
 refine XB z7 (by simp) λB z8 e8=>?_
 replace z8:IsZip B z n r (rawInt j.objs.size):=z8
 have up:∀c o,c≠z->j.get? c=y' o->B.get? c=y' o:=λc o v q=>e8.extBut _ _ v (u.extBut _ _ v<|W1 _ q)
 have t8:=e8.extBut _ _ (ZS Uj)<|u.extBut _ _ (ZS Uj)<|Xb _ rfl;rw[sz]at z8 t8;refine W2 #[_,rfl,W2 ?_];rw[sz];exact L B z8 (up _ _ D.TOz J) (K.at λo q=>up _ o D.i1z q) (P.at λo q=>up _ o D.i2z q) t8 λc o v X H h q=>up c o v<|t c o v X H h q
theorem CU{z n TO i1 i2 M m:Addr}(hh:A.handled=B')(D:zR z n TO i1 i2)(O1:jT z TO i1 i2 M)(t:jT z TO i1 i2 m)
  (g:IsZip s.heap z n TO .none) (QQ:IsPair s.heap n (.ref i1) (.ref i2)) (QS:IsPair s.heap TO a b) (Z:cK b1 s.heap i1 M k1) (Y:cK b2 s.heap i2 m k2) (P:gz b1 s.heap M xs) (gp:gz b2 s.heap m ys) (Mi:xs[k1]?=B'\/ys[k2]?=B')
  (L:∀y,(∀c o,c≠z->c≠TO->c≠i1->c≠i2->s.heap.get? c=y' o->y.get? c=y' o)->Q B' {s with heap:=y}):wpAny (model prog w) A (pyNext<|.ref z) Q E s:=by
 have hT:s.TypeIs (.ref z) "zip":=#[_,g,rfl];refine WZ<|wpAny_attempt<|aar hT Yh<|aas Yh hT F.entry_zip_next ?_<|F.args_zip_next_1 _;have stop:∀(y:Heap)(e:Addr),(∀c o,c≠z->c≠TO->c≠i1->c≠i2->s.heap.get? c=y' o->y.get? c=y' o)->(∃o,y.get? e=y' o/\o.cls= .type "StopIteration")->wpAny (model prog w) A (isInstance (.ref e)<|.type "StopIteration") (λr S=>r=G'/\Q B' S) E {s with heap:=y}:=λy e kk K=>by obtain⟨o,j,J⟩:=K;exact wpAny_isInstance #[o,j,J] isSubtype_stop #[rfl,L _ kk]
 refine(show wpAny _ _ (field (.ref z) 2 >>=_) _ _ _ from WZ<|aat g rfl rfl<|WZ<|aat g rfl rfl<|WZ<|aaC QQ rfl<|WZ ?_);refine WZ<|aat g rfl rfl<|W2 ?_;simp only[aag];refine WZ (aaB<|WZ<|aat g rfl rfl<|WZ<|XB g (by simp) λI O e1=>WZ ?_)
 replace O:IsZip I z n TO .ellipsis:=O
 simp only[ZF,YT];refine WZ<|WZ<|aax ?_;cases U:xs[k1]? with
 |none=>
  refine WZ<|o4 hh (Z.at λo q=>e1.extBut _ o D.i1z q) (P.at λo q=>e1.extBut _ o O1.z q) U λW e e2 K=>?_;obtain⟨B,u,Md⟩:=K;have X:=e2 _ _ D.i1z.symm O;have QY:e≠z:=λx=>by subst x;rw[X]at u;cases u;simp at Md
  refine XB X (by simp) λi _ l=>?_
  refine WZ<|aav (stop i e (λc o v _ H _ x=>l.extBut _ _ v<|e2 _ _ H<|e1.extBut _ _ v x) #[B,l.extBut _ _ QY u,Md]) (λr S q=>?_) λ_ _ q=>q;obtain⟨rfl,q⟩:=q;exact W2 q
 |some x=>
  have hy:ys[k2]?=B':=by rcases Mi with h|h;rw[U]at h;cases h;exact h
  refine WZ<|iT (Z.at λo q=>e1.extBut _ o D.i1z q) (P.at λo q=>e1.extBut _ o O1.z q) U λW j1 e2=>W2 ?_;have k:=e2.extBut _ _ D.TOi1<|e1.extBut _ _ D.TOz QS;refine WZ<|aaC k rfl<|WZ<|aaG k λi t3 l=>WZ<|wpAny_letGo<|W2 ?_;refine WZ<|WZ<|aax<|WZ<|o4 hh (Y.at λo q=>l.extBut _ o D.TOi2.symm<|e2.extBut _ o D.i12.symm<|e1.extBut _ o D.i2z q) (gp.at λo q=>l.extBut _ o t.o<|e2.extBut _ o t.a<|e1.extBut _ o t.z q) hy λg4 e e4 K=>?_;obtain⟨B,u,Md⟩:=K;have z4:=e4 _ _ D.i2z.symm<|l.extBut _ _ D.TOz.symm<|e2.extBut _ _ D.i1z.symm O;have QY:e≠z:=λx=>by subst x;rw[z4]at u;cases u;simp at Md
  refine XB z4 (by simp) λg5 _ p=>?_
  refine WZ<|aav (stop g5 e (λc o v c2 H c4 x=>p.extBut _ _ v<|e4 _ _ c4<|l.extBut _ _ c2<|e2.extBut _ _ H<|e1.extBut _ _ v x) #[B,p.extBut _ _ QY u,Md]) (λr S q=>?_) λ_ _ q=>q;obtain⟨rfl,q⟩:=q;exact W2 q
end
def sO:Bool->Addr->Obj
 |false,l=>{cls:=.type "list_iterator",data:=.fields [.ref l,.int 0 0].toArray}
 |true,l=>{cls:=.type "tuple_iterator",data:=.fields [.ref l,.int 0 0].toArray}
theorem sP:∀{b:Bool}{h:Heap}{i l:Addr},h.get? i=y' (sO b l)->cK b h i l 0
 |false,_,_,_,e=>#[_,e,rfl,rfl]
 |true,_,_,_,e=>#[_,e,rfl,rfl]
theorem oZ(b)(l):(sO b l).isFreed=J':=by cases b<;>rfl
abbrev PV(h:Heap)(b1:Bool)(l1:Addr):Heap:=h.push (sO b1 l1)
abbrev PX(h:Heap)(b1 b2:Bool)(l1 l2:Addr):Heap:=(PV h b1 l1).push (sO b2 l2)
abbrev PY(h:Heap)(b1 b2:Bool)(l1 l2:Addr):Heap:=(PX h b1 b2 l1 l2).push {cls:=.type "tuple",data:=.seq [.ref h.objs.size,.ref (PV h b1 l1).objs.size].toArray}
abbrev PZ(h:Heap)(b1 b2:Bool)(l1 l2:Addr):Heap:=(PY h b1 b2 l1 l2).push {cls:=.type "tuple",data:=.seq [.none,.none].toArray}
abbrev K0(h:Heap)(b1 b2:Bool)(l1 l2:Addr):Heap:=(PZ h b1 b2 l1 l2).push {cls:=.type "zip",data:=.fields [.none,.bool J',.bool J',.ref (PX h b1 b2 l1 l2).objs.size,.ref (PY h b1 b2 l1 l2).objs.size].toArray}
theorem gz.push(x:gz b h l xs)(o):gz b (h.push o) l xs:=x.at λ_ e=>W1 _ e
theorem CV(b1 b2)(M m)(xs k):
  Meets (Builtin.«zip.__new__» #[[.type "zip",.ref M,.ref m],[]]) (λ_ R s=>gz b1 s.heap M xs/\gz b2 s.heap m k/\R (.ok<|.ret<|.ref (PZ s.heap b1 b2 M m).objs.size) {s with heap:=K0 s.heap b1 b2 M m}):=
 .of_wp λprog w A R s h=>by
  obtain⟨B,g,d,tk,os⟩:=s;obtain⟨k8,gp,h⟩:=h;have b:=sub_zip;have a:=gp.push<|sO b1 M;cases b1<;>cases b2
  ·have k1:Heap.IsList (Shared.heap #[B,g,d,tk,os]) M xs:=k8;have k2:Heap.IsList (Shared.heap #[B.push {cls:=.type "list_iterator",data:=.fields [.ref M,.int 0 0].toArray},g,d,tk,os]) m k:=a
   wp_walk using aaz k1,aaz k2
   exact#[_,rfl,h]
  ·have k1:Heap.IsList (Shared.heap #[B,g,d,tk,os]) M xs:=k8;have k2:Heap.IsTuple (Shared.heap #[B.push {cls:=.type "list_iterator",data:=.fields [.ref M,.int 0 0].toArray},g,d,tk,os]) m k:=a
   wp_walk using aaz k1,aaA k2
   exact#[_,rfl,h]
  ·have k1:Heap.IsTuple (Shared.heap #[B,g,d,tk,os]) M xs:=k8;have k2:Heap.IsList (Shared.heap #[B.push {cls:=.type "tuple_iterator",data:=.fields [.ref M,.int 0 0].toArray},g,d,tk,os]) m k:=a
   wp_walk using aaA k1,aaz k2
   exact#[_,rfl,h]
  ·have k1:Heap.IsTuple (Shared.heap #[B,g,d,tk,os]) M xs:=k8;have k2:Heap.IsTuple (Shared.heap #[B.push {cls:=.type "tuple_iterator",data:=.fields [.ref M,.int 0 0].toArray},g,d,tk,os]) m k:=a
   wp_walk using aaA k1,aaA k2
   exact#[_,rfl,h]
section
variable{prog:Program}{w:World}{A:Around}{E:Value->Shared->Prop}{s:Shared}
theorem yc(P:gz b1 s.heap l1 xs)(S:gz b2 s.heap l2 ys)
  (h:∀y,IsZip y (s.heap.objs.size+4) (s.heap.objs.size+2) (s.heap.objs.size+3) .none->IsPair y (s.heap.objs.size+2) (.ref s.heap.objs.size) (.ref<|s.heap.objs.size+1)->IsPair y (s.heap.objs.size+3) .none .none->
   cK b1 y s.heap.objs.size l1 0->cK b2 y (s.heap.objs.size+1) l2 0->(∀c o,s.heap.get? c=y' o->y.get? c=y' o)->Q (.ref<|s.heap.objs.size+4) {s with heap:=y}):wpAny (model prog w) A (call (.type "zip") [.ref l1,.ref l2]) Q E s:=by
 refine callType_new F.called_zip (by decide) (F.typeCall_zip_2 _ _) (F.newCall_zip_2 _ _) (λobj=>F.args_object_init_3 obj _ _) F.entry_zip_new (CV b1 b2 l1 l2 xs ys) #[P,S,?_];have r:(PV s.heap b1 l1).objs.size=s.heap.objs.size+1:=Xy ..;have n:(PX s.heap b1 b2 l1 l2).objs.size=s.heap.objs.size+2:=by rw[Xy,r]
 have p:(PY s.heap b1 b2 l1 l2).objs.size=s.heap.objs.size+3:=by rw[Xy,n]
 have Y:(PZ s.heap b1 b2 l1 l2).objs.size=s.heap.objs.size+4:=by rw[Xy,p]
 have j:(K0 s.heap b1 b2 l1 l2).get? (PZ s.heap b1 b2 l1 l2).objs.size=y' _:=Xb _ rfl;have z:(K0 s.heap b1 b2 l1 l2).get? (PY s.heap b1 b2 l1 l2).objs.size=y' _:=W1 _<|Xb _ rfl;have i:(K0 s.heap b1 b2 l1 l2).get? (PX s.heap b1 b2 l1 l2).objs.size=y' _:=W1 _<|W1 _<|Xb _ rfl;have W:(K0 s.heap b1 b2 l1 l2).get? (PV s.heap b1 l1).objs.size=y' _:=W1 _<|W1 _<|W1 _<|Xb _<|oZ b2 l2;have I:(K0 s.heap b1 b2 l1 l2).get? s.heap.objs.size=y' _:=W1 _<|W1 _<|W1 _<|W1 _<|Xb _<|oZ b1 l1;rw[n,p,Y]at j;rw[r,n]at i;rw[p]at z;rw[r]at W;rw[Y];exact#[#[_,j,rfl],h _ j i z (sP I) (sP W) λc o x=>W1 _<|W1 _<|W1 _<|W1 _<|W1 _ x]
end
def uv:Bool->List V->HO
 |false,xs=>.lst xs
 |true,xs=>.tup xs
theorem wA(h:uv b xs=uv b ys):xs=ys:=by
 cases b with
 |false=>injection h
 |true=>injection h
def P6(b1 b2:Bool)(l1 l2:Addr):It where
 go:=λi H=>∃xs ys x y,H l1=y' (uv b1 xs)/\H l2=y' (uv b2 ys)/\xs[i]?=y' x/\ys[i]?=y' y
 yld:=λi H v H'=>∃p x y,v= .ref p/\H p=B'/\H'=upd H p (.tup [x,y])/\∀xs ys,H l1=y' (uv b1 xs)->H l2=y' (uv b2 ys)->xs[i]?=y' x/\ys[i]?=y' y
 stop:=λi H=>∃xs ys,H l1=y' (uv b1 xs)/\H l2=y' (uv b2 ys)/\(xs.length<=i\/ys.length<=i)
theorem iD{O:L2.St}(I:Inv X K' O H s)(h:H l=y' (uv b xs)):∃E:List Value,aw xs E/\gz b s.heap l E.toArray:=by
 cases b with
 |false=>obtain⟨E,r,p,_⟩:=I.list<|.inl<|.inl h;exact#[E,r,p.isList]
 |true=>obtain⟨E,r,p,_⟩:=I.tuple<|.inl<|.inl h;exact#[E,r,p]
def Wj(b1 b2:Bool)(z n r i1 i2 M m:Addr)(i:Nat)(h:Heap):Prop:=IsZip h z n r .none/\IsPair h n (.ref i1) (.ref i2)/\(∃a b,IsPair h r a b)/\cK b1 h i1 M i/\cK b2 h i2 m i
theorem zj{K:PySem.W.Frag}{z TI r i1 i2 l1 l2:Addr}(ap:zR z TI r i1 i2):
  Turn P w K (.Tuple es k tp) (P6 b1 b2 l1 l2) [z,TI,r,i1,i2] z (Wj b1 b2 z TI r i1 i2 l1 l2) where
 mem:=by simp
 obj:=λi h st b L=>by
  obtain⟨s1,p,⟨a,b',g⟩,s4,s5⟩:=st;simp only[Xg,Xh,aan]at L;rcases L with rfl|rfl|rfl|rfl|rfl
  ·exact#[_,s1,λv q=>by cases q]
  ·exact#[_,p,λv q=>by cases q]
  ·exact#[_,g,λv q=>by cases q]
  ·exact s4.obj
  ·exact s5.obj
 keep:=λi h h' st Z=>by obtain⟨s1,p,⟨a,b',g⟩,s4,s5⟩:=st;exact#[Z z (by simp) _ s1,Z TI (by simp) _ p,#[a,b',Z r (by simp) _ g],s4.at λo e=>Z i1 (by simp) o e,s5.at λo e=>Z i2 (by simp) o e]
 item:=by
  intro X hP hw hK J i M s O H E I A st t;subst hP hw hK;obtain⟨xs,ys,x,y,k8,gp,U,F⟩:=t;obtain⟨s1,p,⟨a,b',g⟩,s4,s5⟩:=st;obtain⟨j3,B,p1⟩:=iD I k8;obtain⟨c8,r2,p2⟩:=iD I gp;obtain⟨u1,Mt,V8⟩:=B.get U;obtain⟨u2,VP,V9⟩:=r2.get F;have ne:∀{l:Addr}{o:HO},H l=y' o->∀b∈[z,TI,r,i1,i2],l≠b:=λ {l o} W b L e=>by subst e;rw[(A l L).1]at W;cases W
  have off:∀{l:Addr}{o:HO},H l=y' o->jT z r i1 i2 l:=λ {l o} W=>#[ne W z<|by simp,ne W r<|by simp,ne W i1<|by simp,ne W i2<|by simp]
  refine zm ap (off k8) (off gp) s1 p g s4 s5 p1 p2 (by simpa using Mt) (by simpa using VP) λh' a1 a2 a3 a4 a5 a7=>#[_,rfl,?_]
  refine wpAny_letOwnedTupleGo_zip a1 λY c1 c2=>?_
  have Vh:s.heap.objs.size≠z:=λe=>by have:=Xe s1;rw[<-e]at this;exact ZM _ this
  have QR:=(c2.2 TI ap.TIz).trans<|a7 TI _ ap.TIz ap.TITO ap.TIi1 ap.TIi2 p;have QP:=(c2.2 _ Vh).trans a5;have Z:∀b o,b∉[z,TI,r,i1,i2]->s.heap.get? b=y' o->Y.get? b=y' o:=λb o L e=>by simp only[Xg,Xh,aan,not_or]at L;exact(c2.2 b L.1).trans (a7 b o L.1 L.2.2.1 L.2.2.2.1 L.2.2.2.2 e)
  have lt:∀{b:Addr}{o:Obj},s.heap.get? b=y' o->b≠s.heap.objs.size:=λe=>Xz (Xe e)
  have M9:∀b u,H b=y' u->b∉[z,TI,r,i1,i2]:=λb u e L=>by rw[(A b L).1]at e;cases e
  have KP:=I.fresh;have I2:Inv X M O (upd H s.heap.objs.size<|.tup [x,y]) {s with heap:=Y,toks:=s.toks}:=by
   refine I.step (λb L=>#[(A b L).2.2.2.1,(A b L).2.1,(A b L).2.2.2.2.1,(A b L).2.2.2.2.2]) (λb o _ _ L e _=>Z b o L e) (λb o _ _ L e _=>#[o.slots,Z b o L e])
    (λb o L e n=>by rw[aN (lt e)];exact n) (λb o L e=>#[o,Z b o L e]) (λb zs e=>by rw[aN (br e KP)];exact e) (λb o u e=>by rw[aN (br e KP)];exact e)
    (λb ps e=>#[#[],by rw[aN (br e KP),e];simp]) (λm hm=>?_) (λb u e=>?_) I.bare
   ·obtain⟨o,iO,Q,j,rr⟩:=hm;exact#[o,iO,Q,Z _ o (λL=>(A _ L).2.1 rfl) j,rr]
   ·by_cases L:b=s.heap.objs.size
    ·subst L;rw[aQ]at e;cases e;exact#[by show 2<=sizeLine;decide,[u1,u2],.cons V8<|.cons V9 .nil,_,QP,rfl,0,rfl,rfl,rfl]
    ·rw[aN L]at e;refine(I.hok b u e).qX (λc v J q=>Z c v ?_ q) (λc q=>by rw[aN (br q KP)];exact q) λc zs q=>by rw[aN (br q KP)];exact q
     rcases J with rfl|J
     ·exact M9 c u e
     ·exact M9 c _ J
  refine#[.ref s.heap.objs.size,_,I2,rfl,#[s.heap.objs.size,x,y,rfl,KP,rfl,λzJ PU S q2=>?_],#[c1,QR,#[u1,u2,(c2.2 r ap.TOz).trans a2],a3.at λo e=>(c2.2 i1 ap.i1z).trans e,a4.at λo e=>(c2.2 i2 ap.i2z).trans e],λb L=>?_]
  ·rw[k8]at S;rw[gp]at q2;rw[wA (ZY S).symm,wA (ZY q2).symm];exact#[U,F]
  ·rw[aN (λe=>?_)]
   ·exact(A b L).1
   ·have q:∃o,s.heap.get? b=y' o:=by
     simp only[Xg,Xh,aan]at L;rcases L with rfl|rfl|rfl|rfl|rfl
     ·exact#[_,s1]
     ·exact#[_,p]
     ·exact#[_,g]
     ·obtain⟨o,e,_⟩:=s4.obj;exact#[o,e]
     ·obtain⟨o,e,_⟩:=s5.obj;exact#[o,e]
    obtain⟨o,q⟩:=q;exact lt q e
 done:=by
  intro X hP hw hK J i M s O H E I A st t;subst hP hw hK;obtain⟨xs,ys,k8,gp,Mi⟩:=t;obtain⟨s1,p,⟨a,b',g⟩,s4,s5⟩:=st;obtain⟨j3,B,p1⟩:=iD I k8;obtain⟨c8,r2,p2⟩:=iD I gp;have ne:∀{l:Addr}{o:HO},H l=y' o->∀b∈[z,TI,r,i1,i2],l≠b:=λ {l o} W b L e=>by subst e;rw[(A l L).1]at W;cases W
  have off:∀{l:Addr}{o:HO},H l=y' o->jT z r i1 i2 l:=λ {l o} W=>#[ne W z<|by simp,ne W r<|by simp,ne W i1<|by simp,ne W i2<|by simp]
  have e1:=B.length;have e2:=r2.length;refine CU (I.ok.hd J) ap (off k8) (off gp) s1 p g s4 s5 p1 p2 (by simp;lia) λh' Z=>#[rfl,?_]
  have M9:∀b u,H b=y' u->b∉[z,TI,r,i1,i2]:=λb u e L=>by rw[(A b L).1]at e;cases e
  have MR:∀b o,b∉[z,TI,r,i1,i2]->s.heap.get? b=y' o->h'.get? b=y' o:=λb o L e=>by simp only[Xg,Xh,aan,not_or]at L;exact Z b o L.1 L.2.2.1 L.2.2.2.1 L.2.2.2.2 e
  refine I.step (λb L=>#[(A b L).2.2.2.1,(A b L).2.1,(A b L).2.2.2.2.1,(A b L).2.2.2.2.2]) (λb o _ _ L e _=>MR b o L e) (λb o _ _ L e _=>#[o.slots,MR b o L e])
   (λb o L e n=>n) (λb o L e=>#[o,MR b o L e]) (λb zs e=>e) (λb o u e=>e) (λb ps e=>#[#[],by rw[e];simp]) (λm hm=>?_) (λb u e=>?_) I.bare
  ·obtain⟨o,iO,Q,j,rr⟩:=hm;exact#[o,iO,Q,MR _ o (λL=>(A _ L).2.1 rfl) j,rr]
  ·refine(I.hok b u e).qX (λc v J q=>MR c v ?_ q) (λc q=>q) λc zs q=>q
   rcases J with rfl|J
   ·exact M9 c u e
   ·exact M9 c _ J
 self:=λ_ _ _ _ _ st h=>wpAny_pyIter_zip st.1 h
def MD(g:TA):TI:=λO H R=>g O H λU P=>∃b1 b2 M m xs k,U=[.ref M,.ref m]/\P M=y' (uv b1 xs)/\P m=y' (uv b2 k)/\R (P6 b1 b2 M m) P
theorem EJ{X:Cx}{es:List Expr}{k:Nat}{tp:Pos}{a b:Expr}{g:TA}{p pos:Pos}(t:Gl X "zip")(E:X.mg "zip"=B')(m:PA X [a,b] g)(l:starEach [a,b] X.env=[(J',eval a X.env),(J',eval b X.env)]:=by rfl)(J:starEach [b] X.env=[(J',eval b X.env)]:=by rfl):
  PI X (.Tuple es k tp) (.Call (.Name "zip" p) [a,b] [] pos) (MD g):=by
 intro M s O H R I h;refine Call_ (j4 I t E boot_zip (ZZ (b9 (m pos M s O H _ I h) λc s1#[U,P,F,B,S]=>?_) (by rw[l,J]) (by rw[J];rfl)));obtain⟨b1,b2,l1,l2,xs,ys,e,e1,e2,q⟩:=S;subst e;obtain⟨u,v,rfl,w,rv⟩:=B.two;cases w;cases rv;obtain⟨n,_,o⟩:=iD F e1;obtain⟨K,_,p2⟩:=iD F e2;refine yc o p2 λy g1 W i z j Z=>?_
 refine wpAny_pyIter_zip g1 ?_;have Y:=F.kept (t':=s1.toks) Z;refine#[s1.heap.objs.size+4,[s1.heap.objs.size+4,s1.heap.objs.size+2,s1.heap.objs.size+3,s1.heap.objs.size,s1.heap.objs.size+1],_,_,P,rfl,Y,zj #[?_,?_,?_,?_,?_,?_,?_,?_,?_,?_],#[g1,W,#[_,_,i],z,j],λb L=>?_,q]
 iterate 10 (first|(apply Xz;lia)|(apply ZS;lia))
 have A:s1.heap.objs.size<=b:=by simp only[Xg,Xh,aan]at L;rcases L with h|h|h|h|h<;>(rw[h];first|exact Nat.le_add_right _ _|exact W9 _)
 exact F.qo A (F.hok.fresh A)
end Mx
end
section
namespace Mx
open PySem PySem.Spec PySem.W PyProof.Rows L2 PySem.SeqAt
def O6(x:Str):It:=#[λi _=>i<x.cps.size,λi H v j=>j=H/\∃c,x.cps[i]?=y' c/\v= .str ⟨#[c]⟩,λi _=>x.cps.size<=i]
theorem pK{K:PySem.W.Frag}(it)(x)(t)(a:Bool):Turn P w K tg (O6 x) [it] it (λi h=>h.IsStrIter it (if a then "str_ascii_iterator" else "str_iterator") x t i) where
 mem:=XC.mpr rfl
 obj:=λi h st b L=>by cases XC.mp L;obtain⟨o,Z,Y,h3⟩:=st;exact#[o,Z,λv z=>by rw[h3]at z;cases z]
 keep:=λi h y st k=>let #[o,j,r]:=st;#[o,k it Xa _ j,r]
 item:=by
  intro X l B hK J i M s O H E I A st hg;subst l B hK;obtain⟨q,f1,Q,m,f4,S⟩:=A it Xa;have W:Walks X.prog X.w X.A it [it] [it] x.cps.size (SignAt x) (λi h=>h.IsStrIter it (if a then "str_ascii_iterator" else "str_iterator") x t i):=by
   cases a
   ·exact Walks.strWide (I.ok.hd J) it x t
   ·exact Walks.strAscii (I.ok.hd J) it x t
  refine W.item i s _ _ hg st λv y tk hv aq kk=>?_
  obtain⟨c,u,Z,rfl⟩:=hv;have F:Inv X M O H {s with heap:=y,toks:=tk}:=I.turned (λb o L e=>kk b o (λz=>L<|XC.mp z) e) q f1 m f4 S;obtain⟨o,g1,g2,g3⟩:=id aq;exact#[_,rfl,sv g1 g2 g3 (by cases a<;>decide) #[.str ⟨#[c]⟩,H,F,#[u,rfl],#[rfl,c,Z,rfl],aq,λb L=>(A b L).1]]
 done:=by
  intro X l B hK J i M s O H E I A st hg;subst l B hK;obtain⟨q,f1,Q,m,f4,S⟩:=A it Xa;have hi:=Array.getElem?_eq_none hg;cases a
  ·exact wpAny_pyNext_wide_end (I.ok.hd J) st hi λy n=>#[rfl,I.turned n q f1 m f4 S]
  ·exact wpAny_pyNext_ascii_end (I.ok.hd J) st hi λy n=>#[rfl,I.turned n q f1 m f4 S]
 self:=λ_ _ _ _ _ st h=>by
  cases a
  ·exact wpAny_pyIter_striter_wide st h
  ·exact wpAny_pyIter_striter_ascii st h
theorem BV{O:L2.St}(I:Inv X K' O H s)(q:R (O6 x) H):
  wpAny (model X.prog X.w) X.A (pyIter<|.str x t) (Qb X K' O tg R) E s:=by
 cases m:x.cps.all (· < 128)
 ·refine wpAny_pyIter_wide m #[_,[s.heap.objs.size],_,_,H,rfl,I.kept λb o e=>W1 _ e,pK s.heap.objs.size x t J',#[_,Xb _ rfl,rfl,rfl],λb L=>?_,q];cases XC.mp L;exact I.qo (W9 _)<|I.hok.fresh<|W9 _
 ·refine wpAny_pyIter_ascii m #[_,[s.heap.objs.size],_,_,H,rfl,I.kept λb o e=>W1 _ e,pK s.heap.objs.size x t G',#[_,Xb _ rfl,rfl,rfl],λb L=>?_,q];cases XC.mp L;exact I.qo (W9 _)<|I.hok.fresh<|W9 _
end Mx
end
section
namespace MxTim
open PySem PySem.W PyProof.Rows
def Ge:Bool->Keyed->Array Keyed->Nat->Nat->Nat->StateT SortSt Sem (Option Nat):=sortPriv% PySem.Builtin.gallop
theorem HQ(j6)(k)(xs)(b m h):Ge j6 k xs b m h=(do
 let past (i:Nat):StateT SortSt Sem (Option Bool):=do
  let y<-elem' xs (b+i)
  if j6 then lt' y k else return (<-lt' k y).map (!·)
 let mut la:=0
 let mut st:=1
 let mut u:=0
 let mut v:=0
 let y' c0<-past h|return B'
 if c0 then
  let mx:=m-h
  for _ in [0:m] do
   if st>=mx then break
   let y' c1<-past (h+st)|return B'
   if !c1 then break
   la:=st
   st:=2*st+1
  u:=h+la+1
  v:=h+min st mx
 else
  let mx:=h+1
  for _ in [0:m] do
   if st>=mx then break
   let y' c1<-past (h-st)|return B'
   if c1 then break
   la:=st
   st:=2*st+1
  u:=h+1-min st mx
  v:=h-la
 for _ in [0:m] do
  if u>=v then break
  let mm:=u+(v-u)/2
  let y' c2<-past mm|return B'
  if c2 then u:=mm+1 else v:=mm
 return y' v):=rfl
section
variable{prog:Program}{w:World}{A:Around}{E:Value->Shared->Prop}{κ:SortKind}{s:Shared}{O:KeyOrd}{ky:Keyed->O.α}{Mem:Keyed->Prop}
def Tells(prog:Program)(w:World)(A:Around)(κ:SortKind)(s:Shared)(O:KeyOrd)(ky:Keyed->O.α)(a:Keyed->Prop):Prop:=
 ∀x y,a x->a y->∀C:Bool->Shared->Prop,C (O.blt (ky x)<|ky y) s->wpAny (model prog w) A (keyLt' κ x.1 y.1) C (λ_ _=>False) s
theorem sX(T:Tells prog w A κ s O ky Mem)(U:Mem x)(F:Mem y){st:SortSt}(P:kindOf st=κ)(h:Q (y'<|O.blt (ky x)<|ky y) st s):kasC (model prog w) A E (lt' x y) Q st s:=by rw[lt'_eq];refine W8<|aah ?_;rw[P];refine W8<|aai<|wpAny_attempt<|aav (T x y U F (λc S=>Q (y' c) st S) h) (λc S J=>?_) λ_ _ n=>n.elim;exact Xc J
theorem aS(U:xs[i]?=y' x){st:SortSt}(h:Q x st s):kasC (model prog w) A E (elem' xs i) Q st s:=by rw[elem'_eq,U];exact Xc h
theorem dQ{l:List Nat}{K:β}{f:Nat->β->StateT SortSt Sem (ForInStep β)}{Q:β->SortSt->Shared->Prop}(h:Nat->β->SortSt->Prop)(h0:h 0 K dJ)
  (g:∀j b st x,j<l.length->h j b st->kasC (model prog w) A E (f x b) (λr H S=>S=s/\match r with|.done i=>Q i H s|.yield i=>h (j+1) i H) st s)
  (k:∀b st,h l.length b st->Q b st s):kasC (model prog w) A E (forIn l K f) Q dJ s:=by
 have go:∀(u:List Nat)(j:Nat)(b:β)(st:SortSt),j+u.length=l.length->h j b st->kasC (model prog w) A E (forIn u b f) Q st s:=by
  intro u
  induction u with
  |nil=>intro j b st F o;subst F;exact kasC_nil<|k b st o
  |cons x u O=>
   intro j b st F o;simp only[Xm]at F;refine kasC_cons<|aav (g j b st x ⋯ o) (λr S y=>?_) λ_ _ e=>e;obtain⟨r,H⟩:=r;obtain⟨rfl,y⟩:=y;cases r with
   |done i=>exact y
   |yield i=>exact O (j+1) i H ⋯ y
 exact go l 0 K dJ ⋯ h0
theorem bZ{m:StateT SortSt Sem α}{Q z:α->SortSt->Shared->Prop}{st:SortSt}(h:kasC (model prog w) A E m Q st s)(K:∀a H S,Q a H S->z a H S):kasC (model prog w) A E m z st s:=by exact aav h (λr S y=>K _ _ _ y) λ_ _ e=>e
def iG(O:KeyOrd)(ky:Keyed->O.α)(j:Bool)(k:Keyed)(g:Nat->Keyed)(i:Nat):Bool:=if j=G' then O.blt (ky<|g i) (ky k) else !O.blt (ky k) (ky<|g i)
theorem Am{past:Nat->StateT SortSt Sem (Option Bool)}{bb:Nat->Bool}{st:SortSt}(hp:∀(i:Nat){R:Option Bool->SortSt->Shared->Prop},i<m->R (y' (bb i)) st s->kasC (model prog w) A E (past i) R st s)(mono:∀i j,i<=j->j<m->bb j=G'->bb i=G')(pq:∀i j,i<=j->j<m->bb i=J'->bb j=J')(hv:v<=m)(KU:u<=v)(oC:∀i,i<u->bb i=G')(zB:∀i,v<=i->i<m->bb i=J')
   (q:∀v,v<=m->(∀i,i<v->bb i=G')->(∀i,v<=i->i<m->bb i=J')->Q (y' v) st s):kasC (model prog w) A E (do
   let mut u:=u
   let mut v:=v
   for _ in [0:m] do
    if u>=v then break
    let mm:=u+(v-u)/2
    let y' c2<-past mm|return B'
    if c2 then u:=mm+1 else v:=mm
   return y' v) Q st s:=by
 refine W8 (aak (dQ (λj r aq=>st=aq/\∃u v,r=(B',u,v)/\v<=m/\u<=v/\v-u+j<=m/\(∀i,i<u->bb i=G')/\(∀i,v<=i->i<m->bb i=J')) #[rfl,_,_,rfl,⋯,⋯,⋯,oC,zB] (λj r aq x hj hI=>?_) (λr aq hI=>?_)))
 ·obtain⟨rfl,u,v,rfl,hv,KU,Tx,h1,h2⟩:=hI;dsimp only;by_cases c:u>=v
  ·rw[aaf c];have e:u=v:=⋯
   subst e;exact Xc #[rfl,Xc (q u hv h1 h2)]
  ·rw[aae c];refine W8 (hp _ ⋯ ?_);dsimp only;cases cb:bb (u+(v-u)/2) with
   |true=>rw[aaf rfl];exact Xc #[rfl,rfl,_,_,rfl,hv,⋯,⋯,λi hi=>mono i _ ⋯ ⋯ cb,h2]
   |false=>rw[aae (by simp)];exact Xc #[rfl,rfl,_,_,rfl,⋯,⋯,⋯,h1,λi hi uY=>pq _ i hi uY cb]
 ·obtain⟨rfl,u,v,rfl,hv,KU,Tx,h1,h2⟩:=hI;have e:u=v:=by
   rw[Y4]at Tx
   lia
  subst e;exact Xc (q u hv h1 h2)
theorem jY(T:Tells prog w A κ s O ky Mem)(g)(hg:∀i,i<m->xs[b+i]?=y' (g i))(hm:∀i,i<m->Mem (g i))(hk:Mem k)(hh:h<m)
  (mono:∀i j,i<=j->j<m->iG O ky j6 k g j=G'->iG O ky j6 k g i=G') {st:SortSt} (hs:kindOf st=κ) 
  (q:∀v,v<=m->(∀i,i<v->iG O ky j6 k g i=G')->(∀i,v<=i->i<m->iG O ky j6 k g i=J')->Q (y' v) st s):kasC (model prog w) A E (Ge j6 k xs b m h) Q st s:=by
 have past:∀(i:Nat){R:Option Bool->SortSt->Shared->Prop},i<m->R (y' (iG O ky j6 k g i)) st s->kasC (model prog w) A E (do
   let y<-elem' xs (b+i)
   if j6=G' then lt' y k else do
    let r<-lt' k y
    pure (r.map (!·))) R st s:=λi R hi hR=>by
  refine W8 (aS (hg i hi) ?_);unfold iG at hR;cases j6 with
  |true=>exact sX T (hm i hi) hk hs hR
  |false=>exact W8 (sX T hk (hm i hi) hs (Xc hR))
 have pq:∀i j,i<=j->j<m->iG O ky j6 k g i=J'->iG O ky j6 k g j=J':=λi j gk hj hi=>by
  cases c:iG O ky j6 k g j with
  |false=>rfl
  |true=>rw[mono i j gk hj c]at hi;cases hi
 rw[HQ];refine W8 (past h hh ?_);dsimp only;cases c0:iG O ky j6 k g h with
 |true=>
  rw[aaf rfl];refine W8 (bZ (Q:=λr aq s'=>st=aq/\s=s'/\∃la sp,r=(B',la,sp)/\h+la<m/\la<sp/\iG O ky j6 k g (h+la)=G'/\∀i,h+min sp (m-h)<=i->i<m->iG O ky j6 k g i=J') (aak (dQ (λj r aq=>st=aq/\∃la sp,r=(B',la,sp)/\h+la<m/\la<sp/\j+1<=sp/\iG O ky j6 k g (h+la)=G') #[rfl,0,1,rfl,⋯,⋯,⋯,c0] (λj r aq x hj hI=>?_) (λr aq hI=>?_))) (λr aq s' hI=>?_))
  ·obtain⟨rfl,la,sp,rfl,yA,rm,Mj,hb⟩:=hI;dsimp only;by_cases c:sp>=m-h
   ·rw[aaf c];exact Xc #[rfl,rfl,rfl,la,sp,rfl,yA,rm,hb,λi hi uY=>⋯]
   ·rw[aae c];refine W8 (past _ ⋯ ?_);dsimp only;cases cb:iG O ky j6 k g (h+sp) with
    |true=>rw[aae (by simp)];exact Xc #[rfl,rfl,_,_,rfl,⋯,⋯,⋯,cb]
    |false=>rw[aaf (by simp)];exact Xc #[rfl,rfl,rfl,la,sp,rfl,yA,rm,hb,λi hi uY=>pq (h+sp) i ⋯ uY cb]
  ·obtain⟨rfl,la,sp,rfl,yA,rm,Mj,hb⟩:=hI;rw[Y4]at Mj;exact#[rfl,rfl,la,sp,rfl,yA,rm,hb,λi hi uY=>⋯]
  obtain⟨rfl,rfl,la,sp,rfl,yA,rm,hb,zB⟩:=hI;have oC:∀i,i<h+la+1->iG O ky j6 k g i=G':=λi hi=>mono i _ ⋯ yA hb
  exact Am past mono pq ⋯ ⋯ oC zB q
 |false=>
  rw[aae (by simp)];refine W8 (bZ (Q:=λr aq s'=>st=aq/\s=s'/\∃la sp,r=(B',la,sp)/\la<=h/\la<sp/\iG O ky j6 k g (h-la)=J'/\∀i,i<h+1-min sp (h+1)->iG O ky j6 k g i=G') (aak (dQ (λj r aq=>st=aq/\∃la sp,r=(B',la,sp)/\la<=h/\la<sp/\j+1<=sp/\iG O ky j6 k g (h-la)=J') #[rfl,0,1,rfl,⋯,⋯,⋯,c0] (λj r aq x hj hI=>?_) (λr aq hI=>?_))) (λr aq s' hI=>?_))
  ·obtain⟨rfl,la,sp,rfl,yA,rm,Mj,hb⟩:=hI;by_cases c:sp>=h+1
   ·rw[aaf c];exact Xc #[rfl,rfl,rfl,la,sp,rfl,yA,rm,hb,λi hi=>⋯]
   ·rw[aae c];refine W8 (past _ ⋯ ?_);dsimp only;cases cb:iG O ky j6 k g (h-sp) with
    |true=>rw[aaf rfl];exact Xc #[rfl,rfl,rfl,la,sp,rfl,yA,rm,hb,λi hi=>mono i (h-sp) ⋯ ⋯ cb]
    |false=>rw[aae (by simp)];exact Xc #[rfl,rfl,_,_,rfl,⋯,⋯,⋯,cb]
  ·obtain⟨rfl,la,sp,rfl,yA,rm,Mj,hb⟩:=hI;rw[Y4]at Mj;exact#[rfl,rfl,la,sp,rfl,yA,rm,hb,λi hi=>⋯]
  obtain⟨rfl,rfl,la,sp,rfl,yA,rm,hb,oC⟩:=hI;have zB:∀i,h-la<=i->i<m->iG O ky j6 k g i=J':=λi hi uY=>pq (h-la) i ⋯ uY hb
  exact Am past mono pq ⋯ ⋯ oC zB q
end
section
variable{O:KeyOrd}{ky:Keyed->O.α}
def le(O:KeyOrd)(ky:Keyed->O.α)(x y:Keyed):Prop:=O.kle (ky x)<|ky y
def jc(O:KeyOrd)(ky:Keyed->O.α)(l:List Keyed):Prop:=l.Pairwise<|le O ky
structure MI(O:KeyOrd)(ky:Keyed->O.α)(la lb out:List Keyed)(i j:Nat):Prop where
 p:out.Perm (la.take i++lb.take j)
 s:jc O ky out
 a:∀x∈out,∀y∈la.drop i,le O ky x y
 b:∀x∈out,∀y∈lb.drop j,le O ky x y
theorem d4{l:List Keyed}:l.drop i=(l.drop i).take k++l.drop (i+k):=by rw[<-List.drop_drop,Zy]
theorem i5{l:List Keyed}:l.take (i+k)=l.take i++(l.drop i).take k:=by rw[List.take_add]
theorem MI.rJ(h:MI O ky la lb out i j)(sa:jc O ky la)(P:∀x∈(la.drop i).take k,∀y∈lb.drop j,le O ky x y):MI O ky la lb (out++(la.drop i).take k) (i+k) j:=by
 have a:jc O ky (la.drop i):=sa.sublist<|YL _ _;rw[d4]at a;obtain⟨s1,p,g⟩:=Zo.mp a;have c:∀y∈(la.drop i).take k,y∈la.drop i:=λy F=>Zk F
 have b:∀y∈la.drop (i+k),y∈la.drop i:=λy F=>by rw[d4];exact XA _ F
 refine#[?_,Zo.mpr #[h.s,s1,λx U y F=>h.a x U y<|c y F],λx U y F=>?_,λx U y F=>?_]
 ·rw[i5];refine(h.p.append_right _).trans ?_;rw[Xi,Xi];exact YB _ Zt
 ·rcases Xq.mp U with U|U
  ·exact h.a x U y<|b y F
  ·exact g x U y F
 ·rcases Xq.mp U with U|U
  ·exact h.b x U y F
  ·exact P x U y F
theorem MI.rK(h:MI O ky la lb out i j)(sb:jc O ky lb)(P:∀x∈(lb.drop j).take k,∀y∈la.drop i,le O ky x y):MI O ky la lb (out++(lb.drop j).take k) i (j+k):=by
 have a:jc O ky (lb.drop j):=sb.sublist<|YL _ _;rw[d4]at a;obtain⟨s1,p,g⟩:=Zo.mp a;have c:∀y∈(lb.drop j).take k,y∈lb.drop j:=λy F=>Zk F
 have b:∀y∈lb.drop (j+k),y∈lb.drop j:=λy F=>by rw[d4];exact XA _ F
 refine#[?_,Zo.mpr #[h.s,s1,λx U y F=>h.b x U y<|c y F],λx U y F=>?_,λx U y F=>?_]
 ·rw[i5];refine(h.p.append_right _).trans ?_;rw[Xi]
 ·rcases Xq.mp U with U|U
  ·exact h.a x U y F
  ·exact P x U y F
 ·rcases Xq.mp U with U|U
  ·exact h.b x U y<|b y F
  ·exact g x U y F
def um(O:KeyOrd)(ky:Keyed->O.α)(la lb a:List Keyed):Prop:=a.Perm (la++lb)/\jc O ky a
theorem MI.we(h:MI O ky la lb out i j)(sa:jc O ky la)(F:lb.length<=j):um O ky la lb (out++la.drop i++lb.drop j):=by have e:=YK F;have e2:=ZA F;rw[e,XM];refine#[?_,Zo.mpr #[h.s,sa.sublist<|YL _ _,h.a]];refine(h.p.append_right _).trans ?_;rw[e2,Xi];refine(YB _ Zt).trans ?_;rw[<-Xi,Zy]
theorem MI.LA(h:MI O ky la lb out i j)(sb:jc O ky lb)(hi:la.length<=i):um O ky la lb (out++la.drop i++lb.drop j):=by have e:=YK hi;have e2:=ZA hi;rw[e,XM];refine#[?_,Zo.mpr #[h.s,sb.sublist<|YL _ _,h.b]];refine(h.p.append_right _).trans ?_;rw[e2,Xi,Zy]
theorem MI.wM(h:MI O ky la lb out i j)(sa:jc O ky la)(sb:jc O ky lb)(W:∀x∈lb.drop j,∀y∈la.drop i,le O ky x y):um O ky la lb (out++lb.drop j++la.drop i):=by
 refine#[?_,Zo.mpr #[Zo.mpr #[h.s,sb.sublist<|YL _ _,h.b],sa.sublist<|YL _ _,λx U y F=>?_]]
 ·refine((h.p.append_right _).append_right _).trans ?_;rw[Xi (la.take i),Zy];refine(Zt).trans ?_;rw[<-Xi];refine(List.Perm.append_right _ Zt).trans ?_;rw[Zy]
 ·rcases Xq.mp U with U|U
  ·exact h.a x U y F
  ·exact W x U y F
theorem MI.start:MI O ky la lb [] 0 0:=#[by simp,List.Pairwise.nil,λx U=>absurd U<|by simp,λx U=>absurd U<|by simp]
end
def IU:Array Keyed->Array Keyed->StateT SortSt Sem (Array Keyed):=sortPriv% PySem.Builtin.mergeLo
def setG:Nat->StateT SortSt Sem Unit:=sortPriv% PySem.Builtin.setMinGallop
abbrev GS:=Option (Array Keyed)×Array Keyed×Nat×Nat×Nat×Nat×Nat
abbrev SS:=Option (Array Keyed)×Array Keyed×Nat×Nat×Nat×Nat
abbrev OS:=Option (Array Keyed)×Array Keyed×Nat×Nat×Nat
def C7(x y o:Array Keyed)(i j:Nat):Array Keyed:=o++x.extract i x.size++y.extract j y.size
def y8(x y o:Array Keyed)(i j:Nat):Array Keyed:=o++y.extract j y.size++x.extract i x.size
def QI(x y o:Array Keyed)(i j mg ca cb:Nat):StateT SortSt Sem (ForInStep GS):=do
 let e<-elem' x i
 if (i+1+1==x.size)=G' then pure (.done (y'<|y8 x y (o.push e) (i+1) j,o.push e,i+1,j,mg,ca,cb))
 else if (decide (ca<7)&&decide (cb<7))=G' then pure (.done (B',o.push e,i+1,j,mg,ca,cb))
 else pure (.yield (B',o.push e,i+1,j,mg,ca,cb))
def QH(x y o:Array Keyed)(i j mg ca uq:Nat):StateT SortSt Sem (ForInStep GS):=do
 let e<-elem' y j
 if (j+1==y.size)=G' then pure (.done (y'<|C7 x y (o.push e) i<|j+1,o.push e,i,j+1,mg,ca,uq))
 else do
  let f<-elem' x i
  let r<-Ge G' f y (j+1) (y.size-(j+1)) 0
  match r with
  |some k=>
   if k>0 then
    if (j+1+k==y.size)=G' then pure (.done (y'<|C7 x y (o.push e++y.extract (j+1) (j+1+k)) i<|j+1+k,o.push e++y.extract (j+1) (j+1+k),i,j+1+k,mg,ca,k))
    else QI x y (o.push e++y.extract (j+1) (j+1+k)) i (j+1+k) mg ca k
   else QI x y (o.push e) i (j+1) mg ca k
  |_=>pure<|.done (y'<|C7 x y (o.push e) i<|j+1,o.push e,i,j+1,mg,ca,uq)
def QG(x y o:Array Keyed)(i j mg Qr uq:Nat):StateT SortSt Sem (ForInStep GS):=do
 setG mg
 let e<-elem' y j
 let r<-Ge J' e x i (x.size-i) 0
 match r with
 |some k=>
  if k>0 then
   if (i+k+1==x.size)=G' then pure (.done (y'<|y8 x y (o++x.extract i (i+k)) (i+k) j,o++x.extract i (i+k),i+k,j,mg,k,uq))
   else if (i+k==x.size)=G' then pure (.done (y'<|C7 x y (o++x.extract i (i+k)) (i+k) j,o++x.extract i (i+k),i+k,j,mg,k,uq))
   else QH x y (o++x.extract i (i+k)) (i+k) j mg k uq
  else QH x y o i j mg k uq
 |_=>pure<|.done (y'<|C7 x y o i j,o,i,j,mg,Qr,uq)
def KY(x y:Array Keyed)(mg:Nat)(r:SS):StateT SortSt Sem (ForInStep SS):=do
 let e<-elem' y r.2.2.2.1
 let f<-elem' x r.2.2.1
 let c<-lt' e f
 match c with
 |some yw=>
  if yw=G' then do
   let e<-elem' y r.2.2.2.1
   if (r.2.2.2.1+1==y.size)=G' then pure (.done (y'<|C7 x y (r.2.1.push e) r.2.2.1<|r.2.2.2.1+1,r.2.1.push e,r.2.2.1,r.2.2.2.1+1,0,r.2.2.2.2.2+1))
   else if r.2.2.2.2.2+1>=mg then pure (.done (B',r.2.1.push e,r.2.2.1,r.2.2.2.1+1,0,r.2.2.2.2.2+1))
   else pure (.yield (B',r.2.1.push e,r.2.2.1,r.2.2.2.1+1,0,r.2.2.2.2.2+1))
  else do
   let f<-elem' x r.2.2.1
   if (r.2.2.1+1+1==x.size)=G' then pure (.done (y'<|y8 x y (r.2.1.push f) (r.2.2.1+1) r.2.2.2.1,r.2.1.push f,r.2.2.1+1,r.2.2.2.1,r.2.2.2.2.1+1,0))
   else if r.2.2.2.2.1+1>=mg then pure (.done (B',r.2.1.push f,r.2.2.1+1,r.2.2.2.1,r.2.2.2.2.1+1,0))
   else pure (.yield (B',r.2.1.push f,r.2.2.1+1,r.2.2.2.1,r.2.2.2.2.1+1,0))
 |_=>pure<|.done (y'<|C7 x y r.2.1 r.2.2.1 r.2.2.2.1,r.2.1,r.2.2.1,r.2.2.2.1,r.2.2.2.2.1,r.2.2.2.2.2)
def Nl(x y:Array Keyed)(r:OS):StateT SortSt Sem (ForInStep OS):=do
 let a<-forIn [:x.size+y.size] ((B',r.2.1,r.2.2.1,r.2.2.2.1,0,0):SS) λ_ a=>KY x y r.2.2.2.2 a
 match a.1 with
 |some v=>pure<|.done (y' v,a.2.1,a.2.2.1,a.2.2.2.1,r.2.2.2.2)
 |none=>do
  rule "list.sort.gallop"
  let b<-forIn [:x.size+y.size] ((B',a.2.1,a.2.2.1,a.2.2.2.1,r.2.2.2.2+1,a.2.2.2.2.1,a.2.2.2.2.2):GS) λ_ b=>
   if b.2.2.2.2.1>1 then QG x y b.2.1 b.2.2.1 b.2.2.2.1 (b.2.2.2.2.1-1) b.2.2.2.2.2.1 b.2.2.2.2.2.2 else QG x y b.2.1 b.2.2.1 b.2.2.2.1 b.2.2.2.2.1 b.2.2.2.2.2.1 b.2.2.2.2.2.2
  match b.1 with
  |some v=>pure<|.done (y' v,b.2.1,b.2.2.1,b.2.2.2.1,b.2.2.2.2.1)
  |none=>do
   setG (b.2.2.2.2.1+1)
   pure (.yield (B',b.2.1,b.2.2.1,b.2.2.2.1,b.2.2.2.2.1+1))
def V2(x y:Array Keyed):StateT SortSt Sem (Array Keyed):=do
 rule "list.sort.merge-lo"
 let e<-elem' y 0
 if (1==y.size)=G' then pure (C7 x y #[e] 0 1)
 else if (0+1==x.size)=G' then pure (y8 x y #[e] 0 1)
 else do
  let st<-get
  let r<-forIn [:x.size+y.size] ((B',#[e],0,1,gallopOf st):OS) λ_ r=>Nl x y r
  match r.1 with
  |some a=>pure a
  |none=>unsupported "internal:list.sort.merge-bound"
theorem Em(x y):IU x y=V2 x y:=by kernel_rfl
theorem kY(x:Array Keyed)(i):(x.extract i x.size).toList=x.toList.drop i:=by rw[XZ];exact ZA (by simp)
theorem rZ(x:Array Keyed)(i k):(x.extract i<|i+k).toList=(x.toList.drop i).take k:=by rw[XZ];show (x.toList.drop i).take (i+k-i)=_;rw[Nat.add_sub_cancel_left]
theorem gT(x y o)(i j):(C7 x y o i j).toList=o.toList++x.toList.drop i++y.toList.drop j:=by unfold C7;rw[XY,XY,kY,kY]
theorem iA(x y o)(i j):(y8 x y o i j).toList=o.toList++y.toList.drop j++x.toList.drop i:=by unfold y8;rw[XY,XY,kY,kY]
theorem aK(h:i<x.size):x[i]?=y' (kas_item x i):=by unfold kas_item;simp[h]
theorem take_one(h:i<x.size):(x.toList.drop i).take 1=[kas_item x i]:=by have e:x.toList.drop i=x.toList[i]'(by simpa using h)::x.toList.drop (i+1):=YJ (by simpa using h);rw[e];unfold kas_item;simp[h]
theorem iy{x o:Array Keyed}(h:i<x.size):(o.push<|kas_item x i).toList=o.toList++(x.toList.drop i).take 1:=by rw[take_one h];simp
section
variable{O:KeyOrd}{ky:Keyed->O.α}{Mem:Keyed->Prop}
theorem cT(l:jc O ky x.toList)(K:i<=j)(F:j<x.size):le O ky (kas_item x i) (kas_item x j):=by
 have e:∀k,(h:k<x.size)->kas_item x k=x.toList[k]'(by simpa using h):=λk h=>by unfold kas_item;simp[h]
 rw[e i (by omega),e j F];by_cases c:i=j
 ·subst c;exact Yy _
 ·exact Zr.mp l i j (by simpa using (show i<x.size by omega)) (by simpa using F) (by omega)
theorem cP(h:e∈x.toList.drop i):∃k,i<=k/\k<x.size/\e=kas_item x k:=by
 obtain⟨k,P,rfl⟩:=YZ h;have a:i+k<x.size:=by simp at P;lia
 refine#[i+k,⋯,a,?_];rw[List.getElem_drop];unfold kas_item;simp[a]
theorem bg(h:e∈(x.toList.drop i).take n):∃k,i<=k/\k<i+n/\k<x.size/\e=kas_item x k:=by
 obtain⟨k,P,rfl⟩:=YZ h;rw[Y8,Y1]at P;have a:i+k<x.size:=by simp at P;lia
 refine#[i+k,⋯,⋯,a,?_];rw[List.getElem_take,List.getElem_drop];unfold kas_item;simp[a]
structure MP(O:KeyOrd)(ky:Keyed->O.α)(Mem:Keyed->Prop)(x y:Array Keyed):Prop where
 sa:jc O ky x.toList
 sb:jc O ky y.toList
 ma:∀i,i<x.size->Mem (kas_item x i)
 mb:∀i,i<y.size->Mem (kas_item y i)
 pa:1<=x.size
 pb:1<=y.size
 first:O.blt (ky<|kas_item y 0) (ky<|kas_item x 0)=G'
 last:∀j,j<y.size->O.blt (ky<|kas_item y j) (ky<|kas_item x<|x.size-1)=G'
theorem MP.lst(h:MP O ky Mem x y){i j:Nat}(hi:i+1=x.size):∀e∈y.toList.drop j,∀f∈x.toList.drop i,le O ky e f:=λe K f A=>by
 obtain⟨k,_,k2,rfl⟩:=cP K;obtain⟨l,M,m,rfl⟩:=cP A;have:l=x.size-1:=⋯
 subst this;exact Yx<|h.last k k2
structure Dc(O:KeyOrd)(ky:Keyed->O.α)(x y o:Array Keyed)(i j:Nat):Prop where
 m:MI O ky x.toList y.toList o.toList i j
 i1:i+1<x.size
 j1:j<y.size
def GP(O:KeyOrd)(ky:Keyed->O.α)(x y:Array Keyed)(n:Nat)(v:Option (Array Keyed))(o:Array Keyed)(i j:Nat):Prop:=(∃a,v=y' a/\um O ky x.toList y.toList a.toList)\/(v=B'/\Dc O ky x y o i j/\n<=i+j)
def SI(dJ st:SortSt):Prop:=kindOf st=kindOf dJ/\arrOf st=arrOf dJ/\pendingOf st=pendingOf dJ/\failedOf st=failedOf dJ
theorem SI.refl(st):SI st st:=#[rfl,rfl,rfl,rfl]
theorem SI.trans(h:SI a b)(g:SI b c):SI a c:=#[g.1.trans h.1,g.2.1.trans h.2.1,g.2.2.1.trans h.2.2.1,g.2.2.2.trans h.2.2.2]
variable{prog:Program}{w:World}{A:Around}{E:Value->Shared->Prop}{κ:SortKind}{s:Shared}
theorem lT{st:SortSt}(h:∀H,SI st H->Q () H s):kasC (model prog w) A E (setG g) Q st s:=by
 have e:setG g=modify λt=>SortSt.mk' (kindOf t) (arrOf t) (pendingOf t) g (failedOf t):=by kernel_rfl
 rw[e];exact aaj<|h _ #[rfl,rfl,rfl,rfl]
def zM(O:KeyOrd)(ky:Keyed->O.α)(x y:Array Keyed)(n:Nat):ForInStep GS->Prop
 |.done r=>GP O ky x y n r.1 r.2.1 r.2.2.1 r.2.2.2.1
 |.yield r=>r.1=B'/\GP O ky x y n r.1 r.2.1 r.2.2.1 r.2.2.2.1
theorem A6(M:MP O ky Mem x y)(h:MI O ky x.toList y.toList o.toList i j)(hi:i+1<x.size)(F:j<y.size)(P:∀l,j<=l->l<y.size->le O ky (kas_item x i) (kas_item y l))(I:n<=i+1+j){st:SortSt}
  (q:∀r,zM O ky x y n r->Q r st s):kasC (model prog w) A E (QI x y o i j mg ca cb) Q st s:=by
 refine W8<|aS (aK ⋯) ?_;have m1:=h.rJ (k:=1) M.sa (λe K f hf=>by
  obtain⟨a,a1,a2,a3,rfl⟩:=bg K;obtain⟨b,b1,b2,rfl⟩:=cP hf;have:a=i:=⋯
  subst this;exact P b b1 b2)
 rw[<-iy ⋯]at m1;by_cases c:(i+1+1==x.size)=G'
 ·rw[aaf c];have U:i+1+1=x.size:=by simpa using c
  refine Xc<|q _<|.inl #[_,rfl,?_];rw[iA];exact m1.wM M.sa M.sb<|M.lst U
 ·rw[aae c];have U:¬i+1+1=x.size:=by simpa using c
  have g:GP O ky x y n B' (o.push<|kas_item x i) (i+1) j:=.inr #[rfl,#[m1,⋯,F],⋯];by_cases d:(decide (ca<7)&&decide (cb<7))=G'
  ·rw[aaf d];exact Xc<|q _ g
  ·rw[aae d];exact Xc<|q _ #[rfl,g]
theorem A5(T:Tells prog w A κ s O ky Mem)(M:MP O ky Mem x y)(h:MI O ky x.toList y.toList o.toList i j)(hi:i+1<x.size)(F:j<y.size)(P:∀l,i<=l->l<x.size->le O ky (kas_item y j) (kas_item x l))(I:n<=i+j+1){st:SortSt}(hs:kindOf st=κ)
   (q:∀r,zM O ky x y n r->Q r st s):kasC (model prog w) A E (QH x y o i j mg ca cb) Q st s:=by
 refine W8<|aS (aK F) ?_;have m1:=h.rK (k:=1) M.sb (λe K f hf=>by
  obtain⟨a,a1,a2,a3,rfl⟩:=bg K;obtain⟨b,b1,b2,rfl⟩:=cP hf;have:a=j:=⋯
  subst this;exact P b b1 b2)
 rw[<-iy F]at m1;by_cases c:(j+1==y.size)=G'
 ·rw[aaf c];have U:j+1=y.size:=by simpa using c
  refine Xc<|q _<|.inl #[_,rfl,?_];rw[gT];exact m1.we M.sa (by simp;lia)
 ·rw[aae c];have U:¬j+1=y.size:=by simpa using c
  refine W8<|aS (aK ⋯)<|W8 ?_;refine jY T (λt=>kas_item y<|j+1+t) (λt J=>aK ⋯) (λt J=>M.mb _ ⋯) (M.ma i ⋯) ⋯ (λa b g L B=>?_) hs (λk u cO oh=>?_)
  ·unfold iG at B ⊢;have:=cT M.sb (show j+1+a<=j+1+b by lia) ⋯;exact Yz this B
  ·have lo:∀t,t<k->O.blt (ky<|kas_item y<|j+1+t) (ky<|kas_item x i)=G':=λt J=>by have:=cO t J;unfold iG at this;exact this
   have m:∀l,j+1+k<=l->l<y.size->le O ky (kas_item x i) (kas_item y l):=λl k8 gp=>by have z:=oh (l-(j+1)) ⋯ ⋯;unfold iG at z;have X:O.blt (ky<|kas_item y<|j+1+(l-(j+1))) (ky<|kas_item x i)=J':=z;rw[show j+1+(l-(j+1))=l by lia]at X;exact X
   dsimp only;by_cases k0:k>0
   ·rw[aaf k0];have S:=m1.rK (k:=k) M.sb (λe K f hf=>by
     obtain⟨a,a1,a2,a3,rfl⟩:=bg K;obtain⟨b,b1,b2,rfl⟩:=cP hf;have Z:=lo (a-(j+1)) ⋯;rw[show j+1+(a-(j+1))=a by lia]at Z;exact Xv (Yx Z)<|cT M.sa b1 b2)
    rw[<-rZ,<-XY]at S;by_cases d:(j+1+k==y.size)=G'
    ·rw[aaf d];have p:j+1+k=y.size:=by simpa using d
     refine Xc<|q _<|.inl #[_,rfl,?_];rw[gT];exact S.we M.sa (by simp;lia)
    ·rw[aae d];have p:¬j+1+k=y.size:=by simpa using d
     exact A6 M S hi ⋯ m ⋯ q
   ·rw[aae k0];have:k=0:=⋯
    subst this;exact A6 M m1 hi ⋯ m ⋯ q
theorem A4(T:Tells prog w A κ s O ky Mem)(M:MP O ky Mem x y)(h:Dc O ky x y o i j)(I:n<=i+j){dJ st:SortSt}(hs:kindOf st=κ)(kO:SI dJ st)
   (q:∀r H,SI dJ H->zM O ky x y n r->Q r H s):kasC (model prog w) A E (QG x y o i j mg ca cb) Q st s:=by
 have hi:=h.i1;have F:=h.j1;refine W8<|lT λzd Z=>?_;have Il:=Z.1.trans hs;have P:=λr=>q r zd (kO.trans Z)
 refine W8<|aS (aK F)<|W8 ?_;refine jY T (λt=>kas_item x<|i+t) (λt J=>aK ⋯) (λt J=>M.ma _ ⋯) (M.mb j F) ⋯ (λa b g L B=>?_) Il (λk u cO oh=>?_)
 ·unfold iG at B ⊢;have:=cT M.sa (show i+a<=i+b by lia) ⋯;cases z:O.blt (ky<|kas_item y j) (ky<|kas_item x<|i+a) with
  |false=>rfl
  |true=>have X:=YA z this;have v:=B;rw[X]at v;cases v
 ·have lo:∀t,t<k->le O ky (kas_item x<|i+t) (kas_item y j):=λt J=>by have z:=cO t J;unfold iG at z;have X:=z;show O.blt (ky<|kas_item y j) (ky<|kas_item x<|i+t)=J';simpa using X
  have m:∀l,i+k<=l->l<x.size->le O ky (kas_item y j) (kas_item x l):=λl k8 gp=>by
   have z:=oh (l-i) ⋯ ⋯;unfold iG at z;have X:(!O.blt (ky<|kas_item y j) (ky<|kas_item x<|i+(l-i)))=J':=z;rw[show i+(l-i)=l by lia]at X;have z3:O.blt (ky<|kas_item y j) (ky<|kas_item x l)=G':=by simpa using X
   exact Yx z3
  dsimp only;by_cases k0:k>0
  ·rw[aaf k0];have S:=h.m.rJ (k:=k) M.sa (λe K f hf=>by
    obtain⟨a,a1,a2,a3,rfl⟩:=bg K;obtain⟨b,b1,b2,rfl⟩:=cP hf;have Z:=lo (a-i) ⋯;rw[show i+(a-i)=a by lia]at Z;exact Xv Z<|cT M.sb b1 b2)
   rw[<-rZ,<-XY]at S;by_cases c:(i+k+1==x.size)=G'
   ·rw[aaf c];have U:i+k+1=x.size:=by simpa using c
    refine Xc<|P _<|.inl #[_,rfl,?_];rw[iA];exact S.wM M.sa M.sb<|M.lst U
   ·rw[aae c];have U:¬i+k+1=x.size:=by simpa using c
    by_cases d:(i+k==x.size)=G'
    ·rw[aaf d];have p:i+k=x.size:=by simpa using d
     refine Xc<|P _<|.inl #[_,rfl,?_];rw[gT];exact S.LA M.sb (by simp;lia)
    ·rw[aae d];have p:¬i+k=x.size:=by simpa using d
     exact A5 T M S ⋯ F m ⋯ Il P
  ·rw[aae k0];have:k=0:=⋯
   subst this;exact A5 T M h.m hi F m ⋯ Il P
end
section
variable{O:KeyOrd}{ky:Keyed->O.α}{Mem:Keyed->Prop}
variable{prog:Program}{w:World}{A:Around}{E:Value->Shared->Prop}{κ:SortKind}{s:Shared}
def SStep(O:KeyOrd)(ky:Keyed->O.α)(x y:Array Keyed)(n:Nat):ForInStep SS->Prop
 |.done r=>GP O ky x y n r.1 r.2.1 r.2.2.1 r.2.2.2.1
 |.yield r=>r.1=B'/\GP O ky x y n r.1 r.2.1 r.2.2.1 r.2.2.2.1
theorem GP.none(h:GP O ky x y n v o i j)(M:v=B'):Dc O ky x y o i j/\n<=i+j:=by
 rcases h with ⟨a,e,_⟩|⟨_,h⟩
 ·rw[M]at e;cases e
 ·exact h
theorem J6(T:Tells prog w A κ s O ky Mem)(M:MP O ky Mem x y)(h:Dc O ky x y r.2.1 r.2.2.1 r.2.2.2.1)(I:n<=r.2.2.1+r.2.2.2.1+1){st:SortSt}(l:kindOf st=κ)
   (q:∀r',SStep O ky x y n r'->Q r' st s):kasC (model prog w) A E (KY x y mg r) Q st s:=by
 obtain⟨v,o,i,j,t,U⟩:=r;have hi:i+1<x.size:=h.i1;have F:j<y.size:=h.j1;have hm:MI O ky x.toList y.toList o.toList i j:=h.m;dsimp only at I;unfold KY;dsimp only;refine W8<|aS (aK F)<|W8<|aS (aK ⋯)<|W8<|sX T (M.mb j F) (M.ma i ⋯) l ?_;dsimp only;cases c:O.blt (ky<|kas_item y j) (ky<|kas_item x i) with
 |true=>
  rw[aaf rfl];refine W8<|aS (aK F) ?_;have m1:=hm.rK (k:=1) M.sb (λe K f hf=>by
   obtain⟨a,a1,a2,a3,rfl⟩:=bg K;obtain⟨b,b1,b2,rfl⟩:=cP hf;have:a=j:=⋯
   subst this;exact Xv (Yx c)<|cT M.sa b1 b2)
  rw[<-iy F]at m1;by_cases d:(j+1==y.size)=G'
  ·rw[aaf d];have p:j+1=y.size:=by simpa using d
   refine Xc<|q _<|.inl #[_,rfl,?_];rw[gT];exact m1.we M.sa (by simp;lia)
  ·rw[aae d];have p:¬j+1=y.size:=by simpa using d
   have g:GP O ky x y n B' (o.push<|kas_item y j) i (j+1):=.inr #[rfl,#[m1,hi,⋯],⋯];by_cases e:U+1>=mg
   ·rw[aaf e];exact Xc<|q _ g
   ·rw[aae e];exact Xc<|q _ #[rfl,g]
 |false=>
  rw[aae (by simp)];refine W8<|aS (aK ⋯) ?_;have m1:=hm.rJ (k:=1) M.sa (λe K f hf=>by
   obtain⟨a,a1,a2,a3,rfl⟩:=bg K;obtain⟨b,b1,b2,rfl⟩:=cP hf;have:a=i:=⋯
   subst this;exact Xv (c)<|cT M.sb b1 b2)
  rw[<-iy ⋯]at m1;by_cases d:(i+1+1==x.size)=G'
  ·rw[aaf d];have p:i+1+1=x.size:=by simpa using d
   refine Xc<|q _<|.inl #[_,rfl,?_];rw[iA];exact m1.wM M.sa M.sb<|M.lst p
  ·rw[aae d];have p:¬i+1+1=x.size:=by simpa using d
   have g:GP O ky x y n B' (o.push<|kas_item x i) (i+1) j:=.inr #[rfl,#[m1,⋯,F],⋯];by_cases e:t+1>=mg
   ·rw[aaf e];exact Xc<|q _ g
   ·rw[aae e];exact Xc<|q _ #[rfl,g]
def K1(O:KeyOrd)(ky:Keyed->O.α)(x y:Array Keyed)(n:Nat):ForInStep OS->Prop
 |.done r=>∃a,r.1=y' a/\um O ky x.toList y.toList a.toList
 |.yield r=>r.1=B'/\Dc O ky x y r.2.1 r.2.2.1 r.2.2.2.1/\n<=r.2.2.1+r.2.2.2.1
theorem EC(T:Tells prog w A κ s O ky Mem)(M:MP O ky Mem x y)(h:Dc O ky x y r.2.1 r.2.2.1 r.2.2.2.1)(I:n<=r.2.2.1+r.2.2.2.1){dJ st:SortSt}(hs:kindOf st=κ)(p:SI dJ st)
   (q:∀r' H,SI dJ H->K1 O ky x y (n+1) r'->Q r' H s):kasC (model prog w) A E (Nl x y r) Q st s:=by
 have B:=M.pa;refine W8<|bZ (Q:=λa H S=>st=H/\s=S/\GP O ky x y (n+1) a.1 a.2.1 a.2.2.1 a.2.2.2.1) (aak<|dQ (λJ a H=>st=H/\a.1=B'/\Dc O ky x y a.2.1 a.2.2.1 a.2.2.2.1/\n+J<=a.2.2.1+a.2.2.2.1) #[rfl,rfl,h,by simpa using I] (λJ a H z F o=>?_) λa H o=>?_) λa H S o=>?_
 ·obtain⟨rfl,a0,G8,k⟩:=o;refine J6 T M G8 (n:=n+J+1) ⋯ hs (λr' t=>#[rfl,?_]);cases r' with
  |done b=>
   refine#[rfl,rfl,?_];rcases t with ⟨v,e,m⟩|⟨e,ok,l⟩
   ·exact .inl #[v,e,m]
   ·exact .inr #[e,ok,⋯]
  |yield b=>obtain⟨K,gb⟩:=t;obtain⟨ok,l⟩:=gb.none K;exact#[rfl,K,ok,⋯]
 ·obtain⟨rfl,a0,G8,k⟩:=o;rw[Y4]at k;exact#[rfl,rfl,.inr #[a0,G8,⋯]]
 obtain⟨rfl,rfl,ga⟩:=o;rcases ga with ⟨v,e,m⟩|⟨e,ok,l⟩
 ·rw[e];exact Xc<|q _ _ p #[v,rfl,m]
 ·rw[e];refine W8<|aai<|aaB ?_;refine W8<|bZ (Q:=λb H S=>SI dJ H/\s=S/\GP O ky x y (n+1) b.1 b.2.1 b.2.2.1 b.2.2.2.1) (aak<|dQ (λJ b H=>SI dJ H/\kindOf H=κ/\b.1=B'/\Dc O ky x y b.2.1 b.2.2.1 b.2.2.2.1/\n+1<=b.2.2.1+b.2.2.2.1) #[p,hs,rfl,ok,l] (λJ b H z F o=>?_) λb H o=>?_) λb H S o=>?_
  ·obtain⟨j,g,K,U,L⟩:=o;have Z:∀P,SI dJ P->kindOf P=κ:=λP Y=>(Y.1.trans j.1.symm).trans g
   by_cases c:b.2.2.2.2.1>1
   ·rw[aaf c];refine A4 T M U L g j λr' P Y t=>#[rfl,?_];cases r' with
    |done i=>exact#[Y,rfl,t]
    |yield i=>obtain⟨W,gc⟩:=t;obtain⟨X,u⟩:=gc.none W;exact#[Y,Z P Y,W,X,u]
   ·rw[aae c];refine A4 T M U L g j λr' P Y t=>#[rfl,?_];cases r' with
    |done i=>exact#[Y,rfl,t]
    |yield i=>obtain⟨W,gc⟩:=t;obtain⟨X,u⟩:=gc.none W;exact#[Y,Z P Y,W,X,u]
  ·obtain⟨j,g,K,U,L⟩:=o;exact#[j,rfl,.inr #[K,U,L]]
  obtain⟨j,rfl,gb⟩:=o;rcases gb with ⟨v,e2,m⟩|⟨e2,RL,l2⟩
  ·rw[e2];exact Xc<|q _ _ j #[v,rfl,m]
  ·rw[e2];exact W8<|lT λP Y=>Xc<|q _ _ (j.trans Y) #[rfl,RL,l2]
theorem En(T:Tells prog w A κ s O ky Mem)(M:MP O ky Mem x y){st:SortSt}(l:kindOf st=κ)(q:∀v H,SI st H->um O ky x.toList y.toList v.toList->Q v H s):kasC (model prog w) A E (IU x y) Q st s:=by
 rw[Em];have B:=M.pa;have K:=M.pb;refine W8<|aai<|aaB ?_;refine W8<|aS (aK ⋯) ?_;have m1:=(MI.start).rK (k:=1) M.sb (λe he f hf=>by
  obtain⟨a,a1,a2,a3,rfl⟩:=bg he;obtain⟨b,b1,b2,rfl⟩:=cP hf;have:a=0:=⋯
  subst this;exact Xv (Yx M.first)<|cT M.sa (ZW b) b2)
 have e0:(#[kas_item y 0]:Array Keyed).toList=[]++(y.toList.drop 0).take 1:=by rw[take_one ⋯];rfl
 rw[<-e0,ZV]at m1;by_cases c:(1==y.size)=G'
 ·rw[aaf c];have U:1=y.size:=by simpa using c
  refine Xc<|q _ _ (SI.refl _) ?_;rw[gT];exact m1.we M.sa (by simp;lia)
 ·rw[aae c];have U:¬1=y.size:=by simpa using c
  by_cases d:(0+1==x.size)=G'
  ·rw[aaf d];have p:0+1=x.size:=by simpa using d
   refine Xc<|q _ _ (SI.refl _) ?_;rw[iA];exact m1.wM M.sa M.sb<|M.lst p
  ·rw[aae d];have p:¬0+1=x.size:=by simpa using d
   refine W8<|aah ?_;refine W8<|bZ (Q:=λr H S=>SI st H/\s=S/\∃a,r.1=y' a/\um O ky x.toList y.toList a.toList) (aak<|dQ (λJ r H=>SI st H/\r.1=B'/\Dc O ky x y r.2.1 r.2.2.1 r.2.2.2.1/\J+1<=r.2.2.1+r.2.2.2.1) #[SI.refl _,rfl,#[m1,(show 0+1<x.size by lia),(show 1<y.size by lia)],by simp] (λJ r H z F o=>?_) λr H o=>?_) λr H S o=>?_
   ·obtain⟨j,r0,i,rn⟩:=o;refine EC T M i rn (j.1.trans l) j λr' P Y t=>#[rfl,?_];cases r' with
    |done b=>exact#[Y,rfl,t]
    |yield b=>exact#[Y,t.1,t.2.1,t.2.2]
   ·obtain⟨j,r0,i,rn⟩:=o;rw[Y4]at rn;have Z:=i.i1;have Y:=i.j1
    lia
   obtain⟨j,rfl,a,e,m⟩:=o;rw[e];exact Xc<|q _ _ j m
end
section
variable{O:KeyOrd}{ky:Keyed->O.α}
structure HI(O:KeyOrd)(ky:Keyed->O.α)(la lb R:List Keyed)(i j:Nat):Prop where
 p:R.Perm (la.drop i++lb.drop j)
 s:jc O ky R
 a:∀x∈la.take i,∀y∈R,le O ky x y
 b:∀x∈lb.take j,∀y∈R,le O ky x y
theorem gY{l:List Keyed}(h:k<=i):l.take i=l.take k++(l.drop k).take (i-k):=by have:=i5 (l:=l) (i:=k) (k:=i-k);rw[show k+(i-k)=i by lia]at this;exact this
theorem l9{l:List Keyed}(h:k<=i):l.drop k=(l.drop k).take (i-k)++l.drop i:=by have:=d4 (l:=l) (i:=k) (k:=i-k);rw[show k+(i-k)=i by lia]at this;exact this
theorem HI.rJ(h:HI O ky la lb R i j)(P:k<=i)(sa:jc O ky la)(L:∀e∈(la.drop k).take (i-k),∀y∈lb.take j,le O ky y e):HI O ky la lb ((la.drop k).take (i-k)++R) k j:=by
 have st:jc O ky (la.take i):=sa.sublist<|ZC _ _;rw[gY P]at st;obtain⟨s1,p,g⟩:=Zo.mp st;have m1:∀y∈(la.drop k).take (i-k),y∈la.take i:=λy F=>by rw[gY P];exact XA _ F
 have S:∀y∈la.take k,y∈la.take i:=λy F=>by rw[gY P];exact Ze _ F
 refine#[?_,Zo.mpr #[p,h.s,λx U y F=>h.a x (m1 x U) y F],λx U y F=>?_,λx U y F=>?_]
 ·refine(h.p.append_left _).trans ?_;rw[<-Xi,<-l9 P]
 ·rcases Xq.mp F with F|F
  ·exact g x U y F
  ·exact h.a x (S x U) y F
 ·rcases Xq.mp F with F|F
  ·exact L y F x U
  ·exact h.b x U y F
theorem HI.rK(h:HI O ky la lb R i j)(P:k<=j)(sb:jc O ky lb)(L:∀e∈(lb.drop k).take (j-k),∀y∈la.take i,le O ky y e):HI O ky la lb ((lb.drop k).take (j-k)++R) i k:=by
 have st:jc O ky (lb.take j):=sb.sublist<|ZC _ _;rw[gY P]at st;obtain⟨s1,p,g⟩:=Zo.mp st;have m1:∀y∈(lb.drop k).take (j-k),y∈lb.take j:=λy F=>by rw[gY P];exact XA _ F
 have S:∀y∈lb.take k,y∈lb.take j:=λy F=>by rw[gY P];exact Ze _ F
 refine#[?_,Zo.mpr #[p,h.s,λx U y F=>h.b x (m1 x U) y F],λx U y F=>?_,λx U y F=>?_]
 ·refine(h.p.append_left _).trans ?_;rw[<-Xi];refine(List.Perm.append_right _ Zt).trans ?_;rw[Xi,<-l9 P]
 ·rcases Xq.mp F with F|F
  ·exact L y F x U
  ·exact h.a x U y F
 ·rcases Xq.mp F with F|F
  ·exact g x U y F
  ·exact h.b x (S x U) y F
theorem HI.jX(h:HI O ky la lb R i j)(sa:jc O ky la)(sb:jc O ky lb)(A:∀x∈lb.take j,∀y∈la.take i,le O ky x y):um O ky la lb (lb.take j++la.take i++R):=by
 refine#[?_,?_]
 ·refine(h.p.append_left _).trans ?_;rw[Xi,<-Xi (la.take i),Zy];refine(Zt).trans ?_;rw[Xi];refine YB _<|(Zt).trans ?_;rw[Zy]
 ·refine Zo.mpr #[Zo.mpr #[sb.sublist<|ZC _ _,sa.sublist<|ZC _ _,A],h.s,λx U y F=>?_];rcases Xq.mp U with U|U
  ·exact h.b x U y F
  ·exact h.a x U y F
theorem HI.wc(h:HI O ky la lb R 0 j)(sa:jc O ky la)(sb:jc O ky lb):um O ky la lb (la.take 0++lb.take j++R):=by have:=h.jX sa sb (λx U y F=>absurd F (by simp));simpa using this
theorem HI.Hy(h:HI O ky la lb R i 0)(sa:jc O ky la)(sb:jc O ky lb):um O ky la lb (la.take i++lb.take 0++R):=by have:=h.jX sa sb (λx U y F=>absurd U (by simp));simpa using this
theorem HI.start:HI O ky la lb [] la.length lb.length:=#[by simp,List.Pairwise.nil,λx _ y F=>absurd F<|by simp,λx _ y F=>absurd F<|by simp]
end
def IT:Array Keyed->Array Keyed->StateT SortSt Sem (Array Keyed):=sortPriv% PySem.Builtin.mergeHi
abbrev GH:=Option (Array Keyed)×Nat×Nat×Array Keyed×Nat×Nat×Nat
abbrev SH:=Option (Array Keyed)×Nat×Nat×Array Keyed×Nat×Nat
abbrev OH:=Option (Array Keyed)×Nat×Nat×Array Keyed×Nat
def oz(x y o:Array Keyed)(i j:Nat):Array Keyed:=x.extract 0 i++y.extract 0 j++o.reverse
def ym(x y o:Array Keyed)(i j:Nat):Array Keyed:=y.extract 0 j++x.extract 0 i++o.reverse
def Q7(x y o:Array Keyed)(i j mg ca cb:Nat):StateT SortSt Sem (ForInStep GH):=do
 let e<-elem' x (i-1)
 if (i-1==0)=G' then pure (.done (y'<|oz x y (o.push e) (i-1) j,i-1,j,o.push e,mg,ca,cb))
 else if (decide (ca<7)&&decide (cb<7))=G' then pure (.done (B',i-1,j,o.push e,mg,ca,cb))
 else pure (.yield (B',i-1,j,o.push e,mg,ca,cb))
def gp(x y o:Array Keyed)(i j mg ca uq:Nat):StateT SortSt Sem (ForInStep GH):=do
 let e<-elem' y (j-1)
 if (j-1==1)=G' then pure (.done (y'<|ym x y (o.push e) i<|j-1,i,j-1,o.push e,mg,ca,uq))
 else do
  let f<-elem' x (i-1)
  let r<-Ge G' f y 0 (j-1) (j-1-1)
  match r with
  |some k=>
   if j-1-k>0 then
    if (k==1)=G' then pure (.done (y'<|ym x y (o.push e++(y.extract k<|j-1).reverse) i k,i,k,o.push e++(y.extract k<|j-1).reverse,mg,ca,j-1-k))
    else if (k==0)=G' then pure (.done (y'<|oz x y (o.push e++(y.extract k<|j-1).reverse) i k,i,k,o.push e++(y.extract k<|j-1).reverse,mg,ca,j-1-k))
    else Q7 x y (o.push e++(y.extract k<|j-1).reverse) i k mg ca (j-1-k)
   else Q7 x y (o.push e) i (j-1) mg ca (j-1-k)
  |_=>pure<|.done (y'<|oz x y (o.push e) i<|j-1,i,j-1,o.push e,mg,ca,uq)
def k8(x y o:Array Keyed)(i j mg Qr uq:Nat):StateT SortSt Sem (ForInStep GH):=do
 setG mg
 let e<-elem' y (j-1)
 let r<-Ge J' e x 0 i (i-1)
 match r with
 |some k=>
  if i-k>0 then
   if (k==0)=G' then pure (.done (y'<|oz x y (o++(x.extract k i).reverse) k j,k,j,o++(x.extract k i).reverse,mg,i-k,uq))
   else gp x y (o++(x.extract k i).reverse) k j mg (i-k) uq
  else gp x y o i j mg (i-k) uq
 |_=>pure<|.done (y'<|oz x y o i j,i,j,o,mg,Qr,uq)
def Si(x y:Array Keyed)(mg:Nat)(r:SH):StateT SortSt Sem (ForInStep SH):=do
 let e<-elem' y (r.2.2.1-1)
 let f<-elem' x (r.2.1-1)
 let c<-lt' e f
 match c with
 |some xw=>
  if xw=G' then do
   let f<-elem' x (r.2.1-1)
   if (r.2.1-1==0)=G' then pure (.done (y'<|oz x y (r.2.2.2.1.push f) (r.2.1-1) r.2.2.1,r.2.1-1,r.2.2.1,r.2.2.2.1.push f,r.2.2.2.2.1+1,0))
   else if r.2.2.2.2.1+1>=mg then pure (.done (B',r.2.1-1,r.2.2.1,r.2.2.2.1.push f,r.2.2.2.2.1+1,0))
   else pure (.yield (B',r.2.1-1,r.2.2.1,r.2.2.2.1.push f,r.2.2.2.2.1+1,0))
  else do
   let e<-elem' y (r.2.2.1-1)
   if (r.2.2.1-1==1)=G' then pure (.done (y'<|ym x y (r.2.2.2.1.push e) r.2.1<|r.2.2.1-1,r.2.1,r.2.2.1-1,r.2.2.2.1.push e,0,r.2.2.2.2.2+1))
   else if r.2.2.2.2.2+1>=mg then pure (.done (B',r.2.1,r.2.2.1-1,r.2.2.2.1.push e,0,r.2.2.2.2.2+1))
   else pure (.yield (B',r.2.1,r.2.2.1-1,r.2.2.2.1.push e,0,r.2.2.2.2.2+1))
 |_=>pure<|.done (y'<|oz x y r.2.2.2.1 r.2.1 r.2.2.1,r.2.1,r.2.2.1,r.2.2.2.1,r.2.2.2.2.1,r.2.2.2.2.2)
def Nm(x y:Array Keyed)(r:OH):StateT SortSt Sem (ForInStep OH):=do
 let a<-forIn [:x.size+y.size] ((B',r.2.1,r.2.2.1,r.2.2.2.1,0,0):SH) λ_ a=>Si x y r.2.2.2.2 a
 match a.1 with
 |some v=>pure<|.done (y' v,a.2.1,a.2.2.1,a.2.2.2.1,r.2.2.2.2)
 |none=>do
  rule "list.sort.gallop"
  let b<-forIn [:x.size+y.size] ((B',a.2.1,a.2.2.1,a.2.2.2.1,r.2.2.2.2+1,a.2.2.2.2.1,a.2.2.2.2.2):GH) λ_ b=>
   if b.2.2.2.2.1>1 then k8 x y b.2.2.2.1 b.2.1 b.2.2.1 (b.2.2.2.2.1-1) b.2.2.2.2.2.1 b.2.2.2.2.2.2 else k8 x y b.2.2.2.1 b.2.1 b.2.2.1 b.2.2.2.2.1 b.2.2.2.2.2.1 b.2.2.2.2.2.2
  match b.1 with
  |some v=>pure<|.done (y' v,b.2.1,b.2.2.1,b.2.2.2.1,b.2.2.2.2.1)
  |none=>do
   setG (b.2.2.2.2.1+1)
   pure (.yield (B',b.2.1,b.2.2.1,b.2.2.2.1,b.2.2.2.2.1+1))
def Vu(x y:Array Keyed):StateT SortSt Sem (Array Keyed):=do
 rule "list.sort.merge-hi"
 let e<-elem' x (x.size-1)
 if (x.size-1==0)=G' then pure (oz x y #[e] (x.size-1) y.size)
 else if (y.size==1)=G' then pure (ym x y #[e] (x.size-1) y.size)
 else do
  let st<-get
  let r<-forIn [:x.size+y.size] ((B',x.size-1,y.size,#[e],gallopOf st):OH) λ_ r=>Nm x y r
  match r.1 with
  |some a=>pure a
  |none=>unsupported "internal:list.sort.merge-bound"
theorem Ej(x y):IT x y=Vu x y:=by kernel_rfl
theorem qk(x:Array Keyed)(i):(x.extract 0 i).toList=x.toList.take i:=by rw[XZ];simp
theorem wq(x:Array Keyed):(x.extract k i).toList=(x.toList.drop k).take (i-k):=by rw[XZ]
theorem eZ(x y o)(i j):(oz x y o i j).toList=x.toList.take i++y.toList.take j++o.toList.reverse:=by unfold oz;rw[XY,XY,qk,qk,X2]
theorem hU(x y o)(i j):(ym x y o i j).toList=y.toList.take j++x.toList.take i++o.toList.reverse:=by unfold ym;rw[XY,XY,qk,qk,X2]
theorem xF(x o:Array Keyed)(k i):(o++(x.extract k i).reverse).toList.reverse=(x.toList.drop k).take (i-k)++o.toList.reverse:=by rw[XY,X2,List.reverse_append,List.reverse_reverse,wq]
theorem jI{x o:Array Keyed}(Z:1<=i)(Y:i<=x.size):(o.push<|kas_item x<|i-1).toList.reverse=(x.toList.drop<|i-1).take (i-(i-1))++o.toList.reverse:=by rw[show i-(i-1)=1 by lia,take_one ⋯];simp
section
variable{O:KeyOrd}{ky:Keyed->O.α}{Mem:Keyed->Prop}
variable{prog:Program}{w:World}{A:Around}{E:Value->Shared->Prop}{κ:SortKind}{s:Shared}
theorem fQ(h:e∈x.toList.take i):∃k,k<i/\k<x.size/\e=kas_item x k:=by
 have y:e∈(x.toList.drop 0).take i:=by simpa using h
 obtain⟨k,_,k1,k2,e⟩:=bg y;exact#[k,⋯,k2,e]
structure Da(O:KeyOrd)(ky:Keyed->O.α)(x y o:Array Keyed)(i j:Nat):Prop where
 m:HI O ky x.toList y.toList o.toList.reverse i j
 i1:1<=i
 i2:i<x.size
 j1:2<=j
 j2:j<=y.size
theorem MP.fst(h:MP O ky Mem x y)(hi:i<=x.size):∀e∈y.toList.take 1,∀f∈x.toList.take i,le O ky e f:=λe K f A=>by
 obtain⟨k,k1,k2,rfl⟩:=fQ K;obtain⟨l,M,m,rfl⟩:=fQ A;have:k=0:=⋯
 subst this;exact Xv (Yx h.first)<|cT h.sa (ZW l) m
def HP(O:KeyOrd)(ky:Keyed->O.α)(x y:Array Keyed)(n:Nat)(v:Option (Array Keyed))(o:Array Keyed)(i j:Nat):Prop:=(∃a,v=y' a/\um O ky x.toList y.toList a.toList)\/(v=B'/\Da O ky x y o i j/\i+j+n<=x.size+y.size)
theorem HP.none(h:HP O ky x y n v o i j)(M:v=B'):Da O ky x y o i j/\i+j+n<=x.size+y.size:=by
 rcases h with ⟨a,e,_⟩|⟨_,h⟩
 ·rw[M]at e;cases e
 ·exact h
def zN(O:KeyOrd)(ky:Keyed->O.α)(x y:Array Keyed)(n:Nat):ForInStep GH->Prop
 |.done r=>HP O ky x y n r.1 r.2.2.2.1 r.2.1 r.2.2.1
 |.yield r=>r.1=B'/\HP O ky x y n r.1 r.2.2.2.1 r.2.1 r.2.2.1
theorem Bh(M:MP O ky Mem x y)(h:HI O ky x.toList y.toList o.toList.reverse i j)(hi:1<=i)(m:i<x.size)(F:2<=j)(v:j<=y.size)(P:∀l,l<j->le O ky (kas_item y l) (kas_item x<|i-1))(I:i-1+j+n<=x.size+y.size){st:SortSt}
  (q:∀r,zN O ky x y n r->Q r st s):kasC (model prog w) A E (Q7 x y o i j mg ca cb) Q st s:=by
 refine W8<|aS (aK ⋯) ?_;have m1:=h.rJ (k:=i-1) ⋯ M.sa (λe K f hf=>by
  obtain⟨a,a1,a2,a3,rfl⟩:=bg K;obtain⟨b,b1,b2,rfl⟩:=fQ hf;have:a=i-1:=⋯
  subst this;exact P b b1)
 rw[<-jI hi ⋯]at m1;by_cases c:(i-1==0)=G'
 ·rw[aaf c];have U:i-1=0:=by simpa using c
  refine Xc<|q _<|.inl #[_,rfl,?_];rw[eZ];rw[U]at m1 ⊢;exact m1.wc M.sa M.sb
 ·rw[aae c];have U:¬i-1=0:=by simpa using c
  have g:HP O ky x y n B' (o.push<|kas_item x<|i-1) (i-1) j:=.inr #[rfl,#[m1,⋯,⋯,F,v],⋯];by_cases d:(decide (ca<7)&&decide (cb<7))=G'
  ·rw[aaf d];exact Xc<|q _ g
  ·rw[aae d];exact Xc<|q _ #[rfl,g]
theorem Bg(T:Tells prog w A κ s O ky Mem)(M:MP O ky Mem x y)(h:HI O ky x.toList y.toList o.toList.reverse i j)(hi:1<=i)(m:i<x.size)(F:2<=j)(v:j<=y.size)(P:∀l,l<i->le O ky (kas_item x l) (kas_item y<|j-1))(I:i+(j-1)+n<=x.size+y.size){st:SortSt}(hs:kindOf st=κ)
   (q:∀r,zN O ky x y n r->Q r st s):kasC (model prog w) A E (gp x y o i j mg ca cb) Q st s:=by
 refine W8<|aS (aK ⋯) ?_;have m1:=h.rK (k:=j-1) ⋯ M.sb (λe K f hf=>by
  obtain⟨a,a1,a2,a3,rfl⟩:=bg K;obtain⟨b,b1,b2,rfl⟩:=fQ hf;have:a=j-1:=⋯
  subst this;exact P b b1)
 rw[<-jI ⋯ v]at m1;by_cases c:(j-1==1)=G'
 ·rw[aaf c];have U:j-1=1:=by simpa using c
  refine Xc<|q _<|.inl #[_,rfl,?_];rw[hU];rw[U]at m1 ⊢;exact m1.jX M.sa M.sb<|M.fst ⋯
 ·rw[aae c];have U:¬j-1=1:=by simpa using c
  refine W8<|aS (aK ⋯)<|W8 ?_;refine jY T (λt=>kas_item y t) (λt J=>by rw[ZV];exact aK ⋯) (λt J=>M.mb _ ⋯) (M.ma (i-1) ⋯) ⋯ (λa b g L B=>?_) hs (λk u cO oh=>?_)
  ·unfold iG at B ⊢;have:=cT M.sb g ⋯;exact Yz this B
  ·have lo:∀t,t<k->le O ky (kas_item y t) (kas_item x<|i-1):=λt J=>by have z:=cO t J;unfold iG at z;exact Yx z
   have up:∀t,k<=t->t<j-1->le O ky (kas_item x<|i-1) (kas_item y t):=λt Z Y=>by have z:=oh t Z Y;unfold iG at z;exact z
   dsimp only;by_cases k0:j-1-k>0
   ·rw[aaf k0];have S:=m1.rK (by omega) M.sb (λe K f hf=>by
     obtain⟨a,a1,a2,a3,rfl⟩:=bg K;obtain⟨b,b1,b2,rfl⟩:=fQ hf;exact Xv (cT M.sa (show b<=i-1 by lia) ⋯)<|up a a1 ⋯)
    rw[<-xF]at S;by_cases d:(k==1)=G'
    ·rw[aaf d];have p:k=1:=by simpa using d
     subst p;refine Xc<|q _<|.inl #[_,rfl,?_];rw[hU];exact S.jX M.sa M.sb<|M.fst ⋯
    ·rw[aae d];have p:¬k=1:=by simpa using d
     by_cases e:(k==0)=G'
     ·rw[aaf e];have e':k=0:=by simpa using e
      subst e';refine Xc<|q _<|.inl #[_,rfl,?_];rw[eZ];exact S.Hy M.sa M.sb
     ·rw[aae e];have e':¬k=0:=by simpa using e
      exact Bh M S hi m (by omega) (by omega) lo (by omega) q
   ·rw[aae k0];exact Bh M m1 hi m ⋯ ⋯ (λl W=>lo l ⋯) ⋯ q
theorem Bf(T:Tells prog w A κ s O ky Mem)(M:MP O ky Mem x y)(h:Da O ky x y o i j)(I:i+j+n<=x.size+y.size){dJ st:SortSt}(hs:kindOf st=κ)(p:SI dJ st)
   (q:∀r H,SI dJ H->zN O ky x y n r->Q r H s):kasC (model prog w) A E (k8 x y o i j mg ca cb) Q st s:=by
 have hi:=h.i1;have m:=h.i2;have F:=h.j1;have v:=h.j2;refine W8<|lT λzd Z=>?_;have c:=Z.1.trans hs;have P:=λr=>q r zd (p.trans Z)
 refine W8<|aS (aK ⋯)<|W8 ?_;refine jY T (λt=>kas_item x t) (λt J=>by rw[ZV];exact aK ⋯) (λt J=>M.ma _ ⋯) (M.mb (j-1) ⋯) ⋯ (λa b g L B=>?_) c (λk u cO oh=>?_)
 ·unfold iG at B ⊢;have:=cT M.sa g ⋯;cases z:O.blt (ky<|kas_item y<|j-1) (ky<|kas_item x a) with
  |false=>rfl
  |true=>have X:=YA z this;have Ba:=B;rw[X]at Ba;cases Ba
 ·have lo:∀t,t<k->le O ky (kas_item x t) (kas_item y<|j-1):=λt J=>by have z:=cO t J;unfold iG at z;have X:=z;show O.blt (ky<|kas_item y<|j-1) (ky<|kas_item x t)=J';simpa using X
  have up:∀t,k<=t->t<i->le O ky (kas_item y<|j-1) (kas_item x t):=λt Z Y=>by
   have z:=oh t Z Y;unfold iG at z;have X:=z;have z3:O.blt (ky<|kas_item y<|j-1) (ky<|kas_item x t)=G':=by simpa using X
   exact Yx z3
  dsimp only;by_cases k0:i-k>0
  ·rw[aaf k0];have S:=h.m.rJ (by omega) M.sa (λe K f hf=>by
    obtain⟨a,a1,a2,a3,rfl⟩:=bg K;obtain⟨b,b1,b2,rfl⟩:=fQ hf;exact Xv (cT M.sb (show b<=j-1 by lia) ⋯)<|up a a1 ⋯)
   rw[<-xF]at S;by_cases e:(k==0)=G'
   ·rw[aaf e];have e':k=0:=by simpa using e
    subst e';refine Xc<|P _<|.inl #[_,rfl,?_];rw[eZ];exact S.wc M.sa M.sb
   ·rw[aae e];have e':¬k=0:=by simpa using e
    exact Bg T M S (by omega) (by omega) F v lo (by omega) c P
  ·rw[aae k0];exact Bg T M h.m hi m F v (λl W=>lo l ⋯) ⋯ c P
def Uo(O:KeyOrd)(ky:Keyed->O.α)(x y:Array Keyed)(n:Nat):ForInStep SH->Prop
 |.done r=>HP O ky x y n r.1 r.2.2.2.1 r.2.1 r.2.2.1
 |.yield r=>r.1=B'/\HP O ky x y n r.1 r.2.2.2.1 r.2.1 r.2.2.1
theorem J3(T:Tells prog w A κ s O ky Mem)(M:MP O ky Mem x y)(h:Da O ky x y r.2.2.2.1 r.2.1 r.2.2.1)(I:r.2.1+r.2.2.1+n<=x.size+y.size+1){st:SortSt}(l:kindOf st=κ)
   (q:∀r',Uo O ky x y n r'->Q r' st s):kasC (model prog w) A E (Si x y mg r) Q st s:=by
 obtain⟨v,i,j,o,t,U⟩:=r;have hi:1<=i:=h.i1;have m:i<x.size:=h.i2;have F:2<=j:=h.j1;have DW:j<=y.size:=h.j2;have hm:HI O ky x.toList y.toList o.toList.reverse i j:=h.m;dsimp only at I;unfold Si;dsimp only;refine W8<|aS (aK ⋯)<|W8<|aS (aK ⋯)<|W8<|sX T (M.mb (j-1) ⋯) (M.ma (i-1) ⋯) l ?_;dsimp only;cases c:O.blt (ky<|kas_item y<|j-1) (ky<|kas_item x<|i-1) with
 |true=>
  rw[aaf rfl];refine W8<|aS (aK ⋯) ?_;have m1:=hm.rJ (k:=i-1) ⋯ M.sa (λe K f hf=>by
   obtain⟨a,a1,a2,a3,rfl⟩:=bg K;obtain⟨b,b1,b2,rfl⟩:=fQ hf;have:a=i-1:=⋯
   subst this;exact Xv (cT M.sb (show b<=j-1 by lia) ⋯)<|Yx c)
  rw[<-jI hi ⋯]at m1;by_cases d:(i-1==0)=G'
  ·rw[aaf d];have p:i-1=0:=by simpa using d
   refine Xc<|q _<|.inl #[_,rfl,?_];rw[eZ];rw[p]at m1 ⊢;exact m1.wc M.sa M.sb
  ·rw[aae d];have p:¬i-1=0:=by simpa using d
   have g:HP O ky x y n B' (o.push<|kas_item x<|i-1) (i-1) j:=.inr #[rfl,#[m1,⋯,⋯,F,DW],⋯];by_cases e:t+1>=mg
   ·rw[aaf e];exact Xc<|q _ g
   ·rw[aae e];exact Xc<|q _ #[rfl,g]
 |false=>
  rw[aae (by simp)];refine W8<|aS (aK ⋯) ?_;have m1:=hm.rK (k:=j-1) ⋯ M.sb (λe K f hf=>by
   obtain⟨a,a1,a2,a3,rfl⟩:=bg K;obtain⟨b,b1,b2,rfl⟩:=fQ hf;have:a=j-1:=⋯
   subst this;exact Xv (cT M.sa (show b<=i-1 by lia) ⋯) c)
  rw[<-jI ⋯ DW]at m1;by_cases d:(j-1==1)=G'
  ·rw[aaf d];have p:j-1=1:=by simpa using d
   refine Xc<|q _<|.inl #[_,rfl,?_];rw[hU];rw[p]at m1 ⊢;exact m1.jX M.sa M.sb<|M.fst ⋯
  ·rw[aae d];have p:¬j-1=1:=by simpa using d
   have g:HP O ky x y n B' (o.push<|kas_item y<|j-1) i (j-1):=.inr #[rfl,#[m1,hi,m,⋯,⋯],⋯];by_cases e:U+1>=mg
   ·rw[aaf e];exact Xc<|q _ g
   ·rw[aae e];exact Xc<|q _ #[rfl,g]
def Um(O:KeyOrd)(ky:Keyed->O.α)(x y:Array Keyed)(n:Nat):ForInStep OH->Prop
 |.done r=>∃a,r.1=y' a/\um O ky x.toList y.toList a.toList
 |.yield r=>r.1=B'/\Da O ky x y r.2.2.2.1 r.2.1 r.2.2.1/\r.2.1+r.2.2.1+n<=x.size+y.size
theorem ED(T:Tells prog w A κ s O ky Mem)(M:MP O ky Mem x y)(h:Da O ky x y r.2.2.2.1 r.2.1 r.2.2.1)(I:r.2.1+r.2.2.1+n<=x.size+y.size){dJ st:SortSt}(hs:kindOf st=κ)(p:SI dJ st)
   (q:∀r' H,SI dJ H->Um O ky x y (n+1) r'->Q r' H s):kasC (model prog w) A E (Nm x y r) Q st s:=by
 have B:=M.pa;refine W8<|bZ (Q:=λa H S=>st=H/\s=S/\HP O ky x y (n+1) a.1 a.2.2.2.1 a.2.1 a.2.2.1) (aak<|dQ (λJ a H=>st=H/\a.1=B'/\Da O ky x y a.2.2.2.1 a.2.1 a.2.2.1/\a.2.1+a.2.2.1+n+J<=x.size+y.size) #[rfl,rfl,h,by simpa using I] (λJ a H z F o=>?_) λa H o=>?_) λa H S o=>?_
 ·obtain⟨rfl,a0,G8,k⟩:=o;refine J3 T M G8 (n:=n+J+1) ⋯ hs (λr' t=>#[rfl,?_]);cases r' with
  |done b=>
   refine#[rfl,rfl,?_];rcases t with ⟨v,e,m⟩|⟨e,ok,l⟩
   ·exact .inl #[v,e,m]
   ·exact .inr #[e,ok,⋯]
  |yield b=>obtain⟨K,gb⟩:=t;obtain⟨ok,l⟩:=gb.none K;exact#[rfl,K,ok,⋯]
 ·obtain⟨rfl,a0,G8,k⟩:=o;rw[Y4]at k;exact#[rfl,rfl,.inr #[a0,G8,⋯]]
 obtain⟨rfl,rfl,ga⟩:=o;rcases ga with ⟨v,e,m⟩|⟨e,ok,l⟩
 ·rw[e];exact Xc<|q _ _ p #[v,rfl,m]
 ·rw[e];refine W8<|aai<|aaB ?_;refine W8<|bZ (Q:=λb H S=>SI dJ H/\s=S/\HP O ky x y (n+1) b.1 b.2.2.2.1 b.2.1 b.2.2.1) (aak<|dQ (λJ b H=>SI dJ H/\kindOf H=κ/\b.1=B'/\Da O ky x y b.2.2.2.1 b.2.1 b.2.2.1/\b.2.1+b.2.2.1+(n+1)<=x.size+y.size) #[p,hs,rfl,ok,l] (λJ b H z F o=>?_) λb H o=>?_) λb H S o=>?_
  ·obtain⟨j,g,K,U,L⟩:=o;have Z:∀P,SI dJ P->kindOf P=κ:=λP Y=>(Y.1.trans j.1.symm).trans g
   by_cases c:b.2.2.2.2.1>1
   ·rw[aaf c];refine Bf T M U L g j λr' P Y t=>#[rfl,?_];cases r' with
    |done i=>exact#[Y,rfl,t]
    |yield i=>obtain⟨W,gc⟩:=t;obtain⟨X,u⟩:=gc.none W;exact#[Y,Z P Y,W,X,u]
   ·rw[aae c];refine Bf T M U L g j λr' P Y t=>#[rfl,?_];cases r' with
    |done i=>exact#[Y,rfl,t]
    |yield i=>obtain⟨W,gc⟩:=t;obtain⟨X,u⟩:=gc.none W;exact#[Y,Z P Y,W,X,u]
  ·obtain⟨j,g,K,U,L⟩:=o;exact#[j,rfl,.inr #[K,U,L]]
  obtain⟨j,rfl,gb⟩:=o;rcases gb with ⟨v,e2,m⟩|⟨e2,RL,l2⟩
  ·rw[e2];exact Xc<|q _ _ j #[v,rfl,m]
  ·rw[e2];exact W8<|lT λP Y=>Xc<|q _ _ (j.trans Y) #[rfl,RL,l2]
theorem El(T:Tells prog w A κ s O ky Mem)(M:MP O ky Mem x y){st:SortSt}(l:kindOf st=κ)(q:∀v H,SI st H->um O ky x.toList y.toList v.toList->Q v H s):kasC (model prog w) A E (IT x y) Q st s:=by
 rw[Ej];have B:=M.pa;have K:=M.pb;refine W8<|aai<|aaB ?_;refine W8<|aS (aK ⋯) ?_;have h:=HI.start (ky:=ky) (la:=x.toList) (lb:=y.toList);have lx:x.toList.length=x.size:=by simp
 have g:y.toList.length=y.size:=by simp
 rw[lx,g]at h;have m1:=h.rJ (k:=x.size-1) ⋯ M.sa (λe he f hf=>by
  obtain⟨a,a1,a2,a3,rfl⟩:=bg he;obtain⟨b,b1,b2,rfl⟩:=fQ hf;have:a=x.size-1:=⋯
  subst this;exact Yx<|M.last b b2)
 have e0:(#[kas_item x<|x.size-1]:Array Keyed).toList.reverse=(x.toList.drop<|x.size-1).take (x.size-(x.size-1))++[]:=by rw[show x.size-(x.size-1)=1 by lia,take_one ⋯];rfl
 rw[<-e0]at m1;by_cases c:(x.size-1==0)=G'
 ·rw[aaf c];have U:x.size-1=0:=by simpa using c
  refine Xc<|q _ _ (SI.refl _) ?_;rw[eZ];rw[U]at m1 ⊢;exact m1.wc M.sa M.sb
 ·rw[aae c];have U:¬x.size-1=0:=by simpa using c
  by_cases d:(y.size==1)=G'
  ·rw[aaf d];have p:y.size=1:=by simpa using d
   refine Xc<|q _ _ (SI.refl _) ?_;rw[hU];rw[p]at m1 ⊢;exact m1.jX M.sa M.sb<|M.fst ⋯
  ·rw[aae d];have p:¬y.size=1:=by simpa using d
   refine W8<|aah ?_;refine W8<|bZ (Q:=λr H S=>SI st H/\s=S/\∃a,r.1=y' a/\um O ky x.toList y.toList a.toList) (aak<|dQ (λJ r H=>SI st H/\r.1=B'/\Da O ky x y r.2.2.2.1 r.2.1 r.2.2.1/\r.2.1+r.2.2.1+(J+1)<=x.size+y.size) #[SI.refl _,rfl,#[m1,(show 1<=x.size-1 by lia),(show x.size-1<x.size by lia),(show 2<=y.size by lia),W9 _],(show x.size-1+y.size+(0+1)<=x.size+y.size by lia)] (λJ r H z F o=>?_) λr H o=>?_) λr H S o=>?_
   ·obtain⟨j,r0,i,rn⟩:=o;refine ED T M i rn (j.1.trans l) j λr' P Y t=>#[rfl,?_];cases r' with
    |done b=>exact#[Y,rfl,t]
    |yield b=>exact#[Y,t.1,t.2.1,t.2.2]
   ·obtain⟨j,r0,i,rn⟩:=o;rw[Y4]at rn
    lia
   obtain⟨j,rfl,a,e,m⟩:=o;rw[e];exact Xc<|q _ _ j m
end
def MW:Nat->StateT SortSt Sem Bool:=sortPriv% PySem.Builtin.mergeAt
def back(M:Array Keyed)(p:Nat)(a:Array Keyed):Array Keyed:=M.toList.zipIdx.foldl (λb(q,j)=>b.setIfInBounds (p+j) q) a
theorem IQ(i):MW i=(do
 let t<-get
 let (y' (p,n,b),y' (q,m,_)):=((pendingOf t)[i]?,(pendingOf t)[i+1]?)|unsupported "internal:list.sort.pending"
 set (SortSt.mk' (kindOf t) (arrOf t) (((pendingOf t).setIfInBounds i (p,n+m,b)).eraseIdxIfInBounds<|i+1) (gallopOf t)<|failedOf t)
 let y' k<-Ge J' (<-elem' (arrOf t) q) (arrOf t) p n 0|return J'
 let (p,n):=(p+k,n-k)
 if n==0 then return G'
 let y' m<-Ge G' (<-elem' (arrOf t) (p+n-1)) (arrOf t) q m (m-1)|return J'
 if m==0 then return G'
 let x:=(arrOf t).extract p q
 let y:=(arrOf t).extract q (q+m)
 let M<-if n<=m then IU x y else IT x y
 modify λt=>SortSt.mk' (kindOf t) (back M p<|arrOf t) (pendingOf t) (gallopOf t) (failedOf t)
 return (failedOf<|<-get).isNone):=by kernel_rfl
theorem oN:∀(M:List Keyed)(p c:Nat)(a:Array Keyed),p+c+M.length<=a.size->((M.zipIdx c).foldl (λb(q:Keyed×Nat)=>b.setIfInBounds (p+q.2) q.1) a).toList=a.toList.take (p+c)++M++a.toList.drop (p+c+M.length)
 |[],p,c,a,h=>by simp
 |e::M,p,c,a,h=>by
  rw[ZF,List.foldl_cons];simp only[Xm]at h;have O:=oN M p (c+1) (a.setIfInBounds (p+c) e) (by rw[Array.size_setIfInBounds];lia);rw[O];have l:(a.setIfInBounds (p+c) e).toList=a.toList.take (p+c)++[e]++a.toList.drop (p+c+1):=by rw[Array.toList_setIfInBounds];rw[Zv];rw[aaf (by simp;lia)];simp
  have W:(a.toList.take (p+c)++[e]).length=p+c+1:=by simp;lia
  rw[l];have e1:(a.toList.take (p+c)++[e]++a.toList.drop (p+c+1)).take (p+(c+1))=a.toList.take (p+c)++[e]:=by rw[show p+(c+1)=(a.toList.take (p+c)++[e]).length by lia,List.take_left]
  have e2:(a.toList.take (p+c)++[e]++a.toList.drop (p+c+1)).drop (p+(c+1)+M.length)=a.toList.drop (p+c+(e::M).length):=by
   rw[show p+(c+1)+M.length=(a.toList.take (p+c)++[e]).length+M.length by lia,List.drop_append,YK (Nat.le_add_right _ _),Zl,List.drop_drop];congr 1;simp only[Xm]
   lia
  rw[e1,e2];simp
section
variable{prog:Program}{w:World}{A:Around}{E:Value->Shared->Prop}{s:Shared}
theorem Bq{t st:SortSt}(h:Q ⟨⟩ t s):kasC (model prog w) A E (set t:StateT SortSt Sem PUnit) Q st s:=by unfold kasC;rw[StateT.run_set];exact W2 h
end
def aL(lo n m:Nat):StateT SortSt Sem AscSt:=
 forIn [n:m] ((B',n):AscSt) λ_ r=>do
  let x<-ltAt' (lo+r.2) (lo+r.2-1)
  match x with
  |some c=>if c=G' then pure (.done (B',r.2)) else pure (.yield (B',r.2+1))
  |_=>pure<|.done (y' B',r.2)
def t3(lo n m:Nat):StateT SortSt Sem (Option Nat):=do
 reverseSlice' lo (lo+n)
 let r<-aL lo n m
 match r.1 with
 |some v=>pure v
 |none=>pure<|y' r.2
def dL(lo n m:Nat):StateT SortSt Sem DescSt:=
 forIn [n:m] ((B',n,0):DescSt) λ_ r=>do
  let x<-ltAt' (lo+r.2.1) (lo+r.2.1-1)
  match x with
  |some c=>
   if c=G' then
    if r.2.2>0 then do
     reverseSlice' (lo+r.2.1-(r.2.2+1)) (lo+r.2.1)
     pure (.yield (B',r.2.1+1,0))
    else pure (.yield (B',r.2.1+1,0))
   else do
    let y<-ltAt' (lo+r.2.1-1) (lo+r.2.1)
    match y with
    |some d=>if d=G' then pure (.done (B',r.2.1,r.2.2)) else pure (.yield (B',r.2.1+1,r.2.2+1))
    |_=>pure<|.done (y' B',r.2.1,r.2.2)
  |_=>pure<|.done (y' B',r.2.1,r.2.2)
def dP(lo n m:Nat):StateT SortSt Sem (Option Nat):=do
 rule "list.sort.descending-run"
 let r<-dL lo (n+1) m
 match r.1 with
 |some v=>pure v
 |none=>
  if r.2.2>0 then do
   reverseSlice' (lo+r.2.1-(r.2.2+1)) (lo+r.2.1)
   t3 lo r.2.1 m
  else t3 lo r.2.1 m
def cR(lo m:Nat):StateT SortSt Sem (Option Nat):=do
 let r<-aL lo 1 m
 match r.1 with
 |some v=>pure v
 |none=>
  if (r.2==m)=G' then pure (y' r.2)
  else if r.2>1 then do
   let x<-ltAt' lo (lo+r.2-1)
   match x with
   |some c=>if c=G' then pure (y' r.2) else do
     reverseSlice' lo (lo+r.2)
     dP lo r.2 m
   |_=>pure B'
  else dP lo r.2 m
theorem Lq(lo m):countRun' lo m=cR lo m:=by kernel_rfl
def pL(lo k:Nat):StateT SortSt Sem (Option Bool×Nat×Nat):=
 forIn [:k] ((B',0,k):Option Bool×Nat×Nat) λ_ r=>
  if r.2.1>=r.2.2 then pure (.done (B',r.2.1,r.2.2)) else do
   let x<-ltAt' (lo+k) (lo+(r.2.1+r.2.2)/2)
   match x with
   |some c=>if c=G' then pure (.yield (B',r.2.1,(r.2.1+r.2.2)/2)) else pure (.yield (B',(r.2.1+r.2.2)/2+1,r.2.2))
   |_=>pure<|.done (y' J',r.2.1,r.2.2)
def bS(lo n ok:Nat):StateT SortSt Sem Bool:=do
 let r<-forIn [max ok 1:n] ((B',()):Option Bool×Unit) λk _=>do
  let r<-pL lo k
  match r.1 with
  |some v=>pure<|.done (y' v,())
  |none=>do
   moveDown' (lo+k) (lo+r.2.1)
   pure (.yield (B',()))
 match r.1 with
 |some v=>pure v
 |none=>pure G'
theorem Lc(lo n ok):binarySort' lo n ok=bS lo n ok:=by kernel_rfl
section
variable{O:KeyOrd}{ky:Keyed->O.α}{Mem:Keyed->Prop}
variable{prog:Program}{w:World}{A:Around}{E:Value->Shared->Prop}{κ:SortKind}{s:Shared}
theorem ez(h:Nat->β->SortSt->Prop)(h0:h a b0 dJ)
  (g:∀x c st,a<=x->x<b->h x c st->kasC (model prog w) A E (f x c) (λr H S=>S=s/\match r with|.done i=>Q i H s|.yield i=>h (x+1) i H) st s)
  (k:∀c st,h (max a b) c st->Q c st s):kasC (model prog w) A E (forIn [a:b] b0 f) Q dJ s:=by
 have go:∀(n x:Nat)(c:β)(st:SortSt),x+n=max a b->a<=x->h x c st->kasC (model prog w) A E (forIn (List.range' x n) c f) Q st s:=by
  intro n
  induction n with
  |zero=>
   intro x c st U j o;have e:x=max a b:=⋯
   subst e;exact kasC_nil<|k c st o
  |succ n O=>
   intro x c st U j o;rw[List.range'_succ];refine kasC_cons<|aav (g x c st j ⋯ o) (λr S y=>?_) λ_ _ e=>e;obtain⟨r,H⟩:=r;obtain⟨rfl,y⟩:=y;cases r with
   |done i=>exact y
   |yield i=>exact O (x+1) i H ⋯ ⋯ y
 exact aak<|go (b-a) a b0 dJ ⋯ (W9 _) h0
structure Bs(κ:SortKind)(P:Array (Nat×Nat×Nat))(lo:Nat)(b:Array Keyed)(st:SortSt):Prop where
 k:kindOf st=κ
 f:failedOf st=B'
 p:pendingOf st=P
 pm:(arrOf st).toList.Perm b.toList
 lw:∀i,i<lo->kas_item (arrOf st) i=kas_item b i
variable{P:Array (Nat×Nat×Nat)}{lo:Nat}{b:Array Keyed}
theorem Bs.size{st:SortSt}(h:Bs κ P lo b st):(arrOf st).size=b.size:=by have:=h.pm.length_eq;simpa using this
theorem Bs.mem{st:SortSt}(h:Bs κ P lo b st)(L:∀x∈b.toList,Mem x)(hi:i<b.size):Mem (kas_item (arrOf st) i):=by
 have q:i<(arrOf st).size:=by rw[h.size];exact hi
 refine L _<|h.pm.mem_iff.mp ?_;have e:kas_item (arrOf st) i=(arrOf st)[i]:=by unfold kas_item;simp[q]
 rw[e];simp
theorem jt(h:p[i]?=q[j]?):kas_item p i=kas_item q j:=by unfold kas_item;rw[XX,XX,h]
theorem ju(F:j<=a.size)(k):kas_item (mirror a i j<|(j-i)/2) k=if i<=k/\k<j then kas_item a (i+j-1-k) else kas_item a k:=by
 have e:=getElem?_mirror_all (i:=i) F k;by_cases Z:i<=k/\k<j
 ·rw[aaf Z]at e ⊢;exact jt e
 ·rw[aae Z]at e ⊢;exact jt e
theorem mU(l:src<a.size)(hd:d<=src)(k):
  kas_item (bubble a src d) k=if k=src-d then kas_item a src else if src-d<k/\k<=src then kas_item a (k-1) else kas_item a k:=by
 have e:=getElem?_bubble l d hd k;by_cases Z:k=src-d
 ·rw[aaf Z]at e ⊢;exact jt e
 ·rw[aae Z]at e ⊢;by_cases Y:src-d<k/\k<=src
  ·rw[aaf Y]at e ⊢;exact jt e
  ·rw[aae Y]at e ⊢;exact jt e
theorem Bs.rev{st:SortSt}(h:Bs κ P lo b st)(hi:lo<=i)(F:j<=b.size):Bs κ P lo b (setArr st<|mirror (arrOf st) i j<|(j-i)/2):=
 #[h.k,h.f,h.p,(Array.perm_iff_toList_perm.mp<|mirror_perm _ _ _ _).trans h.pm,λk hk=>by
  have:=ju (i:=i) (by rw[h.size];exact F) k;rw[aae ⋯]at this;exact this.trans<|h.lw k hk]
theorem Bs.UA{st:SortSt}(h:Bs κ P lo b st)(l:c<b.size)(hd:lo+d<=c):Bs κ P lo b (setArr st<|bubble (arrOf st) c d):=
 #[h.k,h.f,h.p,(Array.perm_iff_toList_perm.mp<|bubble_perm _ _ _).trans h.pm,λk hk=>by
  have:=mU (d:=d) (by rw[h.size];exact l) ⋯ k;rw[aae ⋯,aae ⋯]at this;exact this.trans<|h.lw k hk]
theorem jy(T:Tells prog w A κ s O ky Mem)(L:∀x∈b.toList,Mem x){st:SortSt}(h:Bs κ P lo b st)(hi:i<b.size)(F:j<b.size)
  (q:Q (y'<|O.blt (ky<|kas_item (arrOf st) i)<|ky<|kas_item (arrOf st) j) st s):kasC (model prog w) A E (ltAt' i j) Q st s:=by
 rw[ltAt'_eq];refine W8<|aah ?_;exact W8<|aS (aK<|by rw[h.size];exact hi)<|W8<|aS (aK<|by rw[h.size];exact F)<|sX T (h.mem L hi) (h.mem L F) h.k q
def Up(O:KeyOrd)(ky:Keyed->O.α)(lo:Nat)(a:Array Keyed)(n:Nat):Prop:=∀i j,lo<=i->i<=j->j<lo+n->O.kle (ky<|kas_item a i) (ky<|kas_item a j)
def Dn(O:KeyOrd)(ky:Keyed->O.α)(lo:Nat)(a:Array Keyed)(n:Nat):Prop:=∀i j,lo<=i->i<=j->j<lo+n->O.kle (ky<|kas_item a j) (ky<|kas_item a i)
def P5(O:KeyOrd)(ky:Keyed->O.α)(lo:Nat)(a:Array Keyed)(n q:Nat):Prop:=∀k,lo+n-(q+1)<=k->k<lo+n->ky (kas_item a k)=ky (kas_item a<|lo+n-1)
theorem Up.succ(h:Up O ky lo a n)(Z:1<=n)(Y:O.kle (ky<|kas_item a<|lo+n-1) (ky<|kas_item a<|lo+n)):Up O ky lo a (n+1):=λi j hi K F=>by
 by_cases e:j=lo+n
 ·subst e;by_cases e2:i=lo+n
  ·subst e2;exact Yy _
  ·exact Xv (h i (lo+n-1) hi ⋯ ⋯) Y
 ·exact h i j hi K ⋯
theorem Dn.succ(h:Dn O ky lo a n)(Z:1<=n)(Y:O.kle (ky<|kas_item a<|lo+n) (ky<|kas_item a<|lo+n-1)):Dn O ky lo a (n+1):=λi j hi K F=>by
 by_cases e:j=lo+n
 ·subst e;by_cases e2:i=lo+n
  ·subst e2;exact Yy _
  ·exact Xv Y<|h i (lo+n-1) hi ⋯ ⋯
 ·exact h i j hi K ⋯
theorem Dn.of(e:∀k,ky (kas_item c k)=ky (kas_item a k))(h:Dn O ky lo a n):Dn O ky lo c n:=λi j x y z=>by rw[e,e];exact h i j x y z
theorem Up.one(a):Up O ky lo a 1:=λi j x y z=>by rw[show i=j by lia];exact Yy _
theorem Dn.one(a):Dn O ky lo a 1:=λi j x y z=>by rw[show i=j by lia];exact Yy _
theorem AL(F:j<=a.size)(K:∀k,i<=k->k<j->ky (kas_item a k)=ky (kas_item a<|j-1))(k):ky (kas_item (mirror a i j<|(j-i)/2) k)=ky (kas_item a k):=by
 rw[ju F];split
 ·rename_i h;rw[K (i+j-1-k) (by omega) (by omega),K k h.1 h.2]
 ·rfl
theorem Ko(I:lo+n<=a.size)(h:Dn O ky lo a n):Up O ky lo (mirror a lo (lo+n)<|(lo+n-lo)/2) n:=λi j hi K F=>by rw[ju I,ju I,aaf (by omega),aaf (by omega)];exact h _ _ (by omega) (by omega) (by omega)
theorem FK(T:Tells prog w A κ s O ky Mem)(L:∀x∈b.toList,Mem x){st:SortSt}(h:Bs κ P lo b st)(g:lo+m<=b.size)(Z:1<=n)(I:n<=m)(J:Up O ky lo (arrOf st) n)
  (q:∀k,n<=k->k<=m->Up O ky lo (arrOf st) k->(k<m->O.blt (ky<|kas_item (arrOf st)<|lo+k) (ky<|kas_item (arrOf st)<|lo+k-1)=G')->Q (B',k) st s):kasC (model prog w) A E (aL lo n m) Q st s:=by
 refine ez (λx r H=>st=H/\r=(B',x)/\Up O ky lo (arrOf st) x) #[rfl,rfl,J] (λx r H p D1 o=>?_) λr H o=>?_
 ·obtain⟨rfl,rfl,J⟩:=o;refine W8<|jy T L h ⋯ ⋯ ?_;dsimp only;cases c:O.blt (ky<|kas_item (arrOf st)<|lo+x) (ky<|kas_item (arrOf st)<|lo+x-1) with
  |true=>rw[aaf rfl];exact Xc #[rfl,q x p ⋯ J λ_=>c]
  |false=>rw[aae (by simp)];exact Xc #[rfl,rfl,rfl,J.succ ⋯ c]
 ·obtain⟨rfl,rfl,J⟩:=o;rw[show max n m=m by lia]at J ⊢;exact q m I (W9 _) J λz=>absurd z ⋯
theorem qP{st:SortSt}(q:Q () (setArr st<|mirror (arrOf st) i j<|(j-i)/2) s):kasC (model prog w) A E (reverseSlice' i j) Q st s:=by rw[reverseSlice'_eq];exact aaj q
theorem Lx(T:Tells prog w A κ s O ky Mem)(L:∀x∈b.toList,Mem x){st:SortSt}(h:Bs κ P lo b st)(g:lo+m<=b.size)(Z:1<=n)(I:n<=m)(hd:Dn O ky lo (arrOf st) n)
  (q:∀H k e,Bs κ P lo b H->n<=k->k<=m->e+1<=k->Dn O ky lo (arrOf H) k->P5 O ky lo (arrOf H) k e->Q (B',k,e) H s):kasC (model prog w) A E (dL lo n m) Q st s:=by
 have one:∀(a:Array Keyed)(k:Nat),1<=k->P5 O ky lo a k 0:=λa k hk j x y=>by rw[show j=lo+k-1 by lia]
 refine ez (λx r H=>∃e,r=(B',x,e)/\Bs κ P lo b H/\e+1<=x/\Dn O ky lo (arrOf H) x/\P5 O ky lo (arrOf H) x e) #[0,rfl,h,⋯,hd,one _ _ Z] (λx r H p D1 o=>?_) λr H o=>?_
 ·obtain⟨e,rfl,h,he,hd,K⟩:=o;have u:=h.size;dsimp only;refine W8<|jy T L h ⋯ ⋯ ?_;dsimp only;cases c:O.blt (ky<|kas_item (arrOf H)<|lo+x) (ky<|kas_item (arrOf H)<|lo+x-1) with
  |true=>
   rw[aaf rfl];have Y:=hd.succ ⋯ (Yx c);by_cases d:e>0
   ·rw[aaf d];refine W8<|qP<|Xc #[rfl,0,rfl,h.rev ⋯ ⋯,⋯,?_,one _ _ ⋯];exact Dn.of (AL ⋯ K) Y
   ·rw[aae d];exact Xc #[rfl,0,rfl,h,⋯,Y,one _ _ ⋯]
  |false=>
   rw[aae (by simp)];refine W8<|jy T L h ⋯ ⋯ ?_;dsimp only;cases d:O.blt (ky<|kas_item (arrOf H)<|lo+x-1) (ky<|kas_item (arrOf H)<|lo+x) with
   |true=>rw[aaf rfl];exact Xc #[rfl,q H x e h p ⋯ he hd K]
   |false=>
    rw[aae (by simp)];have U:=O.total _ _ c d;refine Xc #[rfl,e+1,rfl,h,⋯,hd.succ ⋯ (by rw[U];exact Yy _),λk k1 k2=>?_];rw[show lo+(x+1)-1=lo+x by lia];by_cases z:k=lo+x
    ·rw[z]
    ·rw[K k ⋯ ⋯,U]
 ·obtain⟨e,rfl,h,he,hd,K⟩:=o;rw[show max n m=m by lia]at hd K he ⊢;exact q H m e h I (W9 _) he hd K
theorem GN(T:Tells prog w A κ s O ky Mem)(L:∀x∈b.toList,Mem x){st:SortSt}(h:Bs κ P lo b st)(g:lo+m<=b.size)(Z:1<=n)(I:n<=m)(hd:Dn O ky lo (arrOf st) n)
  (q:∀H k,Bs κ P lo b H->1<=k->k<=m->Up O ky lo (arrOf H) k->Q (y' k) H s):kasC (model prog w) A E (t3 lo n m) Q st s:=by
 have u:=h.size;refine W8<|qP<|W8<|FK T L (h.rev (W9 _) ⋯) g Z I (Ko ⋯ hd) λk k1 k2 j _=>?_;exact Xc<|q _ k (h.rev (W9 _) ⋯) ⋯ k2 j
theorem F4(T:Tells prog w A κ s O ky Mem)(L:∀x∈b.toList,Mem x){st:SortSt}(h:Bs κ P lo b st)(g:lo+m<=b.size)(Z:1<=n)(I:n+1<=m)(hd:Dn O ky lo (arrOf st) (n+1))
  (q:∀H k,Bs κ P lo b H->1<=k->k<=m->Up O ky lo (arrOf H) k->Q (y' k) H s):kasC (model prog w) A E (dP lo n m) Q st s:=by
 refine W8<|aai<|aaB ?_;refine W8<|Lx T L h g ⋯ I hd λH k e y k1 k2 v kd a=>?_;have u:=y.size;by_cases d:e>0
 ·rw[aaf d];exact W8<|qP<|GN T L (y.rev ⋯ ⋯) g ⋯ k2 (Dn.of (AL ⋯ a) kd) q
 ·rw[aae d];exact GN T L y g ⋯ k2 kd q
theorem Lr(T:Tells prog w A κ s O ky Mem)(L:∀x∈b.toList,Mem x){st:SortSt}(h:Bs κ P lo b st)(g:lo+m<=b.size)(Z:1<=m)
  (q:∀H k,Bs κ P lo b H->1<=k->k<=m->Up O ky lo (arrOf H) k->Q (y' k) H s):kasC (model prog w) A E (countRun' lo m) Q st s:=by
 rw[Lq];have u:=h.size;refine W8<|FK T L h g (W9 _) Z (Up.one _) λn K n2 a nl=>?_;by_cases e:(n==m)=G'
 ·rw[aaf e];exact Xc<|q _ n h K n2 a
 ·rw[aae e];have J:n≠m:=by simpa using e
  have t:=nl ⋯;by_cases I:n>1
  ·rw[aaf I];refine W8<|jy T L h ⋯ ⋯ ?_;dsimp only;cases c:O.blt (ky<|kas_item (arrOf st) lo) (ky<|kas_item (arrOf st)<|lo+n-1) with
   |true=>rw[aaf rfl];exact Xc<|q _ n h K n2 a
   |false=>
    rw[aae (by simp)];have all:∀k,lo<=k->k<lo+n->ky (kas_item (arrOf st) k)=ky (kas_item (arrOf st)<|lo+n-1):=λk k1 k2=>by refine KeyOrd.kle_antisymm (a k (lo+n-1) k1 ⋯ ⋯) (Xv (c)<|a lo k (W9 _) k1 k2)
    refine W8<|qP<|F4 T L (h.rev (W9 _) ⋯) g K ⋯ (Dn.of (AL ⋯ all)<|Dn.succ (λi j hi gk F=>?_) K<|Yx t) q;rw[all i hi ⋯,all j ⋯ F];exact Yy _
  ·rw[aae I];have e1:n=1:=⋯
   subst e1;exact F4 T L h g K ⋯ (Dn.succ (Dn.one _) K<|Yx t) q
theorem Nq(T:Tells prog w A κ s O ky Mem)(L:∀x∈b.toList,Mem x){st:SortSt}(h:Bs κ P lo b st)(g:lo+k<b.size)(J:Up O ky lo (arrOf st) k)
  (q:∀l r,l<=k->(∀i,lo<=i->i<lo+l->O.kle (ky<|kas_item (arrOf st) i) (ky<|kas_item (arrOf st)<|lo+k))->(∀i,lo+l<=i->i<lo+k->O.klt (ky<|kas_item (arrOf st)<|lo+k) (ky<|kas_item (arrOf st) i))->Q (B',l,r) st s):kasC (model prog w) A E (pL lo k) Q st s:=by
 refine ez (λx c H=>st=H/\∃l r,c=(B',l,r)/\l<=r/\r<=k/\r-l<=k-x/\(∀i,lo<=i->i<lo+l->O.kle (ky<|kas_item (arrOf st) i) (ky<|kas_item (arrOf st)<|lo+k))/\(∀i,lo+r<=i->i<lo+k->O.klt (ky<|kas_item (arrOf st)<|lo+k) (ky<|kas_item (arrOf st) i)))
  #[rfl,0,k,rfl,⋯,⋯,⋯,λi a c=>absurd a ⋯,λi a c=>absurd a ⋯] (λx r H p Z o=>?_) (λr H o=>?_)
 ·obtain⟨rfl,l,r,rfl,u,j,rl,z,I⟩:=o;dsimp only;by_cases c:l>=r
  ·rw[aaf c];have e:l=r:=⋯
   subst e;exact Xc #[rfl,q l l j z I]
  ·rw[aae c];refine W8<|jy T L h ⋯ ⋯ ?_;dsimp only;cases d:O.blt (ky<|kas_item (arrOf st)<|lo+k) (ky<|kas_item (arrOf st)<|lo+(l+r)/2) with
   |true=>rw[aaf rfl];exact Xc #[rfl,rfl,l,(l+r)/2,rfl,⋯,⋯,⋯,z,λi i1 i2=>YA d<|J _ _ ⋯ i1 i2]
   |false=>rw[aae (by simp)];exact Xc #[rfl,rfl,(l+r)/2+1,r,rfl,⋯,⋯,⋯,λi i1 i2=>Xv (J i (lo+(l+r)/2) i1 ⋯ ⋯) d,I]
 ·obtain⟨rfl,l,r,rfl,u,j,rl,z,I⟩:=o;have e:l=r:=⋯
  subst e;exact q l l j z I
theorem Ld(T:Tells prog w A κ s O ky Mem)(L:∀x∈b.toList,Mem x){st:SortSt}(h:Bs κ P lo b st)(g:lo+n<=b.size)(Z:1<=k)(hk:k<=n)(J:Up O ky lo (arrOf st) k)
  (q:∀H,Bs κ P lo b H->Up O ky lo (arrOf H) n->Q G' H s):kasC (model prog w) A E (binarySort' lo n k) Q st s:=by
 rw[Lc];refine W8<|ez (λx c H=>c=(B',())/\Bs κ P lo b H/\Up O ky lo (arrOf H) x) #[rfl,h,by rw[show max k 1=k by lia];exact J] (λx r H p D1 o=>?_) λr H o=>?_
 ·obtain⟨rfl,h,J⟩:=o;have u:=h.size;refine W8<|Nq T L h ⋯ J λl r W z I=>?_;rw[moveDown'_eq];refine W8<|aaj<|Xc #[rfl,rfl,h.UA ⋯ ⋯,λi j hi K F=>?_];rw[mU ⋯ ⋯,mU ⋯ ⋯,show lo+x-(lo+x-(lo+l))=lo+l by lia]
  repeat' split
  all_goals first
   |(exfalso;lia)
   |exact Yy _
   |exact z _ ⋯ ⋯
   |exact Yx<|I _ ⋯ ⋯
   |exact J _ _ ⋯ ⋯ ⋯
 ·obtain⟨rfl,h,J⟩:=o;rw[show max (max k 1) n=n by lia]at J;exact Xc<|q _ h J
end
def T8(size pw:Nat):StateT SortSt Sem (Option Unit×Unit):=
 forIn [:size] ((B',()):Option Unit×Unit) λ_ _=>do
  let st<-get
  match (if (pendingOf st).size>1 then(pendingOf st)[(pendingOf st).size-2]? else B') with
  |some (_,_,older)=>
   if older<=pw then pure (.done (B',())) else do
    let ok<-MW ((pendingOf st).size-2)
    if (!ok)=G' then pure (.done (y' (),())) else pure (.yield (B',()))
  |_=>pure<|.done (B',())
def Qi(size lo n:Nat):StateT SortSt Sem (ForInStep<|Option Unit×Nat):=do
 let st<-get
 match (pendingOf st).back? with
 |some (s1,n1,_)=>do
  let r<-T8 size (power' size (2*s1+n1) (2*s1+n1+n1+n) size)
  match r.1 with
  |some v=>pure<|.done (y' v,lo)
  |none=>do
   modify λs=>setPending s ((pendingOf s).modify ((pendingOf s).size-1) λ(st,len,_)=>(st,len,power' size (2*s1+n1) (2*s1+n1+n1+n) size))
   modify λs=>setPending s ((pendingOf s).push (lo,n,0))
   pure (.yield (B',lo+n))
 |_=>do
  modify λs=>setPending s ((pendingOf s).push (lo,n,0))
  pure (.yield (B',lo+n))
def Oi(size mr lo:Nat):StateT SortSt Sem (ForInStep<|Option Unit×Nat):=
 if lo>=size then pure (.done (B',lo)) else do
  let f<-countRun' lo (size-lo)
  match f with
  |some n=>
   if n<mr then do
    rule "list.sort.binary-insertion"
    let ok<-binarySort' lo (min (size-lo) mr) n
    if (!ok)=G' then pure (.done (y' (),lo)) else Qi size lo (min (size-lo) mr)
   else Qi size lo n
  |_=>pure<|.done (y' (),lo)
def ix(p:Array (Nat×Nat×Nat)):Nat:=if (if p.size-2>0 then p[p.size-2-1]?.map (·.2.1) else B').any (· < (p[p.size-2+1]?.elim 0 (·.2.1))) then p.size-2-1 else p.size-2
def RF(size:Nat):StateT SortSt Sem (Option Unit×Unit):=
 forIn [:size] ((B',()):Option Unit×Unit) λ_ _=>do
  let st<-get
  if (pendingOf st).size<=1 then pure (.done (B',())) else do
   let ok<-MW (ix<|pendingOf st)
   if (!ok)=G' then pure (.done (y' (),())) else pure (.yield (B',()))
def sR:StateT SortSt Sem Unit:=do
 let st<-get
 let r<-forIn [:(arrOf st).size] ((B',0):Option Unit×Nat) λ_ r=>Oi (arrOf st).size (minRun' (arrOf st).size (arrOf st).size 0) r.2
 match r.1 with
 |some v=>pure v
 |none=>do
  let r<-RF (arrOf st).size
  match r.1 with
  |some v=>pure v
  |none=>pure ()
theorem NN:sortRuns'=sR:=by kernel_rfl
section
variable{O:KeyOrd}{ky:Keyed->O.α}
theorem Up.Oh(I:b.size=n)(h:Up O ky 0 b n):jc O ky b.toList:=by
 refine Zr.mpr λi j hi F K=>?_
 have e:∀k,(h:k<b.size)->kas_item b k=b.toList[k]'(by simpa using h):=λk h=>by unfold kas_item;simp[h]
 have l:j<b.size:=by simpa using F
 rw[<-e i ⋯,<-e j l];exact h i j ⋯ ⋯ ⋯
end
section
variable{O:KeyOrd}{ky:Keyed->O.α}{Mem:Keyed->Prop}
variable{prog:Program}{w:World}{A:Around}{E:Value->Shared->Prop}{κ:SortKind}{s:Shared}
theorem item_list(b)(t):kas_item b t=b.toList.getD t (Value.none,Value.none):=by unfold kas_item;simp[Array.getD];split<;>simp_all
theorem J9(h:jc O ky l)(K:i<=j)(F:j<l.length):le O ky (l.getD i (Value.none,Value.none)) (l.getD j (Value.none,Value.none)):=by
 rcases Nat.lt_or_ge i j with c|c
 ·have:=Zr.mp h i j ⋯ F c;rw[YU,YU,Xs F,Xs ⋯];exact this
 ·have e:i=j:=⋯
  subst e;exact Yy _
theorem A0{l m:List Keyed}(h:i<l.length):(l++m).getD i d=l.getD i d:=by rw[YU,YU,XO h]
theorem A2{l m:List Keyed}(h:l.length<=i):(l++m).getD i d=m.getD (i-l.length) d:=by rw[YU,YU,XQ h]
theorem CH{f g:Nat->Keyed}(P:k<=n1)(E:m<=n2)(Y:1<=n2)(Z:1<=n1)
  (x:∀i j,p<=i->i<=j->j<p+n1->le O ky (f i) (f j)) (r:∀i j,p+n1<=i->i<=j->j<p+n1+n2->le O ky (f i) (f j))
  (lo:∀t,p<=t->t<p+k->le O ky (f t) (f<|p+n1)) (B:∀t,p+n1+m<=t->t<p+n1+n2->le O ky (f<|p+n1-1) (f t))
  (s:∀t,t<p+k->g t=f t) (q:∀t,p+n1+m<=t->g t=f t) (l:∀i j,p+k<=i->i<=j->j<p+n1+m->le O ky (g i) (g j))
  (mem:∀t,p+k<=t->t<p+n1+m->∃u,p+k<=u/\u<p+n1+m/\g t=f u) (i j) (hi:p<=i) (K:i<=j) (F:j<p+(n1+n2)):le O ky (g i) (g j):=by
 have o:∀i u,p<=i->i<p+k->p+k<=u->u<p+n1+n2->le O ky (f i) (f u):=λi u a b c d=>by
  by_cases e:u<p+n1
  ·exact x i u a ⋯ e
  ·exact Xv (lo i a b) (r (p+n1) u (W9 _) ⋯ d)
 have U:∀u j,p<=u->u<p+n1+m->p+n1+m<=j->j<p+n1+n2->le O ky (f u) (f j):=λu j a b c d=>by
  by_cases e:u<p+n1
  ·exact Xv (x u (p+n1-1) a ⋯ ⋯)<|B j c d
  ·exact r u j ⋯ ⋯ d
 by_cases v:i<p+k
 ·rw[s i v];by_cases X:j<p+n1+m
  ·by_cases H:j<p+k
   ·rw[s j H];exact x i j hi K ⋯
   ·obtain⟨u,h,y,e⟩:=mem j ⋯ X;rw[e];exact o i u hi v h ⋯
  ·rw[q j ⋯];exact o i j hi v ⋯ ⋯
 ·by_cases X:j<p+n1+m
  ·exact l i j ⋯ K X
  ·rw[q j ⋯];by_cases H:i<p+n1+m
   ·obtain⟨u,h,y,e⟩:=mem i ⋯ H;rw[e];exact U u j ⋯ y ⋯ ⋯
   ·rw[q i ⋯];exact r i j ⋯ K ⋯
theorem Dp(h:c+v.toList.length=d)(hd:d<=a.size):(back v c a).toList=a.toList.take c++v.toList++a.toList.drop d/\(∀t,t<c->kas_item (back v c a) t=kas_item a t)/\
  (∀t,d<=t->kas_item (back v c a) t=kas_item a t)/\∀t,c<=t->t<d->kas_item (back v c a) t=v.toList.getD (t-c) (Value.none,Value.none):=by
 have bl:(back v c a).toList=a.toList.take c++v.toList++a.toList.drop d:=by refine(oN v.toList c 0 a ⋯).trans ?_;rw[Nat.add_zero,h]
 have W:(a.toList.take c).length=c:=by rw[Y8,Xo];lia
 refine#[bl,λt J=>?_,λt J=>?_,λt n k=>?_]
 ·rw[item_list,item_list,bl,Xi,A0 ⋯,YU,YU,YX J]
 ·have e:(a.toList.take c++v.toList).length=d:=by rw[Xk,W,h]
  rw[item_list,item_list,bl,A2 ⋯,e,YU,YU,List.getElem?_drop,Nat.add_sub_cancel' J]
 ·rw[item_list,bl,Xi,A2 ⋯,W,A0 ⋯]
theorem Ct(L:∀i j,i<j->j<b.size->le O ky (kas_item b i) (kas_item b j)):jc O ky b.toList:=by
 refine Zr.mpr λi j hi F K=>?_
 have e:∀k,(h:k<b.size)->kas_item b k=b.toList[k]'(by simpa using h):=λk h=>by unfold kas_item;simp[h]
 rw[<-e i (by simpa using hi),<-e j (by simpa using F)];exact L i j K (by simpa using F)
theorem sQ(h:c+t<d)(hd:d<=a.size):kas_item (a.extract c d) t=kas_item a (c+t):=by unfold kas_item;simp[show t<d-c by lia,show c+t<a.size by lia,show min d a.size=d by lia]
theorem Dq(kP:p+n1+n2<=a.size)(P:k<=n1)(E:m<=n2)(Y:1<=n2)(Z:1<=n1)
  (x:∀i j,p<=i->i<=j->j<p+n1->le O ky (kas_item a i) (kas_item a j)) (r:∀i j,p+n1<=i->i<=j->j<p+n1+n2->le O ky (kas_item a i) (kas_item a j))
  (lo:∀t,p<=t->t<p+k->le O ky (kas_item a t) (kas_item a<|p+n1)) (B:∀t,p+n1+m<=t->t<p+n1+n2->le O ky (kas_item a<|p+n1-1) (kas_item a t))
  (M:um O ky (a.extract (p+k)<|p+n1).toList (a.extract (p+n1)<|p+n1+m).toList v.toList):
  (back v (p+k) a).toList.Perm a.toList/\Up O ky p (back v (p+k) a) (n1+n2)/\∀t,t<p\/p+n1+n2<=t->kas_item (back v (p+k) a) t=kas_item a t:=by
 obtain⟨g,U⟩:=M;have e:a.extract (p+k) (p+n1)++a.extract (p+n1) (p+n1+m)=a.extract (p+k) (p+n1+m):=by rw[Array.extract_append_extract,Nat.min_eq_left (show p+k<=p+n1 by lia),Nat.max_eq_right (show p+n1<=p+n1+m by lia)]
 rw[<-XY,e]at g;have o:v.toList.length=p+n1+m-(p+k):=by rw[g.length_eq,Xo,Array.size_extract_of_le ⋯]
 have H:=wq a (k:=p+k) (i:=p+n1+m);obtain⟨bl,s,q,b⟩:=Dp (v:=v) (a:=a) (c:=p+k) (d:=p+n1+m) ⋯ ⋯;refine#[?_,CH P E Y Z x r lo B s q (λi j i1 z j1=>?_) λt n t2=>?_,λt J=>?_]
 ·rw[bl];have b1:=l9 (l:=a.toList) (i:=p+n1+m) (k:=p+k) ⋯;rw[<-H]at b1;have b2:=Zy (p+k) a.toList;rw[b1,<-Xi]at b2;exact(((YC _).append g).append<|YC _).trans<|.of_eq b2
 ·rw[b i i1 ⋯,b j ⋯ j1];exact J9 U ⋯ ⋯
 ·rw[b t n t2];have W:t-(p+k)<v.toList.length:=⋯
  have K:v.toList.getD (t-(p+k)) (Value.none,Value.none)∈v.toList:=by rw[YU,Xs W];exact YY _
  have K:=g.mem_iff.mp K;rw[H]at K;obtain⟨u,h,y,w,e⟩:=bg K;exact#[u,h,⋯,e]
 ·rcases J with J|J
  ·exact s t ⋯
  ·exact q t ⋯
theorem Ai(h:iG O ky J' k g i=b):O.blt (ky k) (ky<|g i)= !b:=by have h:(!O.blt (ky k) (ky<|g i))=b:=h;rw[<-h,Bool.not_not]
theorem RD(T:Tells prog w A κ s O ky Mem)(Va:P[i]?=y' (p,n1,pw))(I:P[i+1]?=y' (p+n1,n2,z))(u:p+n1+n2<=a.size)(Z:1<=n1)(Y:1<=n2)(hm:∀i,i<a.size->Mem (kas_item a i))
  (x:∀i j,p<=i->i<=j->j<p+n1->le O ky (kas_item a i) (kas_item a j)) (r:∀i j,p+n1<=i->i<=j->j<p+n1+n2->le O ky (kas_item a i) (kas_item a j))
   (q:∀H:SortSt,kindOf H=κ->pendingOf H=(P.setIfInBounds i (p,n1+n2,pw)).eraseIdxIfInBounds (i+1)->failedOf H=B'->(arrOf H).toList.Perm a.toList->Up O ky p (arrOf H) (n1+n2)->
   (∀t,t<p\/p+n1+n2<=t->kas_item (arrOf H) t=kas_item a t)->Q G' H s):
  kasC (model prog w) A E (MW i) Q (SortSt.mk' κ a P g B') s:=by
 rw[IQ];refine W8<|aah ?_;have e0:=Va;have e1:=I;rw[e0,e1];refine W8<|Bq ?_;refine W8<|aS (aK<|show p+n1<a.size by lia)<|W8 ?_;refine jY T (λt=>kas_item a<|p+t) (λt J=>aK ⋯) (λt J=>hm _ ⋯) (hm (p+n1) ⋯) ⋯ (λi j K F L=>(X8 _).mpr<|Xv (x (p+i) (p+j) ⋯ ⋯ ⋯)<|Ai L) rfl (λk hk1 cO oh=>?_);have lo:∀t,p<=t->t<p+k->le O ky (kas_item a t) (kas_item a<|p+n1):=λt h0 J=>by have b:=Ai<|cO (t-p) ⋯;rwa [Nat.add_sub_cancel' h0]at b
 have up:∀t,p+k<=t->t<p+n1->O.blt (ky<|kas_item a<|p+n1) (ky<|kas_item a t)=G':=λt Z Y=>by have b:=Ai<|oh (t-p) ⋯ ⋯;rwa [Nat.add_sub_cancel' (show p<=t by lia)]at b
 dsimp only;by_cases c:n1-k=0
 ·rw[aaf (beq_iff_eq.mpr c)];refine Xc<|q _ rfl rfl rfl (YC _) (λi j hi K F=>?_) λt _=>rfl;by_cases ci:j<p+n1
  ·exact x i j hi K ci
  ·by_cases cj:i<p+n1
   ·exact Xv (lo i hi ⋯)<|r (p+n1) j (W9 _) ⋯ ⋯
   ·exact r i j ⋯ ⋯ ⋯
 ·rw[aae (λe=>c<|beq_iff_eq.mp e)];have el:p+k+(n1-k)=p+n1:=⋯
  rw[el];refine W8<|aS (aK<|show p+n1-1<a.size by lia)<|W8 ?_;refine jY T (λt=>kas_item a<|p+n1+t) (λt J=>aK ⋯) (λt J=>hm _ ⋯) (hm _ ⋯) ⋯ (λi j K F L=>by
   exact Yz (r (p+n1+i) (p+n1+j) ⋯ ⋯ ⋯) L) rfl (λm hm1 y n=>?_)
  have B:∀t,p+n1+m<=t->t<p+n1+n2->le O ky (kas_item a<|p+n1-1) (kas_item a t):=λt Z Y=>by have b:O.blt (ky<|kas_item a<|p+n1+(t-(p+n1))) (ky<|kas_item a<|p+n1-1)=J':=n (t-(p+n1)) ⋯ ⋯;rw[Nat.add_sub_cancel' (show p+n1<=t by lia)]at b;exact b
  have h:m≠0:=λe=>KeyOrd.not_klt_of_kle (B (p+n1) ⋯ ⋯) (up (p+n1-1) ⋯ ⋯)
  dsimp only;rw[aae (λe=>h<|beq_iff_eq.mp e)];have l:(a.extract (p+k)<|p+n1).size=n1-k:=(Array.size_extract_of_le ⋯).trans<|Nat.add_sub_add_left ..;have S:(a.extract (p+n1)<|p+n1+m).size=m:=(Array.size_extract_of_le ⋯).trans<|Nat.add_sub_cancel_left ..;have gx:∀t,t<n1-k->kas_item (a.extract (p+k)<|p+n1) t=kas_item a (p+k+t):=λt J=>sQ ⋯ ⋯
  have o:∀t,t<m->kas_item (a.extract (p+n1)<|p+n1+m) t=kas_item a (p+n1+t):=λt J=>sQ ⋯ ⋯
  have W:MP O ky Mem (a.extract (p+k)<|p+n1) (a.extract (p+n1)<|p+n1+m):=by
   refine#[Ct λi j K F=>?_,Ct λi j K F=>?_,λi hi=>?_,λi hi=>?_,⋯,⋯,?_,λj F=>?_]
   ·rw[l]at F;rw[gx i ⋯,gx j F];exact x _ _ ⋯ ⋯ ⋯
   ·rw[S]at F;rw[o i ⋯,o j F];exact r _ _ ⋯ ⋯ ⋯
   ·rw[l]at hi;rw[gx i hi];exact hm _ ⋯
   ·rw[S]at hi;rw[o i hi];exact hm _ ⋯
   ·rw[gx 0 ⋯,o 0 ⋯];exact up (p+k) (W9 _) ⋯
   ·rw[S]at F;rw[l,gx (n1-k-1) ⋯,o j F,show p+k+(n1-k-1)=p+n1-1 by lia];exact y j F
  have fin:∀(v:Array Keyed)(H:SortSt),SI (SortSt.mk' κ a ((P.setIfInBounds i (p,n1+n2,pw)).eraseIdxIfInBounds<|i+1) g B') H->um O ky (a.extract (p+k)<|p+n1).toList (a.extract (p+n1)<|p+n1+m).toList v.toList->
    kasC (model prog w) A E (do
     modify λt=>SortSt.mk' (kindOf t) (back v (p+k)<|arrOf t) (pendingOf t) (gallopOf t) (failedOf t)
     let t<-get
     pure (failedOf t).isNone) Q H s:=λv H#[k1,k2,k3,X]M=>by
   obtain⟨pm,ss,U⟩:=Dq u ⋯ ⋯ Y Z x r lo B M;refine W8<|aaj<|W8<|aah<|Xc ?_;have k2:arrOf H=a:=k2;rw[<-k2]at pm ss U;have qq:=q (SortSt.mk' (kindOf H) (back v (p+k)<|arrOf H) (pendingOf H) (gallopOf H)<|failedOf H) k1 k3 X (by rw[k2]at pm ⊢;exact pm) ss (by rw[k2]at U ⊢;exact U);have e:(failedOf H).isNone=G':=by rw[X];rfl
   rw[e];exact qq
  by_cases d:n1-k<=m
  ·rw[aaf d];exact W8<|En T W rfl fin
  ·rw[aae d];exact W8<|El T W rfl fin
end
section
variable{O:KeyOrd}{ky:Keyed->O.α}{Mem:Keyed->Prop}
variable{prog:Program}{w:World}{A:Around}{E:Value->Shared->Prop}{κ:SortKind}{s:Shared}{a:Array Keyed}
def Rn(O:KeyOrd)(ky:Keyed->O.α)(b:Array Keyed):List (Nat×Nat×Nat)->Nat->Nat->Prop
 |[],lo,hi=>lo=hi
 |x::r,lo,hi=>x.1=lo/\1<=x.2.1/\Up O ky lo b x.2.1/\Rn O ky b r (lo+x.2.1) hi
theorem Rn.le:∀{l:List (Nat×Nat×Nat)}{lo hi:Nat},Rn O ky b l lo hi->lo+l.length<=hi
 |[],lo,hi,h=>by have h:lo=hi:=h;simp;lia
 |x::r,lo,hi,h=>by
  obtain⟨_,Y,_,Q⟩:=h;have:=Rn.le Q;simp only[Xm]
  lia
theorem Rn.app:∀{l m:List (Nat×Nat×Nat)}{lo hi:Nat},Rn O ky b (l++m) lo hi↔∃k,Rn O ky b l lo k/\Rn O ky b m k hi
 |[],m,lo,hi=>#[λh=>#[lo,rfl,h],λ#[k,Z,Y]=>by have Z:=Z;subst Z;exact Y]
 |x::r,m,lo,hi=>by
  constructor
  ·rintro⟨Z,Y,u,Q⟩;obtain⟨k,k1,k2⟩:=Rn.app.mp Q;exact#[k,#[Z,Y,u,k1],k2]
  ·rintro⟨k,⟨Z,Y,u,Q⟩,k2⟩;exact#[Z,Y,u,Rn.app.mpr #[k,Q,k2]]
theorem Rn.congr:∀{l:List (Nat×Nat×Nat)}{lo hi:Nat},Rn O ky b l lo hi->(∀t,lo<=t->t<hi->kas_item c t=kas_item b t)->Rn O ky c l lo hi
 |[],lo,hi,h,_=>h
 |x::r,lo,hi,#[Z,Y,u,Q],e=>by have W:=Rn.le Q;refine#[Z,Y,λi j hi K F=>?_,Rn.congr Q λt a b=>e t ⋯ b];rw[e i ⋯ ⋯,e j ⋯ ⋯];exact u i j hi K F
structure Ru(O:KeyOrd)(ky:Keyed->O.α)(κ:SortKind)(a:Array Keyed)(lo:Nat)(st:SortSt):Prop where
 k:kindOf st=κ
 f:failedOf st=B'
 pm:(arrOf st).toList.Perm a.toList
 rn:Rn O ky (arrOf st) (pendingOf st).toList 0 lo
theorem Ru.size{lo:Nat}{st:SortSt}(h:Ru O ky κ a lo st):(arrOf st).size=a.size:=by have:=h.pm.length_eq;simpa using this
theorem Ru.mem{lo:Nat}{st:SortSt}(h:Ru O ky κ a lo st)(L:∀x∈a.toList,Mem x)(hi:i<(arrOf st).size):Mem (kas_item (arrOf st) i):=by refine L _<|h.pm.mem_iff.mp ?_;unfold kas_item;simp[hi]
theorem J8{α:Type}{l:List α}(h:i+1<l.length):∃M x y m,l=M++x::y::m/\M.length=i:=by refine#[l.take i,l[i],l[i+1],l.drop<|i+2,?_,by rw[Y8];lia];rw[<-YJ h,<-YJ ⋯,Zy]
theorem uR{P:Array (Nat×Nat×Nat)}(h:P.toList=l1++x::y::l2)(hi:l1.length=i):((P.setIfInBounds i v).eraseIdxIfInBounds<|i+1).toList=l1++v::l2:=by
 have u:P.size=l1.length+(l2.length+2):=by
  have:=aab List.length h;simp at this
  lia
 have e1:(P.setIfInBounds i v).toList=l1++v::y::l2:=by rw[Array.toList_setIfInBounds,h,<-hi,List.set_append_right _ _ (W9 _)];simp
 unfold Array.eraseIdxIfInBounds;rw[dif_pos (by rw[Array.size_setIfInBounds];lia),Array.toList_eraseIdx,e1,<-hi];rw[List.eraseIdx_append_of_length_le ⋯];simp
theorem tO(T:Tells prog w A κ s O ky Mem)(L:∀x∈a.toList,Mem x){lo i:Nat}{st:SortSt}(h:Ru O ky κ a lo st)(oC:lo<=a.size)(hi:i+1<(pendingOf st).size)
  (q:∀H,Ru O ky κ a lo H->(pendingOf H).size+1=(pendingOf st).size->(∀t,lo<=t->kas_item (arrOf H) t=kas_item (arrOf st) t)->Q G' H s):kasC (model prog w) A E (MW i) Q st s:=by
 obtain⟨M,x,y,m,W,B⟩:=J8 (l:=(pendingOf st).toList) (by simpa using hi);have kP:=h.size;have rn:=h.rn;rw[W]at rn;obtain⟨p,r1,r2⟩:=Rn.app.mp rn;obtain⟨c,b,S⟩:=x;obtain⟨yp,K,yw⟩:=y;obtain⟨e1,o,U,e2,r,n,F⟩:=r2;subst e1 e2;have u:=F.le;simp only at o U r n F u;have Z:∀j,(pendingOf st)[j]?=(M++(c,b,S)::(c+b,K,yw)::m)[j]?:=λj=>by rw[<-W,Array.getElem?_toList]
 have I:(pendingOf st)[i]?=y' (c,b,S):=by rw[Z,XQ ⋯,show i-M.length=0 by lia];rfl
 have g2:(pendingOf st)[i+1]?=y' (c+b,K,yw):=by rw[Z,XQ ⋯,show i+1-M.length=1 by lia];rfl
 have P:st=SortSt.mk' κ (arrOf st) (pendingOf st) (gallopOf st) B':=by have e:st=SortSt.mk' (kindOf st) (arrOf st) (pendingOf st) (gallopOf st) (failedOf st):=rfl;rw[h.k,h.f]at e;exact e
 have z:=RD (E:=E) T (g:=gallopOf st) I g2 ⋯ o r (λi hi=>h.mem L hi) U n (Q:=Q) λH k1 k2 k3 X k5 Y=>?_
 ·rw[<-P]at z;exact z
 ·have k:=uR (v:=(c,b+K,S)) W B;refine q H #[k1,k3,X.trans h.pm,?_] ?_ λt J=>Y t<|.inr ⋯
  ·rw[k2,k];refine Rn.app.mpr #[c,r1.congr λt _ J=>Y t<|.inl J,rfl,by show 1<=b+K;lia,k5,?_];have:=F.congr λt J _=>Y t (.inr J)
   rw[Nat.add_assoc]at this;exact this
  ·rw[k2,<-Xo,k,<-Xo,W];simp
   lia
theorem JF(T:Tells prog w A κ s O ky Mem)(L:∀x∈a.toList,Mem x){lo size b:Nat}{st:SortSt}(h:Ru O ky κ a lo st)(z:lo<=a.size)(B:1<=(pendingOf st).size)
  (q:∀H,Ru O ky κ a lo H->1<=(pendingOf H).size->(∀t,lo<=t->kas_item (arrOf H) t=kas_item (arrOf st) t)->Q (B',()) H s):kasC (model prog w) A E (T8 size b) Q st s:=by
 refine ez (λ_ c H=>c=(B',())/\Ru O ky κ a lo H/\1<=(pendingOf H).size/\∀t,lo<=t->kas_item (arrOf H) t=kas_item (arrOf st) t) #[rfl,h,B,λ_ _=>rfl] (λx c H _ _ o=>?_) λc H o=>?_
 ·obtain⟨rfl,y,m,K⟩:=o;refine W8<|aah ?_;by_cases v:(pendingOf H).size>1
  ·rw[aaf v];have:(pendingOf H)[(pendingOf H).size-2]?=y' (pendingOf H)[(pendingOf H).size-2]:=by simp
   rw[this];dsimp only;by_cases X:(pendingOf H)[(pendingOf H).size-2].2.2<=b
   ·rw[aaf X];exact Xc #[rfl,q _ y m K]
   ·rw[aae X];refine W8<|tO T L y z ⋯ λP Y p e2=>?_;rw[aae (by simp)];exact Xc #[rfl,rfl,Y,⋯,λt J=>(e2 t J).trans<|K t J]
  ·rw[aae v];exact Xc #[rfl,q _ y m K]
 ·obtain⟨rfl,y,m,K⟩:=o;exact q _ y m K
theorem Rn.RP{lo hi:Nat}(h:Rn O ky b (l++[x]) lo hi)(e1:y.1=x.1)(e2:y.2.1=x.2.1):Rn O ky b (l++[y]) lo hi:=by obtain⟨k,k1,Z,Y,u,Q⟩:=Rn.app.mp h;exact Rn.app.mpr #[k,k1,e1.trans Z,by rw[e2];exact Y,by rw[e2];exact u,by rw[e2];exact Q]
theorem snoc{α:Type}{P:Array α}(h:1<=P.size):∃l x,P.toList=l++[x]/\P.back?=y' x:=by
 have o:P.toList≠[]:=λz=>by have:=aab List.length z;simp at this;rw[this]at h;simp at h
 refine#[P.toList.dropLast,P.toList.getLast o,(YI o).symm,?_];rw[<-Array.getLast?_toList,List.getLast?_eq_some_getLast o]
theorem kH{α:Type}(f):∀(l:List α)(x:α),(l++[x]).modify l.length f=l++[f x]
 |[],x=>rfl
 |y::l,x=>by show y::(l++[x]).modify l.length f=y::(l++[f x]);rw[kH f l x]
theorem zT(T:Tells prog w A κ s O ky Mem)(L:∀x∈a.toList,Mem x){size lo n:Nat}{st:SortSt}(h:Ru O ky κ a lo st)(z:lo<=a.size)(I:1<=n)(J:Up O ky lo (arrOf st) n)(h0:1<=(pendingOf st).size\/lo=0)
  (q:∀H,Ru O ky κ a (lo+n) H->1<=(pendingOf H).size->Q (.yield (B',lo+n)) H s):kasC (model prog w) A E (Qi size lo n) Q st s:=by
 refine W8<|aah ?_;by_cases B:1<=(pendingOf st).size
 ·obtain⟨l,x,W,c⟩:=snoc B;rw[c];obtain⟨s1,K,w1⟩:=x;refine W8<|JF T L h z B λP Y p2 e2=>?_;obtain⟨m,U,gp,o⟩:=snoc p2;have b:(pendingOf P).size=m.length+1:=by
   have:=aab List.length gp;simp at this
   lia
  refine W8<|aaj<|W8<|aaj<|Xc<|q _ #[Y.k,Y.f,Y.pm,?_] ?_
  ·show Rn O ky (arrOf P) (((pendingOf P).modify ((pendingOf P).size-1) _).push (lo,n,0)).toList 0 (lo+n);rw[Array.toList_push,Array.toList_modify,gp,b];have em:(m++[U]).modify (m.length+1-1) (λx=>(x.1,x.2.1,power' size (2*s1+K) (2*s1+K+K+n) size))=m++[(U.1,U.2.1,power' size (2*s1+K) (2*s1+K+K+n) size)]:=by rw[Nat.add_sub_cancel];exact kH _ _ _
   rw[show (λx=>match x with|(st,len,_)=>(st,len,power' size (2*s1+K) (2*s1+K+K+n) size))=λ(x:Nat×Nat×Nat)=>(x.1,x.2.1,power' size (2*s1+K) (2*s1+K+K+n) size) from rfl,em];have rn:=Y.rn;rw[gp]at rn;refine Rn.app.mpr #[lo,rn.RP rfl rfl,rfl,I,λi j hi gk F=>?_,rfl];rw[e2 i hi,e2 j ⋯];exact J i j hi gk F
  ·show 1<=(((pendingOf P).modify ((pendingOf P).size-1) _).push (lo,n,0)).size;rw[Array.size_push]
   lia
 ·have g:(pendingOf st).size=0:=⋯
  have e:(pendingOf st).back?=B':=by rw[Array.back?_eq_none_iff];exact XW g
  rw[e];have k:=h0.resolve_left B;subst k;refine W8<|aaj<|Xc<|q _ #[h.k,h.f,h.pm,?_] ?_
  ·show Rn O ky (arrOf st) ((pendingOf st).push (0,n,0)).toList 0 (0+n);rw[Array.toList_push,XW g];exact#[rfl,I,J,rfl]
  ·show 1<=((pendingOf st).push (0,n,0)).size;rw[Array.size_push]
   lia
theorem Kb(T:Tells prog w A κ s O ky Mem)(L:∀x∈a.toList,Mem x){mr lo:Nat}{st:SortSt}(h:Ru O ky κ a lo st)(z:lo<a.size)(hm:1<=mr)(h0:1<=(pendingOf st).size\/lo=0)
  (q:∀H n,1<=n->lo+n<=a.size->Ru O ky κ a (lo+n) H->1<=(pendingOf H).size->Q (.yield (B',lo+n)) H s):kasC (model prog w) A E (Oi a.size mr lo) Q st s:=by
 unfold Oi;rw[aae ⋯];have kP:=h.size;have r:∀x∈(arrOf st).toList,Mem x:=λx U=>L x (h.pm.mem_iff.mp U)
 have K:Bs κ (pendingOf st) lo (arrOf st) st:=#[h.k,h.f,rfl,YC _,λ_ _=>rfl];have l:∀{H:SortSt},Bs κ (pendingOf st) lo (arrOf st) H->Ru O ky κ a lo H:=λb=>#[b.k,b.f,b.pm.trans h.pm,by rw[b.p];exact h.rn.congr λt _ J=>b.lw t J]
 refine W8<|Lr T r K ⋯ ⋯ λH k i k1 k2 j=>?_;dsimp only;by_cases c:k<mr
 ·rw[aaf c];refine W8<|aai<|aaB ?_;refine W8<|Ld T r i ⋯ k1 ⋯ j λP b2 y=>?_;rw[aae (by simp)];exact zT T L (l b2) ⋯ ⋯ y (by rw[b2.p];exact h0) λg u B=>q g _ ⋯ ⋯ u B
 ·rw[aae c];exact zT T L (l i) ⋯ ⋯ j (by rw[i.p];exact h0) λg u B=>q g _ ⋯ ⋯ u B
theorem MK(h:1<P.size):ix P+1<P.size:=by
 have key:ix P=P.size-2-1\/ix P=P.size-2:=by
  unfold ix;generalize Option.any _ _=b;cases b
  ·exact .inr rfl
  ·exact .inl rfl
 rcases key with e|e<;>omega
theorem IW(T:Tells prog w A κ s O ky Mem)(L:∀x∈a.toList,Mem x){st:SortSt}(h:Ru O ky κ a a.size st)
  (q:∀H,Ru O ky κ a a.size H->(pendingOf H).size<=1->Q (B',()) H s):kasC (model prog w) A E (RF a.size) Q st s:=by
 have u:=h.rn.le;simp at u;refine ez (λx c H=>c=(B',())/\Ru O ky κ a a.size H/\(pendingOf H).size<=max 1 (a.size-x)) #[rfl,h,⋯] (λx c H _ U o=>?_) λc H o=>?_
 ·obtain⟨rfl,y,B⟩:=o;refine W8<|aah ?_;by_cases v:(pendingOf H).size<=1
  ·rw[aaf v];exact Xc #[rfl,q _ y v]
  ·rw[aae v];refine W8<|tO T L y (W9 _) (MK ⋯) λP Y p _=>?_;rw[aae (by simp)];exact Xc #[rfl,rfl,Y,⋯]
 ·obtain⟨rfl,y,B⟩:=o;exact q _ y ⋯
theorem mZ:∀(f n r:Nat),1<=n->1<=minRun' f n r
 |0,n,r,h=>by
  have e:minRun' 0 n r=n+r:=by kernel_rfl
  rw[e];lia
 |f+1,n,r,h=>by
  rw[minRun'_succ];split
  ·lia
  ·exact mZ f (n/2) _ ⋯
theorem JS(T:Tells prog w A κ s O ky Mem)(hb:∀x∈a.toList,Mem x)(h2:2<=a.size)
  (q:∀aq:SortSt,failedOf aq=B'->(arrOf aq).toList.Perm a.toList->jc O ky (arrOf aq).toList->Q () aq s):kasC (model prog w) A E sortRuns' Q (SortSt.mk' κ a #[] g B') s:=by
 rw[NN];refine W8 (aah ?_);have T3:=mZ a.size a.size 0 ⋯;show kasC _ _ _ (do
  let r<-forIn [:a.size] ((B',0):Option Unit×Nat) λ_ r=>Oi a.size (minRun' a.size a.size 0) r.2
  match r.1 with
  |some v=>pure v
  |none=>do
   let r<-RF a.size
   match r.1 with
   |some v=>pure v
   |none=>pure ()) _ _ _
 generalize minRun' a.size a.size 0=mr at T3 ⊢;refine W8 (bZ (Q:=λr aq s'=>s=s'/\r.1=B'/\Ru O ky κ a a.size aq) (ez (λx c aq=>∃lo,c=(B',lo)/\x<=lo/\lo<=a.size/\Ru O ky κ a lo aq/\(1<=(pendingOf aq).size\/lo=0)) #[0,rfl,W9 _,⋯,#[rfl,rfl,YC _,rfl],.inr rfl] (λx c aq _ hx hI=>?_) (λc aq hI=>?_)) (λr aq s' hI=>?_))
 ·obtain⟨lo,rfl,VU,oC,h,h0⟩:=hI;by_cases c:lo<a.size
  ·exact Kb T hb h c T3 h0 λeI n n1 n2 h2 p2=>#[rfl,lo+n,rfl,⋯,n2,h2,.inl p2]
  ·have e:lo=a.size:=⋯
   subst e;unfold Oi;rw[aaf (W9 _)];exact Xc #[rfl,rfl,rfl,h]
 ·obtain⟨lo,rfl,VU,oC,h,h0⟩:=hI;have e:lo=a.size:=⋯
  subst e;exact#[rfl,rfl,h]
 ·obtain⟨rfl,e,h⟩:=hI;obtain⟨r1,r2⟩:=r;cases e;refine W8 (IW T hb h λeI g1 g2=>Xc (q eI g1.f g1.pm ?_));have rn:=g1.rn
  match hl:(pendingOf eI).toList,rn with
  |[],rn=>have rn:0=a.size:=rn;lia
  |[x],rn=>obtain⟨_,_,u,e⟩:=rn;have e:0+x.2.1=a.size:=e;exact Up.Oh (g1.size.trans ⋯) u
  |x::y::r,_=>
   exfalso;have:=aab List.length hl;simp at this
   lia
end
end MxTim
end
section
namespace Mx
open PySem PySem.W PySem.Spec PyProof.Rows L2 PySem.SeqAt MxSort
theorem tq{α j:Type}{f:α->j}{l u:List j}(h:l.Perm u):∀r:List α,l=r.map f->∃p:List α,p.Perm r/\u=p.map f:=by
 induction h with
 |nil=>intro r e;exact#[r,YC _,e]
 |cons x h O=>
  intro r e;cases r with
  |nil=>cases e
  |cons y r=>injection e with e1 e2;obtain⟨p,o,p2⟩:=O r e2;exact#[y::p,o.cons y,by rw[XR,e1,p2]]
 |swap x y l=>
  intro r e;cases r with
  |nil=>cases e
  |cons a r=>
   cases r with
   |nil=>rw[XR]at e;injection e with e1 e2;cases e2
   |cons b r=>injection e with e1 e2;injection e2 with e3 e4;exact#[b::a::r,List.Perm.swap a b r,by rw[XR,XR,e1,e3,e4]]
 |trans Z Y g c=>intro r e;obtain⟨p,o,p2⟩:=g r e;obtain⟨q,S,A⟩:=c p p2;exact#[q,S.trans o,A]
section
variable{prog:Program}{w:World}{A:Around}{E:Value->Shared->Prop}{s:Shared}
def GY{O:KeyOrd}(U:List Value)(key:Nat->O.α):Prop:=∀i j,i<U.length->j<U.length->U.getD i Value.none=U.getD j Value.none->key i=key j
open Classical in
noncomputable def IG{O:KeyOrd}(vs:List Value)(key:Nat->O.α)(k:Keyed):O.α:=if h:∃i,i<vs.length/\vs.getD i Value.none=k.1 then key (Classical.choose h) else key 0
theorem lC{O:KeyOrd}{key:Nat->O.α}(hi:GY vs key)(h:i<vs.length)(v):IG vs key (vs.getD i Value.none,v)=key i:=by unfold IG;have ex:∃j,j<vs.length/\vs.getD j Value.none=((vs.getD i Value.none,v):Keyed).1:=#[i,h,rfl];rw[dif_pos ex];have z:=Classical.choose_spec ex;exact hi _ _ z.1 h z.2
theorem uh(U:List Value):(U.toArray.zip U.toArray).toList=(List.range U.length).map λi=>(U.getD i Value.none,U.getD i Value.none):=by
 refine List.ext_getElem (by simp) λi Z Y=>?_
 simp at Z;simp[Z]
theorem JQ{key:Nat->O.α}(T:Tells O key (kas_ask prog w A κ vs) vs.length s)(hi:GY vs key)(Y:2<=vs.length)(a:vs.length<1000000){Q:SortSt->Shared->Prop}
  (h:∀(p:Array Nat)(H:SortSt),Ord vs.length p->Up key p vs.length->(arrOf H).map (·.2)=(p.toList.map λi=>vs.getD i Value.none).toArray->failedOf H=B'->Q H s):
  wpAny (model prog w) A ((sortRuns').run<|SortSt.mk' κ (vs.toArray.zip vs.toArray) #[] 7 B') (λr S=>Q r.2 S) E s:=by
 have hz:(vs.toArray.zip vs.toArray).size=vs.length:=by simp
 have m:MxTim.Tells prog w A κ s O (IG vs key) (λk=>∃i,i<vs.length/\k=(vs.getD i Value.none,vs.getD i Value.none)):=by rintro x y ⟨i,q,rfl⟩ ⟨j,l,rfl⟩ C P;rw[lC hi q,lC hi l]at P;exact T i j q l C P
 have run:=MxTim.JS (E:=E) m (λx U=>by
   rw[uh]at U;obtain⟨i,i1,i2⟩:=XD.mp U;exact#[i,XU.mp i1,i2.symm]) (by omega) (g:=7) (Q:=λ_ H S=>Q H S) λH f pm Oh=>?_
 ·exact run
 ·rw[uh]at pm;obtain⟨p,o,p2⟩:=tq pm.symm (List.range vs.length) rfl;have W:p.length=vs.length:=by rw[o.length_eq,Y3]
  have t:∀i∈p,i<vs.length:=λi hi=>XU.mp (o.mem_iff.mp hi)
  refine h p.toArray H (by unfold MxSort.Ord;exact o) (λi j K F=>?_) ?_ f
  ·by_cases e:i=j
   ·subst e;exact Yy _
   ·unfold MxTim.jc at Oh;rw[p2,Zs,Zr]at Oh;have z:=Oh i j (by omega) (by omega) (by omega);unfold MxTim.le at z;rw[lC hi (t _<|YY _),lC hi (t _<|YY _)]at z;unfold Rw;rw[show p.toArray.getD i 0=p[i] by simp[show i<p.length by omega],show p.toArray.getD j 0=p[j] by simp[show j<p.length by omega]];exact z
  ·apply X0.mp;rw[Array.toList_map,p2,Zc];rfl
theorem Cq(ho:s.heap.get? a=y' (seqObj "list" vs.toArray n))(m:vs.length<1000000)
  (hk:2<=vs.length->∀y,(∀b o,b≠a->s.heap.get? b=y' o->y.get? b=y' o)->∃κ:SortKind,(∀(Q:SortKind->Shared->Prop)(E:Value->Shared->Prop),Q κ {s with heap:=y}->wpAny (model prog w) A (keyKind' vs.toArray) Q E {s with heap:=y})/\
   Tells O key (kas_ask prog w A κ vs) vs.length {s with heap:=y}/\GY vs key)
  (h:∀(p:Array Nat)(y:Heap)(e:Nat),Ord vs.length p->Up key p vs.length->(∀b o,b≠a->s.heap.get? b=y' o->y.get? b=y' o)->y.get? a=y' (seqObj "list" (p.toList.map λi=>vs.getD i Value.none).toArray e)->
   P (.done<|.ret .none) {s with heap:=y}):wpAny (model prog w) A (Builtin.«list.sort» #[[.ref a],[]]) P E s:=by
 have U:vs.length<=sizeLine:=by rw[aap];lia
 rw[list_sort_plain];refine WZ<|listItems_at ho rfl<|WZ<|listUpdate_at ho rfl ?_ (by rw[W4];exact U)<|ZW _;obtain⟨e1,l⟩:∃e1,(s.heap.update a<|Obj.mapSeq λ_=>(#[]:Array Value)).get? a=y' (seqObj "list" #[] e1):=#[_,get?_update_seq ho λ_=>#[]];refine WZ<|seqEpoch_at l rfl<|WZ<|wpAny_newTuple ?_ U;refine WZ<|wpAny_newList (aau ?_)<|ZW _;generalize W:((s.heap.update a<|Obj.mapSeq λ_=>(#[]:Array Value)).push<|seqObj "tuple" vs.toArray 0).push (seqObj "list" #[] 0)=h1;have k1:∀b o,b≠a->s.heap.get? b=y' o->h1.get? b=y' o:=λb o L e=>by rw[<-W];exact W1 _ (W1 _<|(Xw s.heap _<|ZX L).trans e)
 have g:h1.get? a=y' (seqObj "list" #[] e1):=by rw[<-W];exact W1 _ (W1 _ l)
 dsimp only;have fin:∀(H:SortSt)(p:Array Nat),Ord vs.length p->Up key p vs.length->(arrOf H).map (·.2)=(p.toList.map λi=>vs.getD i Value.none).toArray->failedOf H=B'->
   wpAny (model prog w) A (do
    let c:=(<-seqEpoch a) != e1
    Builtin.List.listUpdate (.ref a) λ_=>(arrOf H).map (·.2)
    if let y' e:=failedOf H then rule "list.sort.comparison-raised";throw e
    if c then rule "list.sort.modified";raiseError "ValueError" "list modified during sort"
    ret .none) P E {s with heap:=h1}:=λH p B J k hf=>by
  refine WZ<|seqEpoch_at g rfl ?_;have u:(p.toList.map λi=>vs.getD i Value.none).toArray.size=vs.length:=by rw[W4,Xd,Xo,B.size]
  rw[k];refine WZ<|listUpdate_at g rfl ?_ (ZW _) ⋯;rw[hf];simp only[bne_self_eq_false,aad];obtain⟨X,I⟩:∃X,(h1.update a<|Obj.mapSeq λ_=>(p.toList.map λi=>vs.getD i Value.none).toArray).get? a=y' (seqObj "list" (p.toList.map λi=>vs.getD i Value.none).toArray X):=#[_,get?_update_seq g λ_=>_];exact W2 (h p _ X B J (λb o L e=>(Xw h1 _<|ZX L).trans<|k1 b o L e) I)
 by_cases Y:2<=vs.length
 ·have z:¬vs.toArray.size<2:=by rw[W4];lia
  rw[aae z,aae z];obtain⟨κ,q,T,hi⟩:=hk Y h1 k1;refine WZ<|q _ _ ?_;refine WZ (aav (JQ (Q:=λH S=>S={s with heap:=h1}/\∃p:Array Nat,Ord vs.length p/\Up key p vs.length/\(arrOf H).map (·.2)=(p.toList.map λi=>vs.getD i Value.none).toArray/\failedOf H=B') T hi Y m
   (λp H B J ho hf=>#[rfl,p,B,J,ho,hf])) ?_ λ_ _ e=>e)
  rintro⟨⟨⟩,H⟩ S ⟨rfl,p,B,J,k,hf⟩;exact fin H p B J k hf
 ·have z:vs.toArray.size<2:=by rw[W4];lia
  rw[aaf z,aaf z];refine WZ<|W2 ?_;rw[StateT.run_pure];refine WZ<|W2 ?_;refine fin (SortSt.mk' general' (vs.toArray.zip vs.toArray) #[] 7 B') (List.range vs.length).toArray (by unfold MxSort.Ord;simp) (λi j K F=>?_) ?_ rfl
  ·rw[show i=j by lia];exact Yy _
  ·apply X0.mp
   match vs,Y with
   |[],_=>simp
   |[v],_=>simp
   |_::_::_,Y=>exact absurd (by simp) Y
end
inductive SK where
 |tt|ts|ti|s|i
 deriving DecidableEq
def SK.ok:SK->D->Prop
 |.tt,d=>∃f r,d= .tup (.tup f::r)
 |.ts,d=>∃f r,d= .tup (.str f::r)
 |.ti,d=>∃f r,d= .tup (.int f::r)
 |.s,d=>∃x,d= .str x
 |.i,d=>∃x,d= .int x
def SK.κ:SK->SortKind
 |.tt=>tuples' J'
 |.ts=>tuples' G'
 |.ti=>tuples' G'
 |.s=>oneType'
 |.i=>oneType'
def SK.f:SK->String
 |.tt=>"tuple"
 |.ts=>"str"
 |.s=>"str"
 |_=>"int"
section
variable{P:Program}{w:World}{H:Hp}{prog:Program}{s:Shared}{A:Around}
theorem Eb(z:Zp J' A s (v::us) (wv::vs) (d::ds) (e::es))
  (l:b=G'->∀{E:Value->Shared->Prop},wpAny (model prog w) A (oneLt' G' v wv) (λr S=>r=D.lt d e/\S=s) E s)
  (B:ds.length+m=es.length+n) (q:Q (D.f6 (d::ds) (e::es)) s):KatLex prog w A b (decide (n<m)) Q ((v::us).zip (wv::vs)) 0 s:=by
 cases z with
 |cons he W g=>
  rw[ZG];rw[D.d9]at q;refine kat_cons<|he prog w _ _ ?_;by_cases a:d=e
  ·rw[(D.dg d e).mpr a];rw[aaf a]at q;exact kat_yes<|Ea g 1 ⋯ B q
  ·rw[show D.iN d e=J' by rw[D.kX];exact Xt a];rw[aae a]at q;refine kat_no ?_;cases b with
   |false=>rw[show (J'&&0==0)=J' by rfl];exact kat_one v wv<|W a prog w _ _ q
   |true=>rw[show (G'&&0==0)=G' by rfl];exact aav (l rfl) (λr S#[e1,e2]=>by subst e1 e2;exact q) λ_ _ x=>x
theorem qu(hok:eS P w H s.heap)(hu:A.units+n<cLine)(hd:D.dep (.tup (d0::dr))<=n+1)(W:D.eO (.tup (d0::dr)) (.tup (e0::er)))
  (l:b=G'->(∃p q,d0= .str p/\e0= .str q)\/∃p q,d0= .int p/\e0= .int q) (U:DV H x (.tup (d0::dr))) (F:DV H y (.tup (e0::er))) (S:RelV x u) (c:RelV y v)  
  (q:Q (D.lt (.tup (d0::dr))<|.tup (e0::er)) s):wpAny (model prog w) A (keyLt' (tuples' b) u v) Q E s:=by
 obtain⟨a,xs,q1,e1,e2⟩:=U.au;subst q1;cases S;obtain⟨i,ys,q1,r,f2⟩:=F.au;subst q1;cases c;obtain⟨ak,B,o,j,J,k,HU⟩:=a8 hok e1;obtain⟨K,r2,o2,uZ,I,k2,Bd⟩:=a8 hok r;obtain⟨x0,xr,rfl,KM,Tc⟩:=e2.cons_inv;obtain⟨y0,yr,rfl,Td,UU⟩:=f2.cons_inv;cases B with
 |cons g r1r=>
  cases r2 with
  |cons r20 r2r=>
   rename_i u0 ur v0 vr;have Y:D.gh (d0::dr)<=n:=by unfold D.dep at hd;lia
   have HZ:D.jx (d0::dr) (e0::er):=by unfold D.eO at W;exact W
   have zz:=CY hok hu (λd e x y u v h gp Z Mz rx2 ry2=>Eg hok n d e x y u v A h hu gp Z Mz rx2 ry2) Y HZ e2 f2 (.cons g r1r)<|.cons r20 r2r;refine kat_lt j HU uZ Bd ?_;have M:(u0::ur).toArray.size=(d0::dr).length:=by rw[W4,Xm,Xm,<-r1r.length,Tc.length]
   have m:(v0::vr).toArray.size=(e0::er).length:=by rw[W4,Xm,Xm,<-r2r.length,UU.length]
   have q':Q (D.f6 (d0::dr) (e0::er)) s:=by have z:=q;unfold D.lt at z;exact z
   refine Eb zz (λL=>?_) (by rw[M,m];simp only[Xm];lia) q';intro E';rcases l L with ⟨p,q2,rfl,rfl⟩|⟨p,q2,rfl,rfl⟩
   ·have O:=KM.str_inv;have X:=Td.str_inv;subst O X;obtain⟨t,rfl⟩:=g;obtain⟨t',rfl⟩:=r20;exact oneLt_str #[by unfold D.lt;rfl,rfl]
   ·have O:=KM.int_inv;have X:=Td.int_inv;subst O X;obtain⟨t,rfl⟩:=g;obtain⟨t',rfl⟩:=r20;exact oneLt_int #[by unfold D.lt;rfl,rfl]
theorem o6(x y):keyLt' oneType' x y=oneLt' G' x y:=rfl
theorem Ed(hok:eS P w H s.heap)(hu:A.units+n<cLine)(k:SK)(hd:D.dep d<=n+1)(hl:D.eO d e)(fd:k.ok d)(fe:k.ok e)(hx:DV H x d)(hy:DV H y e)(rx:RelV x u)(ry:RelV y v)
  (q:Q (D.lt d e) s):wpAny (model prog w) A (keyLt' k.κ u v) Q E s:=by
 cases k with
 |tt=>obtain⟨f,r,rfl⟩:=fd;obtain⟨f',r',rfl⟩:=fe;exact qu (b:=J') hok hu hd hl (λz=>nomatch z) hx hy rx ry q
 |ts=>obtain⟨f,r,rfl⟩:=fd;obtain⟨f',r',rfl⟩:=fe;exact qu hok hu hd hl (λ_=>.inl #[_,_,rfl,rfl]) hx hy rx ry q
 |ti=>obtain⟨f,r,rfl⟩:=fd;obtain⟨f',r',rfl⟩:=fe;exact qu hok hu hd hl (λ_=>.inr #[_,_,rfl,rfl]) hx hy rx ry q
 |s=>obtain⟨f,rfl⟩:=fd;obtain⟨f',rfl⟩:=fe;have z1:=hx.str_inv;have z2:=hy.str_inv;subst z1 z2;obtain⟨t,rfl⟩:=rx;obtain⟨t',rfl⟩:=ry;show wpAny _ _ (keyLt' oneType' _ _) _ _ _;rw[o6];exact oneLt_str q
 |i=>obtain⟨f,rfl⟩:=fd;obtain⟨f',rfl⟩:=fe;have z1:=hx.int_inv;have z2:=hy.int_inv;subst z1 z2;obtain⟨t,rfl⟩:=rx;obtain⟨t',rfl⟩:=ry;show wpAny _ _ (keyLt' oneType' _ _) _ _ _;rw[o6];exact oneLt_int q
theorem wL(hok:eS P w H s.heap){k:SK}(hk:k= .tt\/k= .ts\/k= .ti):∀{xs:List V}{c:List Value}{ds:List D},bK H xs ds->aw xs c->(∀d∈ds,k.ok d)->
  ∃fs,KatTups s.heap c fs/\fs.length=c.length/\∀v∈fs,Looks (model prog w) s.heap (typeOf v) (.type k.f)
 |[],c,ds,_,r,_=>by cases r;exact#[[],KatTups.nil,rfl,λv M=>absurd M<|by simp]
 |x::xs,c,ds,h,r,hf=>by
  cases r with
  |cons Q b=>
   cases ds with
   |nil=>unfold bK at h;exact h.elim
   |cons d ds=>
    obtain⟨fs,t,l,lk⟩:=wL hok hk h.2 b λd hd=>hf d (W7 _ hd)
    have y:∃d0 dr,d= .tup (d0::dr)/\((k= .ts/\∃p,d0= .str p)\/(k= .ti/\∃p,d0= .int p)\/(k= .tt/\∃p,d0= .tup p)):=by
     have z:=hf d Xa;rcases hk with rfl|rfl|rfl
     ·obtain⟨f,r,rfl⟩:=z;exact#[_,_,rfl,.inr<|.inr #[rfl,_,rfl]]
     ·obtain⟨f,r,rfl⟩:=z;exact#[_,_,rfl,.inl #[rfl,_,rfl]]
     ·obtain⟨f,r,rfl⟩:=z;exact#[_,_,rfl,.inr<|.inl #[rfl,_,rfl]]
    obtain⟨d0,dr,rfl,uX⟩:=y;obtain⟨a,ys,S,e1,e2⟩:=h.1.au;subst S;cases Q;obtain⟨E,B,o,j,J,Z,HU⟩:=a8 hok e1;obtain⟨u,xr,rfl,m,U⟩:=e2.cons_inv;cases B with
    |cons g i=>
     rename_i q F;refine#[q::fs,KatTups.cons j J HU (by simp) t,by simp[l],λv M=>?_];rcases Xg.mp M with rfl|M
     ·rcases uX with ⟨L,p,rfl⟩|⟨L,p,rfl⟩|⟨L,p,rfl⟩
      ·have O:=m.str_inv;subst O;obtain⟨t',rfl⟩:=g;rw[L];exact Looks.of_pure rfl
      ·have O:=m.int_inv;subst O;obtain⟨t',rfl⟩:=g;rw[L];exact Looks.of_pure rfl
      ·obtain⟨a2,n,A,I,W⟩:=m.au;subst A;cases g;obtain⟨K,_,o2,uZ,wz,_⟩:=a8 hok I;rw[L];show Looks (model prog w) _ _ (Value.type "tuple");rw[<-wz];exact(Looks.ld uZ).andThen .now
     ·exact lk v M
theorem xN:∀{xs:List V}{c:List Value}{ds:List D},bK H xs ds->aw xs c->(∀d∈ds,SK.s.ok d)->∃ss,StrsAre c ss
 |[],c,ds,_,r,_=>by cases r;exact#[[],.nil]
 |x::xs,c,ds,h,r,hf=>by
  cases r with
  |cons Q b=>
   cases ds with
   |nil=>unfold bK at h;exact h.elim
   |cons d ds=>
    obtain⟨ss,q⟩:=xN h.2 b λd hd=>hf d (W7 _ hd)
    obtain⟨y,rfl⟩:=hf d Xa;have O:=h.1.str_inv;subst O;obtain⟨t,rfl⟩:=Q;exact#[y::ss,.cons y t q]
theorem wF:∀{xs:List V}{c:List Value}{ds:List D},bK H xs ds->aw xs c->(∀d∈ds,SK.i.ok d)->∃ss,IntsAre c ss
 |[],c,ds,_,r,_=>by cases r;exact#[[],.nil]
 |x::xs,c,ds,h,r,hf=>by
  cases r with
  |cons Q b=>
   cases ds with
   |nil=>unfold bK at h;exact h.elim
   |cons d ds=>
    obtain⟨ss,q⟩:=wF h.2 b λd hd=>hf d (W7 _ hd)
    obtain⟨y,rfl⟩:=hf d Xa;have O:=h.1.int_inv;subst O;obtain⟨t,rfl⟩:=Q;exact#[y::ss,.cons y t q]
theorem MQ(hok:eS P w H s.heap)(k:SK)(hd:bK H xs ds)(r:aw xs us)(hf:∀d∈ds,k.ok d)(Y:2<=us.length)(q:Q k.κ s):
  wpAny (model prog w) A (keyKind' us.toArray) Q E s:=by
 have tup:k= .tt\/k= .ts\/k= .ti->wpAny (model prog w) A (keyKind' us.toArray) Q E s:=λhk=>by obtain⟨fs,t,l,lk⟩:=wL hok hk hd r hf;refine kat_kind t ⋯ lk (by rcases hk with rfl|rfl|rfl<;>rfl) ?_;rcases hk with rfl|rfl|rfl<;>exact q
 cases k with
 |tt=>exact tup<|.inl rfl
 |ts=>exact tup<|.inr<|.inl rfl
 |ti=>exact tup<|.inr<|.inr rfl
 |s=>
  obtain⟨ss,hs⟩:=xN hd r hf
  match us,Y,hs with
  |v1::v2::U,_,hs=>rw[keyKind_strs hs];exact W2 q
 |i=>
  obtain⟨ss,hs⟩:=wF hd r hf
  match us,Y,hs with
  |v1::v2::U,_,hs=>rw[keyKind_ints hs];exact W2 q
end
def lZ(ds:List D):Prop:=ds.length<1000000/\(2<=ds.length->D.gh ds<=100/\(∃k:SK,∀d∈ds,k.ok d)/\∀d∈ds,∀e∈ds,D.eO d e)
section
variable{X:Cx}{K':List (Addr×Obj)}{σ:L2.St}{H:Hp}
theorem zc(hu:A.units+148<cLine)(I:Inv X K' σ H s)(rv:aw ys ak)(M:bK H ys ds)(J:lZ ds)
  (q:∀(l:Addr)(t:List V)(es:List D)(S:Shared),H l=B'->bK H t es->l3 ds es->Inv X K' σ (upd H l (.lst t)) S->Q (.done (.ret (.ref l))) S):
  wpAny (model X.prog X.w) A (do let l<-newList ak;let _<-holding [l] (call (.builtin "list.sort") [l] []);ret l) Q E s:=by
 obtain⟨hlen,J⟩:=J;have W:=rv.length;have gp:=M.length;have U:ak.length<=sizeLine:=by rw[aap];lia
 refine WZ (wpAny_newList ?_ (by simpa using U));have v:(s.heap.push (seqObj "list" ak.toArray 0)).get? s.heap.objs.size=y' (seqObj "list" ak.toArray 0):=Xb _ rfl;have ne:∀b o,s.heap.get? b=y' o->b≠s.heap.objs.size:=λb o e=>Xz (Xe e)
 refine WZ (aau (aas slot_list_sort #[_,v,rfl] entry_list_sort
  (Cq (s:={s with heap:=s.heap.push (seqObj "list" ak.toArray 0)}) (O:=Ly) (key:=λi=>ds.getD i (.int 0)) v ⋯ (λY y Z=>?_) λp y e B hup Z hD=>?_) (args_list_sort _)))
 ·obtain⟨Vn,⟨k,hf⟩,c⟩:=J ⋯;have L:=I.hok.kept λb o e=>Z b o (ne b o e) (W1 _ e)
  refine#[k.κ,λz E' P=>MQ L k M rv hf ⋯ P,λi j hi F C hC=>?_,λi j hi F g=>?_]
  ·obtain⟨r,h,Pj⟩:=M.get (i:=i) (x:=ys[i]'⋯) (by simp);obtain⟨a,Pk,Qz⟩:=M.get (i:=j) (x:=ys[j]'⋯) (by simp);obtain⟨ui,Rl,Sb⟩:=rv.get (i:=i) (x:=ys[i]'⋯) (by simp);obtain⟨uj,Rm,Sd⟩:=rv.get (i:=j) (x:=ys[j]'⋯) (by simp);unfold kas_ask;rw[show ak.getD i Value.none=ui by simp[Rl],show ak.getD j Value.none=uj by simp[Rm]];have ki:ds.getD i (.int 0)=r:=by simp[h]
   have kj:ds.getD j (.int 0)=a:=by simp[Pk]
   have n:=Zj h;have mj:=Zj Pk;refine Ed L (by show A.units+1+100<cLine;lia) k (Xf (qb h) ⋯) (c r n a mj) (hf r n) (hf a mj) Pj Qz Sb Sd ?_;have Tn:C (D.lt (ds.getD i (.int 0)) (ds.getD j (.int 0))) {s with heap:=y}:=hC;rw[ki,kj]at Tn;exact Tn
  ·obtain⟨r,h,Pj⟩:=M.get (i:=i) (x:=ys[i]'⋯) (by simp);obtain⟨a,Pk,Qz⟩:=M.get (i:=j) (x:=ys[j]'⋯) (by simp);obtain⟨ui,Rl,Sb⟩:=rv.get (i:=i) (x:=ys[i]'⋯) (by simp);obtain⟨uj,Rm,Sd⟩:=rv.get (i:=j) (x:=ys[j]'⋯) (by simp);rw[show ak.getD i Value.none=ui by simp[Rl],show ak.getD j Value.none=uj by simp[Rm]]at g;subst g;have ki:ds.getD i (.int 0)=r:=by simp[h]
   have kj:ds.getD j (.int 0)=a:=by simp[Pk]
   show ds.getD i (.int 0)=ds.getD j (.int 0);rw[ki,kj];rw[Sb.inj Sd]at Pj;exact Pj.inj Qz
 ·refine#[_,rfl,W2 ?_];have m:=B;have w:∀i∈p.toList,i<ys.length:=λi hi=>by
   have:=XU.mp (m.mem_iff.mp hi)
   lia
  have new:dZ X.prog X.w (upd H s.heap.objs.size (.lst (p.toList.map λi=>ys.getD i .bj))) y s.heap.objs.size (.lst (p.toList.map λi=>ys.getD i .bj)):=
   #[by rw[Xd,m.length_eq,Y3];rw[aap];lia,_,e,ud rv w,hD]
  have I2:=I.laid (t':=s.toks) (λb o q=>Z b o (ne b o q) (W1 _ q)) (W9 _) new;refine q _ _ (p.toList.map λi=>ds.getD i (.int 0)) _ (I.hok.fresh (W9 _)) (M.map w) #[?_,?_] I2
  ·have e1:=m.map (λi=>ds.getD i (.int 0));rw[show ak.length=ds.length by lia]at e1;rw[ec]at e1;exact e1
  ·have Ro:∀i j,i<=j->j<ak.length->D.lt (ds.getD (p.getD j 0) (.int 0)) (ds.getD (p.getD i 0) (.int 0))=J':=hup;have u:p.toList.length=ak.length:=by rw[m.length_eq,Y3]
   rw[Zs,Zr];intro i j hi F K;have:=Ro i j ⋯ ⋯;rw[show p.getD i 0=p.toList[i] by simp at hi;simp[hi],show p.getD j 0=p.toList[j] by simp at F;simp[F]]at this;exact this
end
def JK(K:PySem.W.Frag):List V->Hp->VK->Prop:=λxs H Q=>∃a k ds,xs=[.ref a]/\(cX K H a k\/fD K H a k)/\bK H k ds/\lZ ds/\∀l t es,H l=B'->bK H t es->l3 ds es->Q (.ref l) (upd H l<|.lst t)
theorem p0(hu:X.A.units+150<cLine):cc X (.builtin "sorted") (JK X.K):=by
 intro M s O H xs c Q I r h;obtain⟨a,k,ds,rfl,K,kM,J,q⟩:=h;obtain⟨u,rfl,w⟩:=r.one;cases w;have y:∃(E:List Value)(T:String)(o:Obj)(n:Nat),aw k E/\(T="list"\/T="tuple")/\s.heap.get? a=y' o/\o.cls= .type T/\o.data= .seq E.toArray n:=by
  rcases K with K|K
  ·obtain⟨E,rv,⟨o,n,j,J,_,hd⟩,_⟩:=I.list K;exact#[E,"list",o,n,rv,.inl rfl,j,J,hd]
  ·obtain⟨E,rv,⟨o,j,J,n,hd⟩,_⟩:=I.tuple K;exact#[E,"tuple",o,n,rv,.inr rfl,j,J,hd]
 obtain⟨E,T,o,n,rv,hT,j,m,hd⟩:=y;have U:E.length<=sizeLine:=by rw[aap,<-rv.length,kM.length];have:=J.1;lia
 refine Calls.call_function_entry kind_sorted plain_sorted entry_sorted (args_sorted1 _) ?_;refine WZ (W2 (WZ (wpAny_collect_seq a hT j m hd (λZ k1=>?_) (by rw[W4];exact U))));have F:=I.kept (t':=s.toks) k1;exact zc (by show X.A.units+1+148<cLine;lia) F rv kM J λl t es S W g z Y=>#[_,rfl,.ref l,_,Y,rfl,q l t es W g z]
end Mx
end
section
namespace Mx
open PySem PySem.W PySem.Spec PyProof.Rows L2
theorem any_range(bs:List Bool):((List.range bs.length).any λi=>bs.getD i J')=bs.any id:=by
 have h:=ec bs J';have e:((List.range bs.length).map λi=>bs.getD i J').any id=bs.any id:=by rw[h]
 rw[YF]at e;exact e
theorem all_range(bs:List Bool):((List.range bs.length).all λi=>bs.getD i J')=bs.all id:=by
 have h:=ec bs J';have e:((List.range bs.length).map λi=>bs.getD i J').all id=bs.all id:=by rw[h]
 rw[List.all_map]at e;exact e
theorem qH(ns:List Int):∀j,preSum (λi=>ns.getD i 0) j=(ns.take j).sum
 |0=>by simp[preSum]
 |j+1=>by
  rw[preSum,qH ns j];by_cases h:j<ns.length
  ·have e:ns.take (j+1)=ns.take j++[ns[j]]:=by rw[List.take_append_getElem h]
   rw[e,List.sum_append];simp[h]
  ·rw[ZA ⋯,ZA ⋯];simp[show ns.length<=j by lia]
theorem FV{bs:List Bool}(r:aw (bs.map V.bl) ak){i:Nat}(h:ak[i]?=y' v):v= .bool (bs.getD i J'):=by
 have W:=r.length;have hi:i<bs.length:=by
  have:=(W6.mp h).1;simp at W
  lia
 obtain⟨u,J,w⟩:=r.get (i:=i) (x:=V.bl<|bs.getD i J') (by simp[hi]);rw[h]at J;cases J;exact w
theorem int_at{ns:List Int}(r:aw (ns.map V.int) ak){i:Nat}(h:ak[i]?=y' v):∃t,v= .int (ns.getD i 0) t:=by
 have W:=r.length;have hi:i<ns.length:=by
  have:=(W6.mp h).1;simp at W
  lia
 obtain⟨u,J,w⟩:=r.get (i:=i) (x:=V.int<|ns.getD i 0) (by simp[hi]);rw[h]at J;cases J;exact w
section
variable{X:Cx}
theorem mV{s:Shared}(W:s.heap.IsList l items)
  (h:∀p:Shared,p={s with heap:=s.heap.push {cls:=.type "list_iterator",data:=.fields [.ref l,.int 0 0].toArray}}->(p.heap.IsListIter s.heap.objs.size l 0/\p.heap.IsList l items)->(∀b∈[s.heap.objs.size,l],b<p.heap.objs.size)->l≠s.heap.objs.size->
   (∀(b:Addr)(o:Obj),s.heap.get? b=y' o->b∉[s.heap.objs.size]/\p.heap.get? b=y' o)->Q (.ref s.heap.objs.size) p):wpAny (model prog w) A (pyIter<|.ref l) Q E s:=by
 have lt:l<s.heap.objs.size:=by obtain⟨_,e,_⟩:=W;exact Xe e
 refine aaz W<|h _ rfl #[#[_,Xb _ rfl,rfl,rfl],W.push _] (λb L=>?_) (Xz lt) λb o e=>#[?_,W1 _ e]
 ·show b<(s.heap.push _).objs.size;rw[Xy];simp only[Xg,Xh,aan]at L;have a:=lt;rcases L with rfl|rfl
  ·exact ZP _
  ·exact ZO a
 ·intro L;have:=Xe e;rw[XC.mp L]at this;exact ZM _ this
def RW(K:PySem.W.Frag):List V->Hp->VK->Prop:=λxs H Q=>∃(l:Addr)(bs:List Bool),xs=[.ref l]/\cX K H l (bs.map V.bl)/\Q (.bl<|bs.any id) H
def RU(K:PySem.W.Frag):List V->Hp->VK->Prop:=λxs H Q=>∃(l:Addr)(bs:List Bool),xs=[.ref l]/\cX K H l (bs.map V.bl)/\Q (.bl<|bs.all id) H
def R9(K:PySem.W.Frag):List V->Hp->VK->Prop:=λxs H Q=>∃(l:Addr)(ns:List Int),xs=[.ref l]/\cX K H l (ns.map V.int)/\Q (.int ns.sum) H
theorem Ar(J:X.calm=G'):cc X (.builtin "any") (RW X.K):=by
 intro M s O H xs c Q I r h;obtain⟨l,bs,rfl,K,q⟩:=h;obtain⟨u,rfl,w⟩:=r.one;cases w;obtain⟨E,rv,pl,g⟩:=I.list K;have W:E.length=bs.length:=by rw[<-rv.length];simp
 refine call_any_walk<|mV pl.isList λp e st fp ne t=>?_;refine#[_,_,_,_,_,_,λi=>bs.getD i J',rfl,Walks.list (A:=X.A.in1) (I.ok.hd J) _ l ne E.toArray,st,λi v S z j hv L=>?_,λy tk P=>?_]
 ·have k:=hv;rw[FV rv (show E[i]?=y' v by simpa using k)];exact aaE L
 ·subst e;refine#[.bl _,H,I.kept λb o e=>P b o (t b o e).1 (t b o e).2,rfl,?_];rw[show E.toArray.size=bs.length by simp[W],any_range];exact q
theorem Aq(J:X.calm=G'):cc X (.builtin "all") (RU X.K):=by
 intro M s O H xs c Q I r h;obtain⟨l,bs,rfl,K,q⟩:=h;obtain⟨u,rfl,w⟩:=r.one;cases w;obtain⟨E,rv,pl,g⟩:=I.list K;have W:E.length=bs.length:=by rw[<-rv.length];simp
 refine call_all_walk<|mV pl.isList λp e st fp ne t=>?_;refine#[_,_,_,_,_,_,λi=>bs.getD i J',rfl,Walks.list (A:=X.A.in1) (I.ok.hd J) _ l ne E.toArray,st,λi v S z j hv L=>?_,λy tk P=>?_]
 ·have k:=hv;rw[FV rv (show E[i]?=y' v by simpa using k)];exact aaE L
 ·subst e;refine#[.bl _,H,I.kept λb o e=>P b o (t b o e).1 (t b o e).2,rfl,?_];rw[show E.toArray.size=bs.length by simp[W],all_range];exact q
theorem Au(J:X.calm=G'):cc X (.builtin "sum") (R9 X.K):=by
 intro M s O H xs c Q I r h;obtain⟨l,ns,rfl,K,q⟩:=h;obtain⟨u,rfl,w⟩:=r.one;cases w;obtain⟨E,rv,pl,g⟩:=I.list K;have W:E.length=ns.length:=by rw[<-rv.length];simp
 refine call_sum_walkG<|mV pl.isList λp e st fp ne t=>?_;refine#[_,_,_,_,_,_,λi=>ns.getD i 0,rfl,Walks.list (A:=X.A.in1) (I.ok.hd J) _ l ne E.toArray,st,fp,λi v hv=>?_,λy tk t' P=>?_]
 ·have k:=hv;exact int_at rv (by simpa using k)
 ·subst e;refine#[.int _,H,I.kept λb o e=>P b o (t b o e).1 (t b o e).2,#[t',rfl],?_];rw[show E.toArray.size=ns.length by simp[W],qH,Zz];exact q
end
end Mx
end
section
namespace Mx
open PySem PySem.W PySem.Spec PyProof.Rows L2 HT
open PySem.AutoSeq1 (wpAny_loadPart')
theorem tuple_addW0(l b)(i p)(n P)(dd o)(Y m)(a:i.isEmpty=G'):
  Meets (Builtin.«tuple.__add__» #[[.ref l,.ref b],[]]) (λ_ R s=>s.heap.get? l=y' {cls:=.type "tuple",dict:=dd,data:=.seq i n,slots:=Y}/\s.heap.get? b=y' {cls:=.type "tuple",dict:=o,data:=.seq p P,slots:=m}/\R (.ok<|.ret<|Value.ref b) s):=
 .of_wp λprog w A R s h=>by
  obtain⟨B,g,d,tk,os⟩:=s;obtain⟨W,L,h⟩:=h;have Q:=sub_tuple_tuple
  wp_walk using wpAny_loadPart' W,wpAny_loadPart' L
  exact#[_,rfl,h]
theorem Bo{α:Type}(pre)(x:α):rA (pre++[x]).length (-1)=y' pre.length:=by
 unfold rA;rw[aae (by decide),aaf (by simp;lia)];simp
 lia
theorem zW(pre)(x:α):uo (pre++[x]) (-1)=y' x:=by unfold uo;rw[Bo];simp
end Mx
end
section
namespace Mx
open PySem PySem.W PySem.Spec PyProof.Rows L2
def R4(K:PySem.W.Frag):List V->Hp->VK->Prop:=λxs H Q=>∃(l:Addr)(ns:List Int),xs=[.ref l]/\cX K H l (ns.map V.int)/\ns≠[]/\∀m,m∈ns->(∀a∈ns,m<=a)->Q (.int m) H
theorem x9(J:X.calm=G'):cc X (.builtin "min") (R4 X.K):=by
 intro M s O H xs c Q I r h;obtain⟨l,ns,rfl,K,o,q⟩:=h;obtain⟨u,rfl,w⟩:=r.one;cases w;obtain⟨E,rv,pl,g⟩:=I.list K;have i1:=intsAre_of rv;have k:=i1.numsOf;have i:=i1.allInts;have W:=pl.isList;obtain⟨xs,b⟩:=i.items;have z:numsOf (intItems xs).toList=ns:=by rw[<-b];exact k
 rw[nums_intItems]at z;rw[b]at W;have B:ns.length=xs.size:=by rw[<-z,Xd,Xo]
 have n:0<xs.size:=by rw[<-B];exact List.length_pos_iff.mpr o
 refine min_intList (I.ok.hd J) W n λv y tk hv P=>?_
 obtain⟨t,rfl⟩:=intItems_at hv;obtain⟨Z,Y⟩:=argBest_lt (numAt xs)<|xs.size-1;refine#[.int _,H,I.kept P,#[t,rfl],q _ ?_ λa m=>?_]
 ·rw[numAt_eq,z];exact getD_mem (by omega)
 ·obtain⟨j,F,rfl⟩:=mem_getD m;rw[<-z,<-numAt_eq];exact Y j (by omega)
def R3(K:PySem.W.Frag):List V->Hp->VK->Prop:=λxs H Q=>∃(l:Addr)(ns:List Int),xs=[.ref l]/\cX K H l (ns.map V.int)/\ns≠[]/\∀m,m∈ns->(∀a∈ns,a<=m)->Q (.int m) H
theorem xZ(J:X.calm=G'):cc X (.builtin "max") (R3 X.K):=by
 intro M s O H xs c Q I r h;obtain⟨l,ns,rfl,K,o,q⟩:=h;obtain⟨u,rfl,w⟩:=r.one;cases w;obtain⟨E,rv,pl,g⟩:=I.list K;have i1:=intsAre_of rv;have k:=i1.numsOf;have i:=i1.allInts;have W:=pl.isList;obtain⟨xs,b⟩:=i.items;have z:numsOf (intItems xs).toList=ns:=by rw[<-b];exact k
 rw[nums_intItems]at z;rw[b]at W;have B:ns.length=xs.size:=by rw[<-z,Xd,Xo]
 have n:0<xs.size:=by rw[<-B];exact List.length_pos_iff.mpr o
 refine max_intList (I.ok.hd J) W n λv y tk hv P=>?_
 obtain⟨t,rfl⟩:=intItems_at hv;obtain⟨Z,Y⟩:=argBest_gt (numAt xs)<|xs.size-1;refine#[.int _,H,I.kept P,#[t,rfl],q _ ?_ λa m=>?_]
 ·rw[numAt_eq,z];exact getD_mem (by omega)
 ·obtain⟨j,F,rfl⟩:=mem_getD m;rw[<-z,<-numAt_eq];exact Y j (by omega)
end Mx
end
section
namespace L2
open PySem PySem.Spec PyProof.Rows
def fW(e:Expr)(d:Nat)(it acc:Value)(env:Env)(target:Expr)(ifs:List Expr)(p:Pos)(body:Sem Unit):Sem PySem.Fin:=do
 standAt p
 match<-pyNext it with
 |none=>pure<|.done .next
 |some v=>
  letOwnedTupleGo target it v
  assign target env v
  let mut ok:=G'
  for c in ifs do
   if ok then ok<-isTrue c env (eval c env)
  if ok then body
  again (.compLoop e d it acc env)
theorem p8(U:compTurn (.ListComp elt gens scope pos) d it acc env=fW (.ListComp elt gens scope pos) d it acc env target ifs p body)
  (t:∀x S,EE x S->notedBy (model prog w) A env (λx S=>R (.error x) S) x S) (I:Nat->Shared->Prop)
  (l:∀n s,I n s->wpAny (model prog w) A (pyNext it) (λr Z=>match r with
   |none=>R (.ok .next) Z
   |some v=>wpAny (model prog w) A (letOwnedTupleGo target it v) (λ_ b=>wpAny (model prog w) A (assign target env v) (λ_ i=>
     wpAny (model prog w) A (forIn ifs G' λc r=>if r=G' then do let ok<-isTrue c env (eval c env);pure (ForInStep.yield ok) else pure (ForInStep.yield r)) (λok q=>
      if ok=G' then wpAny (model prog w) A body (λ_ a=>∃m,m<n/\I m a) EE q
      else∃m,m<n/\I m q) EE i) EE b) EE Z) EE s)
  (n) (h:I n s):codeAny (model prog w) A (.compLoop (.ListComp elt gens scope pos) d it acc env) R s:=by
 refine codeAny_loop rfl I (λn s o=>?_) n h;refine wpAny_noted ?_;rw[U];refine WZ<|aaD<|WZ<|aav (l n s o) (λr Z k=>?_) t;cases r with
 |none=>exact W2 k
 |some v=>
  refine WZ<|aav k (λ_ b j=>?_) t;refine WZ<|aav j (λ_ i u=>WZ<|aav u (λok q g=>?_) t) t;cases ok with
  |false=>exact W2 #[rfl,g]
  |true=>exact WZ<|aav g (λ_ a y=>W2 #[rfl,y]) t
def mB(elt:Expr)(acc:Value)(env:Env):Sem Unit:=do let _<-call (.builtin "list.append") [acc,<-eval elt env]
def nextOf(e:Expr)(d:Nat)(iter:Expr)(acc:Value)(env:Env):Sem Unit:=do
 let x<-eval iter env
 standAt iter.pos
 let x<-foldedSetIterable iter env x
 let _<-runOwn (.compStart e d (<-holding [x] (pyIter x)) acc env) env
theorem t7(m a y)(b)(scope)(pos)(it W)(env):
  compTurn (.ListComp m [#[a,y,b,0]] scope pos) 0 it W env=fW (.ListComp m [#[a,y,b,0]] scope pos) 0 it W env a b y.pos (mB m W env):=by rfl
theorem t9(m a y U p)(b o)(scope)(pos)(it W)(env):
  compTurn (.ListComp m [#[a,y,b,0],#[U,p,o,0]] scope pos) 0 it W env=
   fW (.ListComp m [#[a,y,b,0],#[U,p,o,0]] scope pos) 0 it W env a b y.pos (nextOf (.ListComp m [#[a,y,b,0],#[U,p,o,0]] scope pos) 1 p W env):=by
 unfold fW nextOf;simp only[bind_assoc];rfl
theorem FC(m a y U p)(b o)(scope)(pos)(it W)(env):
  compTurn (.ListComp m [#[a,y,b,0],#[U,p,o,0]] scope pos) 1 it W env=
   fW (.ListComp m [#[a,y,b,0],#[U,p,o,0]] scope pos) 1 it W env U o p.pos (mB m W env):=by rfl
def Le(O u:St):Prop:=u.length=O.length/\∀(j:Nat)(v:V),O[j]?=y' (y' v)->u[j]?=y' (y' v)
theorem Le.refl(σ):Le σ σ:=#[rfl,λ_ _ h=>h]
def GL(c:St)(g:TG):Prop:=∀x O H(Q:St->Hp->Prop),Le c O->g x O H Q->g x O H λu n=>Le c u/\Q u n
def OZ(c:St)(g:zo):Prop:=∀x O H(Q:St->Hp->Prop),Le c O->g x O H Q->g x O H λu n=>Le c u/\Q u n
theorem Le.set(h:σ0[k]?=y' B')(q:Le σ0 σ):Le σ0 (σ.set k v):=#[by simpa using q.1,λj w F=>by
 rw[Xl (by rintro rfl;rw[h]at F;cases F)];exact q.2 j w F]
theorem DM(h:σ0[k]?=y' B'):GL σ0 (e9 k):=λx O H Q p q=>#[p.set h,q]
theorem DN:OZ σ0 HN:=λx σ H Q p q=>#[q.1,p,q.2]
theorem A7(h:σ0[k]?=y' B')(J:OZ σ0 u):OZ σ0 (AX (e9 k) u):=λx O H Q p q=>by obtain⟨v,r,e,q⟩:=q;exact#[v,r,e,J r _ H Q (p.set h) q]
theorem Inv.le{O u:St}(I:Inv X K' u H s)(h:Le O u):Inv X K' O H s:=I.weak h.1.symm h.2
abbrev TB:=St->Hp->(Hp->Prop)->Prop
def PB(X:Cx)(body:Sem Unit)(tb:TB):Prop:=∀(M:List (Addr×Obj))(s:Shared)(O:St)(H:Hp)(Q:Hp->Prop),Inv X M O H s->tb O H Q->wpAny (model X.prog X.w) X.A body (λ_ S=>∃j,Inv X M O j S/\Q j) X.xe s
def rH(J:It)(g:TG)(tt:TT)(tb:TB)(c:St)(F:Hp->Prop)(P:Hp):Prop:=
 ∃W:Nat->Nat->Hp->Prop,(∃m,W 0 m P)/\∀i m H,W i m H->
  (J.stop i H/\F H)\/(J.go i H/\∀x j,J.yld i H x j->g x c j λu n=>tt u n λb K=>if b=G' then tb u K λY=>∃B,B<m/\W (i+1) B Y else∃B,B<m/\W (i+1) B K)
section
variable{X:Cx}{g:TG}{tt:TT}{tb:TB}
theorem oX(hc:X.calm=G')
  (heq:compTurn (.ListComp elt gens scope pos) d (.ref it) acc X.env=fW (.ListComp elt gens scope pos) d (.ref it) acc X.env target ifs p body) (U:∀x S,X.xe x S->notedBy (model X.prog X.w) X.A X.env (λx S=>R (.error x) S) x S)
  (t:PG X target g) (oh:GL σ0 g) (ht:FI X ifs tt) (L:PB X body tb) (I0:Inv X M σ0 H0 s0) (T:Turn X.prog X.w X.K target J v it tn) (dJ:tn 0 s0.heap) (q:∀b∈v,ja X M H0 b)
  (y:rH J g tt tb σ0 F H0) (k:∀S j,Inv X M σ0 j S->F j->R (.ok .next) S):codeAny (model X.prog X.w) X.A (.compLoop (.ListComp elt gens scope pos) d (.ref it) acc X.env) R s0:=by
 obtain⟨W,⟨m0,w0⟩,l⟩:=y;have O:∀{j:Hp},(∀b∈v,j b=B')->∀b∈v,ja X M j b:=λI b L=>#[I b L,(q b L).2]
 refine p8 heq U (λn S=>∃i j,Inv X M σ0 j S/\tn i S.heap/\(∀b∈v,j b=B')/\W i n j) ?_ m0 #[0,H0,I0,dJ,λb L=>(q b L).1,w0];rintro n h ⟨i,Y,P,Ub,Tb,w4⟩;rcases l i n Y w4 with ⟨stop,qn⟩|⟨go,step⟩
 ·refine b9 (T.done X rfl rfl rfl hc i M h _ Y X.xe P (O Tb) Ub stop) λr Z#[w,K]=>?_
  subst w;exact k Z Y K qn
 ·refine b9 (T.item X rfl rfl rfl hc i M h _ Y X.xe P (O Tb) Ub go) λr Z#[u,w,A]=>?_
  subst w;refine b9 A λ_ Q#[x,H6,I6,r6,y6,Sl,UP]=>?_
  have Us:=I6.pinned (O UP)<|T.obj _ _ Sl;have c:∀{s:Shared}{a:St}{H7:Hp}{m7:Nat},Inv X (M++ny v Q.heap) a H7 s->Le σ0 a->m7<n->W (i+1) m7 H7->
    ∃m,m<n/\∃i j,Inv X M σ0 j s/\tn i s.heap/\(∀b∈v,j b=B')/\W i m j:=λ {s a H7 m7} I7 H E w7=>by
   refine#[m7,E,i+1,H7,I7.jQ.le H,T.keep _ _ _ Sl λb L o e=>(I7.pin (b,o)<|XA _<|XA _<|fP L e).1,λb L=>?_,w7];obtain⟨o,e,d⟩:=T.obj _ _ Sl b L;exact(I7.pin (b,o)<|XA _<|XA _<|fP L e).2.1
  refine b9 (t _ Q _ H6 x u _ Us r6<|oh x _ H6 _ (Le.refl _)<|step x H6 y6) λ_ s#[a,H7,I7,T2,z]=>?_
  refine b9 (ht _ s a H7 _ I7 z) λb s8#[H8,I8,q8]=>?_
  cases b with
  |false=>obtain⟨B,E,w8⟩:=q8;exact c I8 T2 E w8
  |true=>
   refine b9 (L _ s8 a H8 _ I8 q8) λ_ s9#[H9,I9,B,E,w9]=>?_
   exact c I9 T2 E w9
def xP(D:Addr)(L:TE):TB:=λO H Q=>L O H λv Y=>∃a,Y D=y' (.lst a)/\a.length<sizeLine/\Q (upd Y D<|.lst<|a++[v])
theorem lK(K:PE X elt te):PB X (mB elt (.ref D) X.env) (xP D te):=by intro M s O H Q I h;refine WZ<|b9 (K M s O H _ I h) λy o#[v,b,c,m,a,l,g,q]=>?_;refine WZ<|b9 (pj _ o O b (.ref D) [v] (.ref D) [y] (λ_ j=>j=upd b D (.lst<|a++[v])) c rfl (.cons m .nil) #[D,a,v,rfl,rfl,l,g,rfl]) λ_ n#[_,p,k,_,i]=>?_;subst i;exact W2 #[_,k,q]
theorem p9
  (h0:codeAny (model prog w) A (.compLoop (.ListComp elt [#[target,iter,ifs,0],#[bB,cF,cZ,0]] scope pos) 1 it acc env) R s)
  (h:wpAny (model prog w) A (pyIter it) (λp S=>codeAny (model prog w) A (.compLoop (.ListComp elt [#[target,iter,ifs,0],#[bB,cF,cZ,0]] scope pos) 1 p acc env) R S)
   (notedBy (model prog w) A env λx S=>R (.error x) S) s):
  codeAny (model prog w) A (.compStart (.ListComp elt [#[target,iter,ifs,0],#[bB,cF,cZ,0]] scope pos) 1 it acc env) R s:=by
 refine codeAny_of_tree ?_;refine wpAny_notedAt ?_;refine WZ<|wpAny_askSetting<|wpAny_ite ?_;split
 ·first
   |exact WZ<|W2<|W2<|And.intro rfl h0
   |exact W2<|And.intro rfl h0
 ·first
   |exact WZ<|aaB<|WZ<|aaD<|WZ<|aav h (λp S y=>W2<|And.intro rfl y) λ_ _ x=>x
   |(refine WZ<|aaB ?_;show wpAny _ _ (standAt cF.pos >>=_) _ _ s;exact WZ<|aaD<|WZ<|aav h (λp S y=>W2<|And.intro rfl y) λ_ _ x=>x)
def Ot(E:TI)(g:TG)(tt:TT)(tb:TB):TB:=λO H Q=>GL O g/\E O H λJ P=>rH J g tt tb O Q P
theorem xa{m a y U p:Expr}{b o:List Expr}{scope:Scope}{pos:Pos}{W:Value}{E:TI}{L:TB}(hc:X.calm=G')(B:PassesOwn (model X.prog X.w) X.A X.env X.xe)(hi:PI X U p E)(t:PG X U g)(ht:FI X o tt)(K:PB X (mB m W X.env) L)
  (l:∀x,foldedSetIterable p X.env x=pure x:=by intro _;rfl):PB X (nextOf (.ListComp m [#[a,y,b,0],#[U,p,o,0]] scope pos) 1 p W X.env) (Ot E g tt L):=by
 intro M s O H Q I #[A,h];refine WZ<|b9 (hi M s O H _ I h) λx Z k=>?_;refine WZ<|aaD<|WZ<|wpAny_of_eq (l x)<|WZ<|aau<|b9 k λrz i u=>?_;obtain⟨it,v,F,J,n,e,Y,T,P,f2,hW⟩:=u;subst e;have c:codeAny (model X.prog X.w) X.A (.compLoop (.ListComp m [#[a,y,b,0],#[U,p,o,0]] scope pos) 1 (.ref it) W X.env) (λr S=>match r with|.ok f=>∃j,Inv X M O j S/\Q j|.error e=>cameBackBy (model X.prog X.w) X.A X.env X.xe e S) i:=
  oX hc (FC ..) B t A ht K Y T P f2 hW λS j w q=>#[j,w,q]
 have run:wpAny (model X.prog X.w) X.A (runOwn (.compStart (.ListComp m [#[a,y,b,0],#[U,p,o,0]] scope pos) 1 (.ref it) W X.env) X.env) (λ_ S=>∃j,Inv X M O j S/\Q j) X.xe i:=
  wpAny_runOwn (p9 c<|T.self _ 0 _ _ _ P c)
 exact WZ<|aav run (λf S q=>W2 q) λ_ _ z=>z
end
theorem gZ:∀(names:List (Str×NameKind))(n:Nat)(W:List (Str×Addr)),(cellsFrom n names W).lookup x=y' c->(n<=c/\(x,NameKind.cell)∈names)\/W.lookup x=y' c
 |[],n,W,h=>.inr h
 |(y,k)::r,n,W,h=>by
  unfold cellsFrom at h;by_cases P:(k==NameKind.cell)=G'
  ·rw[aaf P]at h;rcases gZ r (n+1) _ h with ⟨Z,Y⟩|Z
   ·exact .inl #[Xf (ZL _) Z,W7 _ Y]
   ·rw[Xu]at Z;cases L:x==y with
    |true=>
     rw[L]at Z;cases Z;have:x=y:=by simpa using L
     subst this;have:k=NameKind.cell:=by simpa using P
     subst this;exact .inl #[W9 _,Xa]
    |false=>rw[L]at Z;exact .inr Z
  ·rw[aae P]at h;rcases gZ r n _ h with ⟨Z,Y⟩|Z
   ·exact .inl #[Z,W7 _ Y]
   ·exact .inr Z
theorem uL:∀(names:List (Str×NameKind))(n:Nat)(W:List (Str×Addr)),(∀x c,W.lookup x=y' c->c<n)->(∀x y c,W.lookup x=y' c->W.lookup y=y' c->x=y)->
  (cellsFrom n names W).lookup x=y' c->(cellsFrom n names W).lookup y=y' c->x=y
 |[],n,W,Z,Y,U,F=>Y x y c U F
 |(z,k)::r,n,W,Z,Y,U,F=>by
  unfold cellsFrom at U F;by_cases P:(k==NameKind.cell)=G'
  ·rw[aaf P]at U F;refine uL r (n+1) _ (λa b g=>?_) (λa b e m L=>?_) U F
   ·rw[Xu]at g;cases K:a==z with
    |true=>rw[K]at g;cases g;exact ZP _
    |false=>rw[K]at g;exact ZO<|Z a b g
   ·rw[Xu]at m L;cases K:a==z with
    |true=>
     rw[K]at m;cases m;cases h:b==z with
     |true=>
      have e1:a=z:=by simpa using K
      have e2:b=z:=by simpa using h
      rw[e1,e2]
     |false=>rw[h]at L;exact absurd (Z b _ L)<|ZM _
    |false=>
     rw[K]at m;cases h:b==z with
     |true=>rw[h]at L;cases L;exact absurd (Z a _ m)<|ZM _
     |false=>rw[h]at L;exact Y a b e m L
  ·rw[aae P]at U F;exact uL r n W Z Y U F
theorem p6:∀(names:List (Str×NameKind))(n:Nat)(W:List (Str×Addr)),(x,NameKind.cell)∉names->W.lookup x=y' c->(cellsFrom n names W).lookup x=y' c
 |[],n,W,_,h=>h
 |(z,k)::r,n,W,I,h=>by
  unfold cellsFrom;by_cases P:(k==NameKind.cell)=G'
  ·rw[aaf P];refine p6 r (n+1) _ (λg=>I<|W7 _ g) ?_;rw[Xu];have:(x==z)=J':=by
    cases K:x==z with
    |false=>rfl
    |true=>
     have e1:x=z:=by simpa using K
     have e2:k=NameKind.cell:=by simpa using P
     subst e1 e2;exact absurd Xa I
   rw[this];exact h
  ·rw[aae P];exact p6 r n W (λg=>I<|W7 _ g) h
theorem mh:∀(names:List (Str×NameKind))(h:Heap)(W:List (Str×Addr)),(∀x c,W.lookup x=y' c->∃v,h.IsCell c v)->(cellsFrom h.objs.size names W).lookup x=y' c->∃v,(pushCells h names).IsCell c v
 |[],h,W,m,U=>m x c U
 |(z,k)::r,h,W,m,U=>by
  unfold cellsFrom at U;unfold pushCells;by_cases P:(k==NameKind.cell)=G'
  ·rw[aaf P]at U ⊢;refine mh r _ ((z,h.objs.size)::W) (λa b g=>?_) (by rw[Xy];exact U);rw[Xu]at g;cases K:a==z with
   |true=>rw[K]at g;cases g;exact#[B',_,Xb _ rfl,rfl]
   |false=>rw[K]at g;obtain⟨v,o,j,hd⟩:=m a b g;exact#[v,o,W1 _ j,hd]
  ·rw[aae P]at U ⊢;exact mh r h W m U
theorem ue
  (L:∀y,y=pushCells (s.heap.push {cls:=.type "dict",data:=.dict #[]}) scope.names->Q (newEnv scope s.heap.objs.size globals (cellsFrom (s.heap.objs.size+1) scope.names cl) qual B' .none (y' out) builtinsNs) {s with heap:=y}):
  wpAny M A (newFunctionEnv scope globals cl [] qual B' .none<|y' out) Q E s:=by
 simp only[newFunctionEnv,Option.isSome_some,aag];refine WZ<|wpAny_alloc ?_;refine WZ<|wpAny_layCells _ (λname kind b=>by cases a:kind==NameKind.cell<;>simp[a]) _ _ _ _ ?_;rw[show ({s with heap:=s.heap.push {cls:=.type "dict",data:=.dict #[]}}:Shared).heap.objs.size=s.heap.objs.size+1 from Xy ..];rw[List.forIn_nil];exact WZ<|W2<|W2<|L _ rfl
def ji(X:Cx)(scope:Scope)(a:List Str)(C:Addr)(s:Shared)(H:Hp)(v:List Addr)(xe:Value->Shared->Prop):Cx:=
 {X with N:=a,s₀:=s,H₀:=H,env:=compEnvC scope (cellsFrom (C+1) scope.names<|gf scope X.env) C X.env,outer:=X.stack,stack:=X.stack,ex:=v,fn:=λx=>scope.names.lookup x==y' .cell,pn:=[],xe:=xe}
structure gd(X:Cx)(scope:Scope)(N':List Str)(cap:List (Option Nat)):Prop where
 kind:scope.kind= .function
 nd:∀y∈scope.names,scope.names.lookup y.1=y' y.2
 free:∀y∈scope.names,y.2= .free->X.env.scope.names.lookup y.1=y' .cell\/X.env.scope.names.lookup y.1=y' .free
 yd:∀(j i:Nat),cap[j]?=y' (y' i)->∃x,N'[j]?=y' x/\X.N[i]?=y' x/\scope.names.lookup x=y' .free
 len:cap.length=N'.length
section
variable{X:Cx}{scope:Scope}{N':List Str}{cap:List (Option Nat)}{K':List (Addr×Obj)}{σ:St}{H:Hp}{s:Shared}
theorem gd.frees(B:gd X scope N' cap)(ok:X.Ok):∀y∈scope.names,y.2= .free->∃c,X.env.cells.lookup y.1=y' c:=λy F A=>ok.has y.1<|B.free y F A
theorem gd.up(B:gd X scope N' cap)(ok:X.Ok)(h:(gf scope X.env).lookup x=y' c):X.env.cells.lookup x=y' c:=
 kD scope.names [] (B.frees ok) (λ_ z=>by simp at z) h
theorem gd.td(B:gd X scope N' cap)(h:scope.names.lookup x=y' .free):(x,NameKind.cell)∉scope.names:=λz=>by have:=B.nd _ z;rw[h]at this;cases this
theorem uI(B:gd X scope N' cap)(I:Inv X K' σ H s){fp:List Addr}(A:∀b∈fp,ja X K' H b)(t:∀b∈fp,b<s.heap.objs.size):
  Inv (ji X scope N' s.heap.objs.size s H fp xe) [] (dm cap σ) H {s with heap:=pushCells (s.heap.push {cls:=.type "dict",data:=.dict #[]}) scope.names,toks:=tk}:=by
 have ok:=I.ok;have g:(s.heap.push {cls:=.type "dict",data:=.dict #[]}).objs.size=s.heap.objs.size+1:=Xy ..;have P:∀b o,s.heap.get? b=y' o->(pushCells (s.heap.push {cls:=.type "dict",data:=.dict #[]}) scope.names).get? b=y' o:=λb o e=>aao _ _ _ _ (W1 _ e)
 have oj:(pushCells (s.heap.push {cls:=.type "dict",data:=.dict #[]}) scope.names).Ns s.heap.objs.size λ_=>B':=(Heap.Ns.new s.heap<|.type "dict").keeps (aao _ _)
 have UD:∀x c,(gf scope X.env).lookup x=y' c->c<s.heap.objs.size:=λx c h=>by obtain⟨v,z⟩:=I.cell x c<|B.up ok h;exact z.lt
 have Aw:∀x c,(cellsFrom (s.heap.objs.size+1) scope.names<|gf scope X.env).lookup x=y' c->(s.heap.objs.size+1<=c/\(x,NameKind.cell)∈scope.names)\/X.env.cells.lookup x=y' c:=λx c h=>(gZ _ _ _ h).imp id (B.up ok)
 have u7:∀x,scope.names.lookup x=y' .free->(compEnvC scope (cellsFrom (s.heap.objs.size+1) scope.names<|gf scope X.env) s.heap.objs.size X.env).kindOf x=y' .cell\/(compEnvC scope (cellsFrom (s.heap.objs.size+1) scope.names<|gf scope X.env) s.heap.objs.size X.env).kindOf x=y' .free:=λx U=>by
  have q:=ba (env:=X.env) U;by_cases J:(NameKind.free==NameKind.free&&X.env.scope.kind== .function&&X.env.kindOf x==y' .cell)=G'
  ·rw[aaf J]at q;exact .inl q
  ·rw[aae J]at q;exact .inr q
 refine#[#[ok.mod,?kind,ok.glob,ok.blt,W9 _,?inj,?has,?C0,ok.hd,ok.frames,.inl rfl,?Gd,I.bs,Xf ok.CZ I.sz,?oF,?qg,I.stack,I.qY],
  rfl,I.bare,Un.kept P,#[_,oj,?loc],?cell,I.hok.fresh<|W9 _,?cV,?pin,I.hok.kept P,?len]
 case kind=>exact B.kind
 case inj=>exact λx y c Z Y=>uL _ _ _ (λx c h=>ZO<|UD x c h) (λx y c Z Y=>ok.inj x y c (B.up ok Z)<|B.up ok Y) Z Y
 case has=>
  intro x U;cases W:scope.names.lookup x with
  |none=>
   have q:=cu (env:=X.env) W;exact absurd U (by
    have q':(compEnvC scope (cellsFrom (s.heap.objs.size+1) scope.names<|gf scope X.env) s.heap.objs.size X.env).kindOf x=B':=q;show¬((compEnvC scope (cellsFrom (s.heap.objs.size+1) scope.names<|gf scope X.env) s.heap.objs.size X.env).kindOf x=y' .cell\/(compEnvC scope (cellsFrom (s.heap.objs.size+1) scope.names<|gf scope X.env) s.heap.objs.size X.env).kindOf x=y' .free);rw[q'];simp)
  |some k=>
   have q:(compEnvC scope (cellsFrom (s.heap.objs.size+1) scope.names<|gf scope X.env) s.heap.objs.size X.env).kindOf x=y' (if (k==NameKind.free&&X.env.scope.kind== .function&&X.env.kindOf x==y' .cell) then NameKind.cell else k):=ba W;have E:=Z7 W;by_cases DX:k= .free
   ·subst DX;obtain⟨c,Bb⟩:=ml scope.names []<|.inl E;exact#[c,p6 _ _ _ (B.td W) Bb]
   ·have L:(k==NameKind.free)=J':=by simpa using DX
    have Bn:(compEnvC scope (cellsFrom (s.heap.objs.size+1) scope.names<|gf scope X.env) s.heap.objs.size X.env).kindOf x=y' .cell\/(compEnvC scope (cellsFrom (s.heap.objs.size+1) scope.names<|gf scope X.env) s.heap.objs.size X.env).kindOf x=y' .free:=U;rw[q,L]at Bn;simp only[Bool.false_and,aad,Option.some.injEq]at Bn;rcases Bn with z|z
    ·subst z;exact Option.isSome_iff_exists.mp<|Z5 scope.names _ _<|.inl W
    ·exact absurd z DX
 case C0=>
  intro x c zA h;rcases gZ _ _ _ h with ⟨Z,_⟩|Z
  ·exact Xf (ZL _) Z
  ·exfalso;have e:=Xr zA;have:∀(l:List (Str×NameKind))(w:List (Str×Addr)),(∀c,w.lookup x≠y' c)->(∀y∈l,y.1=x->y.2≠ .free)->(rT X.env l w).lookup x=B':=by
    intro l
    induction l with
    |nil=>
     intro w S _;cases K:w.lookup x with
     |none=>exact K
     |some c=>exact absurd K<|S c
    |cons y l O=>
     intro w S W;obtain⟨n,k⟩:=y;refine O _ (λc=>?_) λy hy=>W y (W7 _ hy)
     by_cases P:(k==NameKind.free)=G'
     ·rw[aaf P,Xu];have:(x==n)=J':=by
       cases K:x==n with
       |false=>rfl
       |true=>
        have e1:x=n:=by simpa using K
        have e2:k=NameKind.free:=by simpa using P
        exact absurd e2 (W (n,k) Xa e1.symm)
      rw[this];exact S c
     ·rw[aae P];exact S c
   have q:=this scope.names [] (λc z=>by simp at z) λy hy e1 e2=>by have:=B.nd y hy;rw[e1,e2,e]at this;cases this
   unfold gf at Z;rw[q]at Z;cases Z
 case Gd=>
  intro b L;refine#[Xz<|t b L,λx c e=>?_];rcases Aw x c e with ⟨Z,_⟩|Z
  ·intro z;subst z;exact absurd (Xp (t c L)<|Xf (ZL _) Z)<|ZM _
  ·exact(A b L).2.2.2.2.1 x c Z
 case oF=>
  intro b o e L;rcases (A b L).2.2.2.1 with z|z
  ·exact ok.oF b o e z
  ·exact absurd (Xp (Xe (ok.bs b o e).1) z) (ZM _)
 case qg=>
  intro b L hs;rcases Xg.mp (I.nO b hs)with z|z
  ·exact(A b L).2.1 z
  ·exact(A b L).2.2.1 z
 case loc=>
  intro j x v Z Y h3;have F:∃i,cap[j]?=y' (y' i)/\(σ[i]?).join=y' v:=by
   unfold dm at Y;rw[Xn]at Y;cases J:cap[j]? with
   |none=>rw[J]at Y;cases Y
   |some o=>
    rw[J]at Y;cases o with
    |none=>cases Y
    |some i=>exact#[i,rfl,by simpa using Y]
  obtain⟨i,J,M⟩:=F;obtain⟨x',e1,e2,e3⟩:=B.yd j i J;have ex:x'=x:=by have Qw:N'[j]?=y' x:=Z;rw[Qw]at e1;injection e1 with e1;exact e1.symm
  subst ex;have yC:σ[i]?=y' (y' v):=by
   cases q:σ[i]? with
   |none=>rw[q]at M;cases M
   |some o=>rw[q]at M;cases o with
    |none=>cases M
    |some z=>simp at M;rw[M]
  have Mw:=B.free _ (Z7 e3) rfl;obtain⟨m,hn,W⟩:=I.loc;obtain⟨u,r,l⟩:=W i x' v e2 yC<|.inr Mw;refine#[u,r,?_];obtain⟨c,Bb⟩:=ml scope.names []<|.inl<|Z7 e3;have Tu:=B.up ok Bb;rcases l with ⟨k,_⟩|⟨k,c',e,z⟩
  ·exfalso;have Q:X.env.scope.names.lookup x'=y' .local:=k;rcases Mw with q|q
   ·rw[Q]at q;cases q
   ·rw[Q]at q;cases q
  ·have UI:c'=c:=by rw[e]at Tu;injection Tu
   subst UI;exact .inr #[u7 x' e3,c',p6 _ _ _ (B.td e3) Bb,by obtain⟨o,ho,hd⟩:=z;exact#[o,P _ _ ho,hd]]
 case cell=>intro x c e;refine mh scope.names (s.heap.push {cls:=.type "dict",data:=.dict #[]}) (gf scope X.env) (λa b i7=>?_) (by rw[g];exact e);obtain⟨v,o,ho,hd⟩:=I.cell a b<|B.up ok i7;exact#[v,o,W1 _ ho,hd]
 case cV=>
  intro x c e;rcases Aw x c e with ⟨Z,_⟩|Z
  ·exact I.hok.fresh<|Xf (ZL _) Z
  ·exact I.cV x c Z
 case pin=>intro p hp;cases hp
 case len=>show (dm cap σ).length=N'.length;unfold dm;rw[Xd];exact B.len
def FJ(X:Cx)(C:Addr)(x:Value)(S:Shared):Prop:=∃m,S.heap.Ns C m/\∀y,Heap.SameBut C S.heap y->∀q:Env,q.locals=C->wpAny (model X.prog X.w) X.A (passOn "comprehension.variables-let-go" x q:Sem Value) (λ_ _=>False) X.xe {S with heap:=y}
structure De(X:Cx)(scope:Scope)(N':List Str)(xb:Addr->Shared->Hp->List Addr->Value->Shared->Prop):Prop where
 note:∀(K':List (Addr×Obj))(σ:St)(C:Addr)(s s1:Shared)(H H1:Hp)(fp:List Addr)x s',Inv X K' σ H1 s1->(∀b∈fp,ja X K' H1 b)->s1.heap.objs.size<C->s={s1 with heap:=s1.heap.push {cls:=.type "list",data:=.seq ([]:List Value).toArray},toks:=s1.toks}->H=upd H1 s1.heap.objs.size (.lst [])->C=s.heap.objs.size->
  xb C s H fp x s'->notedBy (model X.prog X.w) X.A (ji X scope N' C s H fp<|xb C s H fp).env (FJ X C) x s'
variable{elt tg iter:Expr}{ifs:List Expr}{pos:Pos}{g:TG}{tt:TT}
theorem oV{tb:Addr->TB}{body:Value->Env->Sem Unit}{RR:Value->Addr->Result->Shared->Prop}(hc:X.calm=G')(B:gd X scope N' cap)(r:De X scope N' xb)
  (U:∀a W env,compTurn (.ListComp elt (#[tg,iter,ifs,0]::gens) scope pos) 0 a W env=fW (.ListComp elt (#[tg,iter,ifs,0]::gens) scope pos) 0 a W env tg ifs p (body W env))
  (A:GL (dm cap σ) g) (t:∀C s H v,PG (ji X scope N' C s H v<|xb C s H v) tg g) (ht:∀C s H v,FI (ji X scope N' C s H v<|xb C s H v) ifs tt) (L:∀C s H v D,PB (ji X scope N' C s H v<|xb C s H v) (body (.ref D) (ji X scope N' C s H v<|xb C s H v).env)<|tb D)
  (Y:Inv X K' σ H2 s2) (T:Turn X.prog X.w X.K tg J v it tn) (eI:tn 0 s2.heap) (Q:∀b∈v,ja X K' H2 b) (n:rH J g tt (tb s2.heap.objs.size) (dm cap σ) F (upd H2 s2.heap.objs.size<|.lst []))
  (Vc:∀C S j m,s2.heap.objs.size<C->Inv X K' σ j S->S.heap.Ns C m->ja X K' j C->F j->RR (.ref s2.heap.objs.size) C (.ok .next) S) (Tq:∀C x S,FJ X C x S->RR (.ref s2.heap.objs.size) C (.error x) S) :
  wpAny (model X.prog X.w) X.A (newList []) (λW s₃=>wpAny (model X.prog X.w) X.A (newFunctionEnv scope X.env.globals (gf scope X.env) [] X.env.qual B' .none<|y' X.env) (λye s₄=>
   codeAny (model X.prog X.w) X.A (.compStart (.ListComp elt (#[tg,iter,ifs,0]::gens) scope pos) 0 (.ref it) W {ye with scope:=relabel scope X.env}) (RR W ye.locals) s₄) E s₃) E s2:=by
 refine aaw<|ue λk M=>?_;have I3:=Y.IJ (t':=s2.toks) .nil<|ZW _;dsimp only at M ⊢;have hC:(s2.heap.push {cls:=.type "list",data:=.seq ([]:List Value).toArray}).objs.size=s2.heap.objs.size+1:=Xy ..;generalize O:s2.heap.objs.size=D at *;have C3:∀b∈v,b<D:=λb L=>by obtain⟨o,e,_⟩:=T.obj 0 _ eI b L;rw[<-O];exact Xe e
 have f3:∀b∈v,ja X K' (upd H2 D<|.lst []) b:=λb L=>#[by rw[aN (Xz<|C3 b L)];exact(Q b L).1,(Q b L).2]
 generalize Im:({s2 with heap:=s2.heap.push {cls:=.type "list",data:=.seq ([]:List Value).toArray},toks:=s2.toks}:Shared)=s3 at I3;have Bl:s3.heap=s2.heap.push {cls:=.type "list",data:=.seq ([]:List Value).toArray}:=by rw[<-Im]
 have Gf:s3.heap.objs.size=D+1:=by rw[Bl];exact hC
 have IB:=uI (xe:=xb s3.heap.objs.size s3 (upd H2 D<|.lst []) v) (tk:=s2.toks) B I3 f3 (λb L=>by rw[Gf];exact ZO<|C3 b L);have P:∀b o,s3.heap.get? b=y' o->(pushCells (s3.heap.push {cls:=.type "dict",data:=.dict #[]}) scope.names).get? b=y' o:=λb o e=>aao _ _ _ _ (W1 _ e)
 rw[<-Bl]at M;rw[<-M]at IB P;have e4:({s3 with heap:=k,toks:=s2.toks}:Shared)={s2 with heap:=k}:=by rw[<-Im]
 rw[e4]at IB;rw[hC];have qW:∀{j:Hp},(∀b∈v,j b=B')->∀b∈v,ja (ji X scope N' s3.heap.objs.size s3 (upd H2 D<|.lst []) v<|xb s3.heap.objs.size s3 (upd H2 D<|.lst []) v) [] j b:=λI b L=>
  #[I b L,by show b≠s3.heap.objs.size;rw[Gf];exact Xz<|ZO<|C3 b L,λz=>(by
   rcases Xg.mp (I3.nO b z)with q|q
   ·exact(f3 b L).2.1 q
   ·exact(f3 b L).2.2.1 q),.inl L,(IB.ok.Gd b L).2,λp hp=>absurd hp<|by intro z;cases z]
 have c:∀S:Shared,S={s2 with heap:=k}->codeAny (model X.prog X.w) X.A (.compLoop (.ListComp elt (#[tg,iter,ifs,0]::gens) scope pos) 0 (.ref it) (.ref D) (ji X scope N' s3.heap.objs.size s3 (upd H2 D<|.lst []) v<|xb s3.heap.objs.size s3 (upd H2 D<|.lst []) v).env)
   (RR (.ref D)<|D+1) S:=by
  rintro S rfl;refine oX (X:=ji X scope N' s3.heap.objs.size s3 (upd H2 D<|.lst []) v<|xb s3.heap.objs.size s3 (upd H2 D<|.lst []) v) hc (U _ _ _) (λx S q=>?_) (t _ _ _ _) A (ht _ _ _ _) (L _ _ _ _ D) IB T (T.keep _ _ _ eI λb L o e=>P b o<|by rw[Bl];exact W1 _ e) (qW λb L=>(f3 b L).1) n λZ l K qn=>?_
  ·have z:=r.note K' σ s3.heap.objs.size s3 s2 (upd H2 D<|.lst []) H2 v x S Y Q (by rw[Gf,O];exact ZP _) Im.symm (by rw[O]) rfl q;rw[Gf]at z;exact aav z (λ_ i w=>Tq (D+1) x i w) λy i w=>Tq (D+1) y i w
  ·obtain⟨m5,Mo,_⟩:=K.loc;have un:Un (fE X.stack) v H2 l s2.heap Z.heap:=by
    have h:Un (fE X.stack) v H2 (upd H2 D<|.lst []) s2.heap s3.heap:=by rw[Bl];exact Un.laid (λb u e=>W1 _ e) (by rw[O];exact W9 _) (by rw[<-O];exact Y.fresh)
    exact h.trans K.base
   have hI:=Y.Ao (K.os.trans<|by show s3.os=s2.os;rw[<-Im]) un K.hok K.bare λb L=>#[(Q b L).2.2.2.1,(Q b L).2.1,(Q b L).2.2.2.2.1,(Q b L).2.2.2.2.2]
   have Bi:Z.heap.Ns (D+1) m5:=by have q:=Mo;rw[Gf]at q;exact q
   have QD:l (D+1)=B':=by have q:=K.free;rw[Gf]at q;exact q
   exact Vc (D+1) Z l m5 (ZP _) hI Bi (Y.qo (by rw[O];exact ZL _) QD) qn
 have Qy:({newEnv scope (D+1) X.env.globals (cellsFrom (D+1+1) scope.names<|gf scope X.env) X.env.qual B' .none (y' X.env) builtinsNs with scope:=relabel scope X.env}:Env)=(ji X scope N' s3.heap.objs.size s3 (upd H2 D<|.lst []) v<|xb s3.heap.objs.size s3 (upd H2 D<|.lst []) v).env:=by rw[Gf];rfl
 have go:=codeAny_compStart_list (c _ rfl)<|T.self X.A 0 _ _ _ (T.keep _ _ _ eI λb L o e=>P b o<|by rw[Bl];exact W1 _ e)<|c _ rfl;rw[<-Qy]at go;exact go
end
def q9(cap:List (Option Nat))(E:TI)(g:TG)(tt:TT)(tb:Addr->TB):TE:=λO H Q=>E O H λJ P=>∀D,P D=B'->GL (dm cap O) g/\rH J g tt (tb D) (dm cap O) (λj=>Q (.ref D) j) (upd P D<|.lst [])
section
variable{X:Cx}{scope:Scope}{N':List Str}{cap:List (Option Nat)}{elt tg iter:Expr}{ifs:List Expr}{gens:List Comprehension}{pos p:Pos}{wi:TI}{g:TG}{tt:TT}{tb:Addr->TB}{body:Value->Env->Sem Unit}{xb:Addr->Shared->Hp->List Addr->Value->Shared->Prop}
theorem tj(hc:X.calm=G')(B:gd X scope N' cap)(r:De X scope N' xb)(hi:PI X tg iter wi)(U:∀a W env,compTurn (.ListComp elt (#[tg,iter,ifs,0]::gens) scope pos) 0 a W env=fW (.ListComp elt (#[tg,iter,ifs,0]::gens) scope pos) 0 a W env tg ifs p (body W env))
  (t:∀C s H v,PG (ji X scope N' C s H v<|xb C s H v) tg g) (ht:∀C s H v,FI (ji X scope N' C s H v<|xb C s H v) ifs tt) (L:∀C s H v D,PB (ji X scope N' C s H v<|xb C s H v) (body (.ref D) (ji X scope N' C s H v<|xb C s H v).env)<|tb D)
  (l:∀x,foldedSetIterable iter X.env x=pure x:=by intro _;rfl):PE X (.ListComp elt (#[tg,iter,ifs,0]::gens) scope pos) (q9 cap wi g tt tb):=by
 intro M s O H Q I h;rw[eval_ListComp];refine wpAny_comprehension_free rfl l (iM<|B.frees I.ok) B.kind (λy F e=>by rw[B.nd y F,e])<|b9 (hi M s O H _ I h) λx Z k=>b9 k λa i u=>?_;obtain⟨it,v,tn,J,n,e,Y,T,P,f2,hF⟩:=u;subst e;obtain⟨A,hW⟩:=hF _ Y.fresh;refine oV hc B r U A t ht L Y T P f2 hW (λC S j m hC w hn E q=>?_) λC x S z=>z
 refine#[m,hn,λh' c=>#[.ref _,j,w.turned (λb o L e=>(c.2 b L).trans e) E.1 E.2.1 E.2.2.2.1 E.2.2.2.2.1 E.2.2.2.2.2,rfl,q]]
theorem kJ{i:Nat}{x:Str}{c Og:Pos}(hc:X.calm=G')(hN:X.N.Nodup)(DU:X.N[i]?=y' x)(U:X.env.kindOf x=y' .local)(B:gd X scope N' cap)(r:De X scope N' xb)(hi:PI X tg iter wi)(heq:∀rz W env,compTurn (.ListComp elt (#[tg,iter,ifs,0]::gens) scope pos) 0 rz W env=fW (.ListComp elt (#[tg,iter,ifs,0]::gens) scope pos) 0 rz W env tg ifs p (body W env))
  (t:∀C s H fp,PG (ji X scope N' C s H fp<|xb C s H fp) tg g) (ht:∀C s H fp,FI (ji X scope N' C s H fp<|xb C s H fp) ifs tt) (L:∀C s H fp D,PB (ji X scope N' C s H fp<|xb C s H fp) (body (.ref D) (ji X scope N' C s H fp<|xb C s H fp).env)<|tb D)
  (l:∀x,foldedSetIterable iter X.env x=pure x:=by intro _;rfl)
  (Io:swapsWith (.ListComp elt (#[tg,iter,ifs,0]::gens) scope pos) (y'<|.Name x c) Og.line X.env=pure G':=by rfl):
  PS X (.Assign [.Name x c] (.ListComp elt (#[tg,iter,ifs,0]::gens) scope pos) Og) (oJ (q9 cap wi g tt tb)<|e9 i):=by
 intro M s O H D I h;rw[exec_Assign_Name_used _ _ _ _ Io];refine WZ<|aaD<|WZ ?_;refine WZ (aav (wpAny_comprehension_free rfl l (iM<|B.frees I.ok) B.kind (λy F e=>by rw[B.nd y F,e])<|b9 (hi M s O H _ I h) λx Z k=>b9 k λrz s₂ u=>?_)
  (λ_ S K=>W2<|W2 K) λ_ _ e=>e)
 obtain⟨it,fp,tn,J,n,e,Y,T,P,Q,hF⟩:=u;subst e;obtain⟨A,hW⟩:=hF _ Y.fresh;refine oV hc B r heq A t ht L Y T P Q hW (λC S j m hC w hn E q=>?_) λC x S z=>z
 refine wpAny_assign_Name<|pH (v:=.ref _) w hN DU (.inl U) rfl (λs3 I3 hsb=>?_)<|.inr U;obtain⟨a,sb,ha⟩:=hsb;have U1:C≠a:=by
  rcases ha with rfl|ha
  ·exact E.2.1
  ·exact ZX (E.2.2.2.2.1 _ a ha)
 refine#[m,hn.sameBut sb U1,λh' hsb'=>?_];exact#[_,j,I3.turned (λb o L e=>(hsb'.2 b L).trans e) E.1 E.2.1 E.2.2.2.1 E.2.2.2.2.1 E.2.2.2.2.2,q]
end
end L2
end
section
namespace Mx
open PySem
structure Dd(s s':Heap):Prop where
 sz:s.objs.size<=s'.objs.size
 none:∀b,b<s.objs.size->s.get? b=B'->s'.get? b=B'
theorem Dd.refl(h:Heap):Dd h h:=#[W9 _,λ_ _ z=>z]
theorem Dd.trans(x:Dd a b)(y:Dd b c):Dd a c:=#[Xf x.sz y.sz,λk P z=>y.none k (Xp P x.sz)<|x.none k P z]
theorem Dd.push(h:Heap)(o):Dd h (h.push o):=#[by rw[Xy];exact ZL _,λb L z=>by
 cases K:(h.push o).get? b with
 |none=>rfl
 |some w=>
  obtain⟨S,A⟩:=Heap.get?_some_iff.mp K;have U:h.objs[b]?=y' w:=by have e:(h.objs.push o)[b]?=y' w:=S;rw[Array.getElem?_push,aae (Xz L)]at e;exact e
  rw[Heap.get?_some_iff.mpr #[U,A]]at z;cases z]
theorem Dd.update(h:Heap)(a)(f)(m:(h.get? a).isSome):Dd h (h.update a f):=#[by rw[Heap.size_after_update];exact W9 _,λb L z=>by
 by_cases e:a=b
 ·subst e;rw[z]at m;cases m
 ·rw[Xw _ _ e];exact z]
theorem qQ(h:Runs M Γ p t fs s e s'):Dd s.heap s'.heap:=by
 induction h with
 |update m _ O=>exact(Dd.update _ _ _ m).trans O
 |alloc _ O=>exact(Dd.push _ _).trans O
 |done=>exact Dd.refl _
 |raise=>exact Dd.refl _
 |yield=>exact Dd.refl _
 |call _ _ g c=>exact g.trans c
 |resumeFresh _ _ _ _ g c=>exact Dd.trans g c
 |resumeSuspended _ _ _ _ g c=>exact Dd.trans g c
 |segRet _ _ g c=>exact g.trans c
 |segGen _ _ g c=>exact Dd.trans g c
 |segSuspGen _ _ _ _ g c=>exact Dd.trans g c
 |_=>assumption
theorem CJ(h:Wakes M Γ p g r s res s'):Dd s.heap s'.heap:=by
 unfold Wakes at h;split at h
 ·exact h.elim
 ·split at h
  ·obtain⟨a,Z,w,_,_,rfl⟩:=h;exact(qQ w:Dd (s.setGen g .running).heap Z.heap)
  ·rw[h.2];exact Dd.refl _
  ·rw[h.2];exact Dd.refl _
 ·obtain⟨a,Z,w,_,_,rfl⟩:=h;exact(qQ w:Dd (s.setGen g .running).heap Z.heap)
 ·rw[h.2];exact Dd.refl _
 ·rw[h.2];exact Dd.refl _
theorem OJ(M)(b)(h0:Heap)(t):∀(Q:α->Pos->Shared->Prop)(E:Value->Pos->Shared->Prop)(p:Pos)(s:Shared),Dd h0 s.heap->Sem.wp M b t Q E p s->
  Sem.wp M b t (λa u S=>Dd h0 S.heap/\Q a u S) (λe u S=>Dd h0 S.heap/\E e u S) p s:=by
 induction t with
 |pure a=>intro Q E p s I h;exact#[I,h]
 |raise e=>intro Q E p s I h;exact#[I,h]
 |unsupported _=>intro Q E p s _ h;exact h
 |finish _=>intro Q E p s _ h;exact h
 |rule _ k O=>intro Q E p s I h;exact O () Q E p s I h
 |«at» u k O=>intro Q E p s I h;exact O () Q E u s I h
 |load a _ k O=>intro Q E p s I h;obtain⟨o,j,h⟩:=h;exact#[o,j,O o Q E p s I h]
 |update a _ f k O=>intro Q E p s I h;exact#[h.1,O () Q E p _ (I.trans<|Dd.update _ _ _ h.1) h.2]
 |loadIfAlive a k O=>intro Q E p s I h;exact O _ Q E p s I h
 |point _ k O=>intro Q E p s I h;exact O () Q E p s I h
 |register _ _=>intro Q E p s _ h;exact h
 |alloc o k O=>intro Q E p s I h;exact O _ Q E p _ (I.trans<|Dd.push _ _) h
 |fresh k O=>intro Q E p s I h;exact O _ Q E p _ I h
 |ask k O=>intro Q E p s I h;exact O _ Q E p s I h
 |choose src m k O=>intro Q E p s I h;exact#[h.1,O _ Q E p _ I h.2]
 |os q _ k O=>intro Q E p s I h;exact O _ Q E p _ I h
 |call c hd _ _ k O=>intro Q E p s I h;obtain⟨r,S,w,h⟩:=h;exact#[r,S,w,O r Q E p S (I.trans<|qQ w) h]
 |handled own k O=>intro Q E p s I h;exact O _ Q E p s I h
 |genState g k O=>intro Q E p s I h;obtain⟨st,l,h⟩:=h;exact#[st,l,O _ Q E p s I h]
 |newGen c k O=>intro Q E p s I h;exact O _ Q E p _ I h
 |resume g r _ k O=>intro Q E p s I h;obtain⟨i,S,B,h⟩:=h;exact#[i,S,B,O i Q E p S (I.trans<|CJ B) h]
 |yield _ _ _ _=>intro Q E p s _ h;exact h
 |stack k O=>intro Q E p s I h;exact O _ Q E p s I h
 |fork _ _=>intro Q E p s _ h;exact h
 |thread k O=>intro Q E p s I h;exact O _ Q E p s I h
 |await _ _ _ _ _=>intro Q E p s _ h;exact h
theorem oM{t:Sem α}{Q:α->Shared->Prop}(h:wpAny M A t (λa S=>Dd s.heap S.heap->Q a S) (λe S=>Dd s.heap S.heap->E e S) s):wpAny M A t Q E s:=
 have q:wpAny M A t (λa S=>Dd s.heap S.heap/\(Dd s.heap S.heap->Q a S)) (λe S=>Dd s.heap S.heap/\(Dd s.heap S.heap->E e S)) s:=λb p c=>OJ M b s.heap t _ _ p s (Dd.refl _) (h b p c)
 aav q (λ_ _ x=>x.2 x.1) (λ_ _ x=>x.2 x.1)
end Mx
end
section
namespace L2
open PySem PySem.Spec PyProof.Rows
theorem my(o:Obj)(f):(o.mapFields f).dict=o.dict:=by obtain⟨c,d,j,Y⟩:=o;cases j<;>rfl
def dO(h:Heap)(a T:Addr):Prop:=∃o U,h.get? a=y' o/\o.data= .fields U/\U[1]?=y' (.ref T)
structure i9(N:Nat)(cls:Value)(a:Addr)(H:Hp)(h:Heap):Prop where
 ge:N<=a
 nH:H a=B'
 obj:∃o vs,h.get? a=y' o/\(o.cls=cls/\o.dict=B')/\o.data= .fields vs/\(vs[1]?=y' .none\/∃T,vs[1]?=y' (.ref T))
 tb:∀T,dO h a T->N<=T/\H T=B'/\T≠a/\∃oT ts,h.get? T=y' oT/\oT.data= .fields ts/\3<ts.size
structure ux(fs:List Addr)(a:Addr)(h h':Heap):Prop where
 keep:∀b o,h.get? b=y' o->b≠a->¬dO h a b->b∉fs->h'.get? b=y' o
 slot:∀b o,h.get? b=y' o->b≠a->¬dO h a b->∃sl,h'.get? b=y' {o with slots:=sl}
 there:∀b o,h.get? b=y' o->∃o',h'.get? b=y' o'
 tb:∀T,dO h' a T->dO h a T\/h.get? T=B'
theorem ux.trans(x:ux fs a h h1)(y:ux fs a h1 h2):ux fs a h h2 where
 keep:=λb o e n p O=>by
  have e1:=x.keep b o e n p O;exact y.keep b o e1 n (λz=>by
   rcases x.tb b z with q|q
   ·exact p q
   ·rw[e]at q;cases q) O
 slot:=λb o e n p=>by
  obtain⟨Y,e1⟩:=x.slot b o e n p;obtain⟨m,e2⟩:=y.slot b _ e1 n (λz=>by
   rcases x.tb b z with q|q
   ·exact p q
   ·rw[e]at q;cases q)
  exact#[m,e2]
 there:=λb o e=>by obtain⟨o1,e1⟩:=x.there b o e;exact y.there b o1 e1
 tb:=λT z=>by
  rcases y.tb T z with q|q
  ·exact x.tb T q
  ·right;cases K:h.get? T with
   |none=>rfl
   |some o=>obtain⟨w,J⟩:=x.there T o K;rw[J]at q;cases q
theorem ux.refl:ux fs a h h:=#[λ_ _ e _ _ _=>e,λ_ o e _ _=>#[o.slots,e],λ_ o e=>#[o,e],λ_ z=>.inl z]
section
variable{M:Model}{A:Around}{E:Value->Shared->Prop}{s:Shared}{N:Nat}{cls:Value}{a:Addr}{H:Hp}{base:Heap}{env gE:Env}{outer:List Env}{L:Addr}
theorem kS(e)(h:env.frame=gE.frame):noteFrame e env=noteFrame e gE:=by unfold noteFrame PySem.frameOf;rw[h]
theorem r8(v:A.frames=y' (env::outer))(W:s.heap.FunFrames base (env::outer))(hf:env.frame=y' L)(F:i9 N cls a H s.heap)(c:∀b,s.heap.objs.size<=b->H b=B')
  (q:∀y,ux (fE (env::outer)) a s.heap y->i9 N cls a H y->(∃T,dO y a T)->Q () {s with heap:=y}):
  wpAny M A (do let x<-frameOf env;let pl<-entryPlaceOf L DP;let b<-EntryCells.newEntry head x .none (rawInt L) .none pl;setField (.ref a) 1 b) Q E s:=by
 obtain⟨B,U,K,w,hd,Z⟩:=F.obj;have u:1<U.size:=by rcases Z with Z|⟨T,Z⟩<;>exact(Array.getElem?_eq_some_iff.mp Z).1
 have QX:a∉fE (env::outer):=λhm=>by obtain⟨_,o,j,Pv⟩:=W.mem hm;rw[K]at j;injection j with j;subst j;exact Pv U hd
 refine WZ<|wpAny_frameOf_fun v W hf λk h=>?_;refine WZ<|wpAny_entryPlaceOf λpl i=>?_;refine WZ<|aaw ?_<|i.sizeOk5 _ _ _ _ _;have r:=(h.2.1 a QX).trans K;generalize hT:({cls:=.type "traceback",dict:=B',data:=.fields ([head,.ref L,.none,rawInt L,.none]++(if pl.isEmpty then List.replicate 6 Value.none else pl)).toArray}:Obj)=oT;have Vf:oT.data= .fields ([head,.ref L,.none,rawInt L,.none]++(if pl.isEmpty then List.replicate 6 Value.none else pl)).toArray:=by rw[<-hT]
 have Vg:oT.isFreed=J':=by rw[<-hT];rfl
 have t:=W1 oT r;refine wpAny_setField t hd u (q _ ?_ ?_ ?_)
 all_goals
  have g:=h.1;have S:=ZS<|Xe r;have m:=Obj.data_mapFields hd (·.setIfInBounds 1 (Value.ref k.objs.size));have l:=Heap.get?_update_self (Obj.mapFields (·.setIfInBounds 1 (Value.ref k.objs.size))) t<|Obj.isFreed_of_fields m;have J:=(Xw (k.push oT) (Obj.mapFields (·.setIfInBounds 1 (Value.ref k.objs.size)))<|ZX S).trans<|Xb k Vg;have kp:∀b o,b≠a->k.get? b=y' o->((k.push oT).update a (Obj.mapFields (·.setIfInBounds 1 (Value.ref k.objs.size)))).get? b=y' o:=λb o hb e=>
   (Xw _ _<|ZX hb).trans (W1 _ e)
  have P:∀T,dO ((k.push oT).update a (Obj.mapFields (·.setIfInBounds 1 (Value.ref k.objs.size)))) a T->T=k.objs.size:=λT#[o,ws,O,X,I]=>by rw[l]at O;cases O;rw[m]at X;cases X;simp[u]at I;exact I.symm
 ·refine#[λb o e n p nf=>kp b o n<|(h.2.1 b nf).trans e,λb o e n p=>?_,λb o e=>?_,λT z=>.inr ?_]
  ·obtain⟨Y,e1⟩:=h.2.2 b o e;exact#[Y,kp b _ n e1]
  ·by_cases hb:b=a
   ·subst hb;exact#[_,l]
   ·obtain⟨Y,e1⟩:=h.2.2 b o e;exact#[_,kp b _ hb e1]
  ·rw[P T z,g];exact Heap.get?_none_of_le<|W9 _
 ·refine#[F.ge,F.nH,#[_,_,l,#[(Obj.cls_mapFields _ _).trans w.1,(my _ _).trans w.2],m,.inr #[k.objs.size,by simp[u]]],λT z=>?_];have e:=P T z;subst e;refine#[?_,c _<|by rw[g];exact W9 _,S,oT,_,J,Vf,by simp];rw[g];exact Xf F.ge<|ZK<|Xe K
 ·exact#[k.objs.size,_,_,l,m,by simp[u]]
theorem AV(v:A.frames=y' (env::outer))(W:s.heap.FunFrames base (env::outer))(hf:env.frame=y' L)(F:i9 N cls a H s.heap)(c:∀b,s.heap.objs.size<=b->H b=B')
  (q:∀y,ux (fE (env::outer)) a s.heap y->i9 N cls a H y->(∃T,dO y a T)->Q () {s with heap:=y}):wpAny M A (noteFrame (.ref a) env) Q E s:=by
 obtain⟨B,U,K,w,hd,Z⟩:=id F.obj;unfold noteFrame;simp only[hf];rcases Z with Z|⟨T,Z⟩
 ·refine WZ<|aat K hd Z ?_;rw[aae (by decide)];exact r8 v W hf F c q
 ·have h:dO s.heap a T:=#[B,U,K,hd,Z];obtain⟨t1,k,t3,l,ts,hT,S,u⟩:=F.tb T h;refine WZ<|aat K hd Z ?_;rw[aaf (by simp)];refine WZ<|aat hT S (x:=ts[3]) (by simp[u]) ?_;split
  ·have e:s={s with heap:=s.heap}:=by cases s;rfl
   rw[e];exact W2<|q s.heap ux.refl F #[T,h]
  ·refine WZ<|wpAny_setField hT S u ?_;have g:∀b,b≠T->(s.heap.update T (Obj.mapFields (·.setIfInBounds 3 Value.none))).get? b=s.heap.get? b:=λb hb=>Xw _ _ (ZX hb)
   have P:=Heap.get?_update_self (Obj.mapFields (·.setIfInBounds 3 Value.none)) hT<|Obj.isFreed_of_fields<|Obj.data_mapFields S _;have i:∀m,dO (s.heap.update T (Obj.mapFields (·.setIfInBounds 3 Value.none))) a m->m=T:=λm#[o,j,O,X,I]=>by rw[g a (ZX t3),K]at O;cases O;rw[hd]at X;cases X;rw[Z]at I;cases I;rfl
   have Y:i9 N cls a H (s.heap.update T (Obj.mapFields (·.setIfInBounds 3 Value.none))):=by refine#[F.ge,F.nH,#[B,U,(g a<|ZX t3).trans K,w,hd,.inr #[T,Z]],λm z=>?_];rw[i m z];exact#[t1,k,t3,_,_,P,Obj.data_mapFields S _,by simpa using u]
   have r:=W.of_keeps λb o hb J=>#[o,(g b λz=>by
    subst z;rw[hT]at hb;cases hb;exact J ts S).trans hb,rfl]
   refine r8 v r hf Y (λb hb=>c b<|by
    have:(s.heap.update T (Obj.mapFields (·.setIfInBounds 3 Value.none))).objs.size=s.heap.objs.size:=Heap.size_after_update ..;rw[this]at hb;exact hb) λy x f t=>q y (ux.trans #[λb o e n p nf=>(g b λz=>p<|z▸h).trans e,λb o e n p=>#[o.slots,(g b λz=>p<|z▸h).trans e],λb o e=>?_,λm z=>.inl<|by rw[i m z];exact h] x) f t
   by_cases hb:b=T
   ·subst hb;exact#[_,P]
   ·exact#[o,(g b hb).trans e]
theorem wu(v:A.frames=y' (gE::outer))(W:s.heap.FunFrames base (gE::outer))(g:gE.frame=y' L)(hf:env.frame=gE.frame)(F:i9 N cls a H s.heap)(c:∀b,s.heap.objs.size<=b->H b=B')
  (q:∀y,ux (fE (gE::outer)) a s.heap y->i9 N cls a H y->(∃T,dO y a T)->Q () {s with heap:=y}):wpAny M A (noteFrame (.ref a) env) Q E s:=by
 rw[kS _ hf];exact AV v W g F c q
theorem eY(F:i9 N cls a H s.heap)(J:∃T,dO s.heap a T)(q:∀y,ux fs a s.heap y->i9 N cls a H y->(∃T,dO y a T)->Q () {s with heap:=y}):wpAny M A (setFlight (.ref a) fl) Q E s:=by
 obtain⟨T,h⟩:=J;obtain⟨t1,k,t3,l,ts,hT,S,u⟩:=F.tb T h;obtain⟨B,vs,K,hd,Z⟩:=id h;obtain⟨r,zH,c,w,Y,_⟩:=id F.obj;rw[K]at c;cases c;refine WZ<|aat K hd Z ?_;rw[aaf (by simp)];refine wpAny_setField hT S u ?_;generalize U:(fl.elim Value.none λf=>rawInt f)=x;have g:∀b,b≠T->(s.heap.update T (Obj.mapFields (·.setIfInBounds 3 x))).get? b=s.heap.get? b:=λb L=>Xw _ _ (ZX L)
 have P:=Heap.get?_update_self (Obj.mapFields (·.setIfInBounds 3 x)) hT<|Obj.isFreed_of_fields<|Obj.data_mapFields S _;have i:∀m,dO (s.heap.update T (Obj.mapFields (·.setIfInBounds 3 x))) a m->m=T:=λm#[o,j,O,X,I]=>by rw[g a (ZX t3),K]at O;cases O;rw[hd]at X;cases X;rw[Z]at I;cases I;rfl
 refine q _ #[λb o e n p nf=>(g b λz=>p<|z▸h).trans e,λb o e n p=>#[o.slots,(g b λz=>p<|z▸h).trans e],λb o e=>?_,λm z=>.inl<|by rw[i m z];exact h] #[F.ge,F.nH,#[B,vs,(g a<|ZX t3).trans K,w,hd,.inr #[T,Z]],λm z=>?_] #[T,B,vs,(g a<|ZX t3).trans K,hd,Z]
 ·by_cases L:b=T
  ·subst L;exact#[_,P]
  ·exact#[o,(g b L).trans e]
 ·rw[i m z];exact#[t1,k,t3,_,_,P,Obj.data_mapFields S _,by simpa using u]
theorem DJ(F:i9 N cls a H s.heap)(J:∃T,dO s.heap a T)(q:∀y,ux fs a s.heap y->i9 N cls a H y->(∃T,dO y a T)->E (.ref a) {s with heap:=y}):wpAny M A (passOn SF (.ref a) env:Sem α) Q E s:=by obtain⟨T,h⟩:=id J;obtain⟨B,U,K,hd,Z⟩:=h;refine WZ<|aat K hd Z ?_;rw[aae (by simp)];exact WZ<|eY F J λy x f t=>wpAny_throw<|q y x f t
theorem DI(F:i9 N cls a H s.heap)(J:∃T,dO s.heap a T)(q:∀y,ux fs a s.heap y->i9 N cls a H y->(∃T,dO y a T)->E (.ref a) {s with heap:=y}):cameBackBy M A env E (.ref a) s:=by obtain⟨T,h⟩:=id J;obtain⟨B,U,K,hd,Z⟩:=h;refine WZ<|aat K hd Z ?_;rw[aae (by simp)];exact eY F J λy x f t=>q y x f t
end
section
variable{X:Cx}{σ:St}{H:Hp}{s:Shared}{cls:Value}{a:Addr}
theorem Inv.KB(h:X.pn=[])(I:Inv X [] σ H s)(F:i9 X.s₀.heap.objs.size cls a H s.heap)(x:ux (fE X.stack) a s.heap h'):Inv X [] σ H {s with heap:=h'}:=by
 obtain⟨oa,va,ha,WK,Vm,WT⟩:=F.obj;have M:=F.tb;have Z:∀b o,s.heap.get? b=y' o->(∀vs,o.data≠ .fields vs)->b≠a/\¬dO s.heap a b:=λb o e O=>by
  refine#[λz=>?_,λz=>?_]
  ·subst z;rw[ha]at e;cases e;exact O va Vm
  ·obtain⟨_,_,_,oT,ts,hT,S,_⟩:=M b z;rw[hT]at e;cases e;exact O ts S
 have t:∀b o,X.s₀.heap.get? b=y' o->b≠a/\¬dO s.heap a b:=λb o e=>by
  refine#[λz=>?_,λz=>?_]
  ·subst z;exact absurd (Xp (Xe e) F.ge)<|ZM _
  ·exact absurd (Xp (Xe e) (M b z).1) (ZM _)
 have E:∀b o,X.s₀.heap.get? b=y' o->b≠X.env.locals:=λb o e=>Xz (Xp (Xe e) I.ok.above)
 have Ft:∀b o,X.s₀.heap.get? b=y' o->b∈fE X.stack->b∈X.fs:=λb o e z=>by
  rcases Xg.mp (I.nO b z)with q|q
  ·exact absurd q<|E b o e
  ·exact q
 have Ki:∀c u,H c=y' u->∀v,s.heap.get? c=y' v->h'.get? c=y' v:=λc u J v e=>by
  refine x.keep c v e (λz=>by subst z;rw[F.nH]at J;cases J) (λz=>by rw[(M c z).2.1]at J;cases J) λz=>?_
  rw[I.qY c z]at J;cases J
 have g:∀y c,X.env.cells.lookup y=y' c->∀v,s.heap.IsCell c v->h'.IsCell c v:=λy c e v#[o,j,hd]=>by
  obtain⟨K,P⟩:=Z c o j λvs q=>by rw[hd]at q;cases q
  obtain⟨Y,q⟩:=x.slot c o j K P;exact#[_,q,hd]
 refine#[I.ok,I.os,I.bare,#[λb o e n L U=>?_,λb o e n L U=>?_,I.base.free,λb o e U=>?_,I.base.tups,I.base.frzs,I.base.tbls],?_,λy c e=>?_,I.free,I.cV,λp B=>?_,?_,I.len]
 ·exact x.keep b o (I.base.keep b o e n L U) (t b o e).1 (t b o e).2 λz=>L<|Ft b o e z
 ·obtain⟨Y,e1⟩:=I.base.slot b o e n L U;obtain⟨A,e2⟩:=x.slot b _ e1 (t b o e).1 (t b o e).2;exact#[A,e2]
 ·obtain⟨w,e1⟩:=I.base.there b o e U;exact x.there b w e1
 ·obtain⟨m,⟨o,es,Q,j,hd,r⟩,W⟩:=I.loc;obtain⟨K,P⟩:=Z _ o j λvs q=>by rw[hd]at q;cases q
  obtain⟨Y,q⟩:=x.slot _ o j K P;refine#[m,#[_,es,Q,q,hd,r],λi y v e1 e2 e3=>?_];obtain⟨u,rr,l⟩:=W i y v e1 e2 e3;refine#[u,rr,?_];rcases l with l|⟨k,c,e,z⟩
  ·exact .inl l
  ·exact .inr #[k,c,e,g y c e _ z]
 ·obtain⟨v,z⟩:=I.cell y c e;exact#[v,g y c e v z]
 ·rw[h]at B;cases B
 ·intro b u e;refine(I.hok b u e).qX (λc v J q=>?_) (λ_ q=>q) λ_ _ q=>q
  rcases J with rfl|J
  ·exact Ki c u e v q
  ·exact Ki c _ J v q
end
def n8(X:Cx)(E:XK)(e:Value)(S:Shared):Prop:=∃O j a cls,e= .ref a/\Inv X [] O j S/\i9 X.s₀.heap.objs.size cls a j S.heap/\E cls B' j
def uk(P:Program)(w:World):oo:=λouter H s E e S=>∃j a cls,e= .ref a/\S.os=s.os/\AllBare S.gens/\Un (fE outer) [] H j s.heap S.heap/\eS P w j S.heap/\i9 s.heap.objs.size cls a j S.heap/\E cls B' j
structure eU(X:Cx):Prop where
 pn:X.pn=[]
 st:∃gE nr L,X.stack=gE::nr/\gE.frame=y' L/\X.env.frame=gE.frame
section
variable{X:Cx}{E:XK}
theorem Cu{K:PySem.W.Frag}:eU (mv CX P w K mg base N qual scope f cd A outer s H E):=
 #[rfl,_,_,_,rfl,rfl,rfl]
theorem qZ(st:eU X):eU (ji X scope N' C s H fp xe):=by obtain⟨B,gE,p,L,Z,Y,u⟩:=st;exact#[rfl,gE,p,L,Z,Y,u]
theorem i9.down(F:i9 N cls a H h)(I:N'<=N):i9 N' cls a H h:=#[Xf I F.ge,F.nH,F.obj,λT z=>#[Xf I (F.tb T z).1,(F.tb T z).2]]
theorem CN{O:St}(I:Inv X K' O H s)(h:X.pn=[])(c:uk X.prog X.w X.stack H s E e s'):n8 X E e s':=by
 obtain⟨j,a,cls,e1,Z,Y,u,Q,A,h6⟩:=c;have F:=I.Ao Z u Q Y λb z=>by cases z
 refine#[O,j,a,cls,e1,F.iq (λp B=>by cases B),A.down I.sz,h6]
theorem pO(st:eU X)(h:n8 X E e s)(q:∀O j a cls S,e= .ref a->Inv X [] O j S->i9 X.s₀.heap.objs.size cls a j S.heap->(∃T,dO S.heap a T)->E cls B' j->Q () S):wpAny (model X.prog X.w) X.A (noteFrame e X.env) Q E2 s:=by
 obtain⟨O,j,a,cls,rfl,I,F,hE⟩:=h;obtain⟨B,gE,p,L,Z,Y,u⟩:=st;have v:=I.ok.frames;have W:=I.stack;rw[Z]at v W;refine wu v W Y u F (λb hb=>I.hok.fresh hb) λy x f t=>?_
 rw[<-Z]at x;exact q O j a cls _ rfl (I.KB B F x) f t hE
theorem uf(st:eU X)(h:n8 X E e s)(q:∀O j a cls S,e= .ref a->Inv X [] O j S->i9 X.s₀.heap.objs.size cls a j S.heap->(∃T,dO S.heap a T)->E cls B' j->R e S):notedBy (model X.prog X.w) X.A X.env R e s:=
 pO st h q
theorem rj(st:eU X)(U:∀e S,n8 X E e S->X.xe e S)(Z:∀e S,X.xe e S->n8 X E e S):PassesOwn (model X.prog X.w) X.A X.env X.xe:=λe S h=>by
 refine uf st (Z e S h) λO j a cls s1 e1 F g n hE=>?_
 subst e1;exact DI g n λy x f t=>U _ _ #[O,j,a,cls,rfl,F.KB st.pn g x,f,hE]
end
theorem Kz{K:PySem.W.Frag}
  (h:n8 (mv (uk P w) P w K mg base N qual scope f cd A outer s H E) E e s'):(mv (uk P w) P w K mg base N qual scope f cd A outer s H E).xe e s':=by
 have st:=Cu (CX:=uk P w) (P:=P) (w:=w) (K:=K) (mg:=mg) (base:=base) (N:=N) (qual:=qual) (scope:=scope) (f:=f) (cd:=cd) (A:=A) (outer:=outer) (s:=s) (H:=H) (E:=E);show wpAny (model P w) (A.deeper<|envOfC qual scope s.heap.objs.size f cd) (leaving (envOfC qual scope s.heap.objs.size f cd) e) (λ_ i=>uk P w outer H s E e i) (λJ i=>uk P w outer H s E J i) s';refine WZ<|pO st h λO j a cls s1 e1 F g n hE=>?_;subst e1;refine eY (fs:=fE (mv (uk P w) P w K mg base N qual scope f cd A outer s H E).stack) g n λy x l t=>?_
 have Y:=F.KB st.pn g x;exact#[j,a,cls,rfl,Y.os,Y.bare,Y.base,Y.hok,l,hE]
section
variable{X:Cx}{E:XK}{scope:Scope}{N':List Str}
theorem Cx.Ok.xe{xe:Value->Shared->Prop}(k:X.Ok):Cx.Ok {X with xe:=xe}:=#[k.mod,k.kind,k.glob,k.blt,k.above,k.inj,k.has,k.C0,k.hd,k.frames,k.Ft,k.Gd,k.bs,k.CZ,k.oF,k.qg,k.iR,k.DK]
theorem Inv.xe{xe:Value->Shared->Prop}{K':List (Addr×Obj)}{σ:St}{H:Hp}{s:Shared}(I:Inv X K' σ H s):Inv {X with xe:=xe} K' σ H s:=#[I.ok.xe,I.os,I.bare,I.base,I.loc,I.cell,I.free,I.cV,I.pin,I.hok,I.len]
def zI(X:Cx)(scope:Scope)(a:List Str)(E:XK)(C:Addr)(s:Shared)(H:Hp)(v:List Addr):Value->Shared->Prop:=n8 (ji X scope a C s H v λ_ _=>False) E
theorem CM(h:n8 (ji X scope N' C s H fp xe) E e s'):zI X scope N' E C s H fp e s':=by obtain⟨O,j,a,cls,e1,I,F,hE⟩:=h;exact#[O,j,a,cls,e1,I.xe,F,hE]
theorem BG(h:zI X scope N' E C s H fp e s'):n8 (ji X scope N' C s H fp xe) E e s':=by obtain⟨O,j,a,cls,e1,I,F,hE⟩:=h;exact#[O,j,a,cls,e1,I.xe,F,hE]
theorem w6(st:eU X):PassesOwn (model X.prog X.w) X.A (ji X scope N' C s H fp<|zI X scope N' E C s H fp).env (zI X scope N' E C s H fp):=
 rj (qZ st) (λe S h=>CM h) (λe S h=>BG h)
theorem i9.at(F:i9 h0 cls a H h)(k:∀b o U,h.get? b=y' o->o.data= .fields U->h'.get? b=y' o):i9 h0 cls a H h':=by obtain⟨o,U,Z,Y,u,Q⟩:=F.obj;have e1:=k a o U Z u;refine#[F.ge,F.nH,#[o,U,e1,Y,u,Q],λT z=>?_];obtain⟨w,j,O,X,I⟩:=z;rw[e1]at O;cases O;obtain⟨n,t2,t3,l,ts,c,J,g⟩:=F.tb T #[o,j,Z,X,I];exact#[n,t2,t3,l,ts,k T l ts c J,J,g]
theorem lY(st:eU X)(VS:∀e S,n8 X E e S->X.xe e S):De X scope N' (zI X scope N' E):=by
 refine⟨λM O C s s1 H P v x S F r hC l i n hxb=>?_⟩;refine uf (X:=ji X scope N' C s H v<|zI X scope N' E C s H v) (qZ st) (BG hxb) λA j a cls Z e1 K F5 J hE=>?_
 subst e1;obtain⟨k,Mo,_⟩:=K.loc;have W:Z.heap.Ns C k:=Mo;refine#[k,W,λy c q m=>?_];have un:Un (fE X.stack) v P j s1.heap Z.heap:=by
  have h:Un (fE X.stack) v P H s1.heap s.heap:=by rw[i,l];exact Un.laid (λb u e=>W1 _ e) (W9 _) F.fresh
  exact h.trans K.base
 have hI:=F.Ao (K.os.trans<|by show s.os=s1.os;rw[l]) un K.hok K.bare λb L=>#[(r b L).2.2.2.1,(r b L).2.1,(r b L).2.2.2.2.1,(r b L).2.2.2.2.2]
 have fC:=F.qo (ZK hC) K.free;have U6:=hI.turned (t':=Z.toks) (λb o L e=>(c.2 b L).trans e) fC.1 fC.2.1 fC.2.2.2.1 fC.2.2.2.2.1 fC.2.2.2.2.2;have U7:Inv X [] O j {Z with heap:=y}:=U6.iq λp B=>by cases B
 have kP:s1.heap.objs.size<=s.heap.objs.size:=by rw[l];show _<=(s1.heap.push _).objs.size;rw[Xy];exact ZL _
 have F6:i9 X.s₀.heap.objs.size cls a j y:=by
  have hd:∀b o U,Z.heap.get? b=y' o->o.data= .fields U->y.get? b=y' o:=λb o U e hd=>by refine(c.2 b λz=>?_).trans e;subst z;obtain⟨w,es,Q,g,Y,_⟩:=W;rw[e]at g;cases g;rw[hd]at Y;cases Y
  exact(F5.at hd).down (Xf F.sz kP)
 have t6:∃T,dO y a T:=by obtain⟨T,o,U,z1,z2,I⟩:=J;refine#[T,o,U,(c.2 a λz=>?_).trans z1,z2,I];subst z;obtain⟨w,es,Q,g,Y,_⟩:=W;rw[z1]at g;cases g;rw[z2]at Y;cases Y
 exact DJ F6 t6 λh'' x f t=>VS _ _ #[O,j,a,cls,rfl,U7.KB st.pn F6 x,f,hE]
end
end L2
end
section
namespace Rx
open PySem PySem.W PySem.Spec PyProof.Rows L2 PySem.SeqAt
inductive Dt where
 |bj|bl (b:Bool)|int (i:Int)|str (x:Str)|tup (ds:List Dt)|lst (ds:List Dt)|iZ (ns:List Int)
 |g9 (ks vs:List Dt)|obj (ks:List Str) (vs:List Dt)|exc (c:Nat)
abbrev Frag:=PySem.W.Frag
def KL(K:Frag)(a:Addr)(xs:List V):Prop:=∃(o:Obj)(E:Array Value)(n:Nat),K.lookup a=y' o/\o.cls= .type "list"/\o.dict=B'/\o.data= .seq E n/\E.size<=sizeLine/\aw xs E.toList
mutual
noncomputable def RV(K:Frag)(A:Addr->Prop)(H:Hp):V->Dt->Prop
 |x,.bj=>x= .bj
 |x,.bl b=>x= .bl b
 |x,.int i=>x= .int i
 |x,.str z=>x= .str z
 |x,.tup ds=>∃a xs,x= .ref a/\H a=y' (.tup xs)/\ar K A H xs ds
 |x,.lst ds=>∃a xs,x= .ref a/\H a=y' (.lst xs)/\¬A a/\ar K A H xs ds
 |x,.iZ ns=>∃a,x= .ref a/\((Rd H a (.lst<|ns.map V.int)/\¬A a)\/KL K a (ns.map V.int))
 |_,.g9 _ _=>False
 |x,.obj ks vs=>∃a eF,x= .ref a/\H a=y' (.dK eF)/\¬A a/\eF.map (·.1)=ks.map Sum.inr/\ar K A H (eF.map (·.2)) vs
 |_,.exc _=>False
noncomputable def ar(K:Frag)(A:Addr->Prop)(H:Hp):List V->List Dt->Prop
 |[],[]=>True
 |x::xs,d::ds=>RV K A H x d/\ar K A H xs ds
 |[],_::_=>False
 |_::_,[]=>False
end
section
variable{K:Frag}{A B:Addr->Prop}{H H':Hp}
theorem RV.dR(h:RV K A H x .bj):x= .bj:=by unfold RV at h;exact h
theorem RV.bO{b}(h:RV K A H x (.bl b)):x= .bl b:=by unfold RV at h;exact h
theorem RV.int_inv{b}(h:RV K A H x (.int b)):x= .int b:=by unfold RV at h;exact h
theorem RV.str_inv{b}(h:RV K A H x (.str b)):x= .str b:=by unfold RV at h;exact h
theorem RV.au{ds}(h:RV K A H x (.tup ds)):∃a xs,x= .ref a/\H a=y' (.tup xs)/\ar K A H xs ds:=by unfold RV at h;exact h
theorem RV.lst_inv{ds}(h:RV K A H x (.lst ds)):∃a xs,x= .ref a/\H a=y' (.lst xs)/\¬A a/\ar K A H xs ds:=by unfold RV at h;exact h
theorem RV.iB{ns}(h:RV K A H x (.iZ ns)):∃a,x= .ref a/\((Rd H a (.lst<|ns.map V.int)/\¬A a)\/KL K a (ns.map V.int)):=by unfold RV at h;exact h
theorem RV.kv{ns}(h:RV K A H x (.iZ ns)):∃a,x= .ref a/\cX K H a (ns.map V.int):=by
 obtain⟨a,e,h|h⟩:=h.iB
 ·exact#[a,e,.inl h.1]
 ·exact#[a,e,.inr h]
theorem RV.qd{g U}(h:RV K A H x (.g9 g U)):False:=by unfold RV at h;exact h
theorem RV.lJ{g U}(h:RV K A H x (.obj g U)):∃a L,x= .ref a/\H a=y' (.dK L)/\¬A a/\L.map (·.1)=g.map Sum.inr/\ar K A H (L.map (·.2)) U:=by unfold RV at h;exact h
theorem RV.qf{g}(h:RV K A H x (.exc g)):False:=by unfold RV at h;exact h
theorem RV.qA:RV K A H .bj .bj:=by unfold RV;rfl
theorem RV.wW{b}:RV K A H (.bl b) (.bl b):=by unfold RV;rfl
theorem RV.eh{b}:RV K A H (.int b) (.int b):=by unfold RV;rfl
theorem RV.qB{b}:RV K A H (.str b) (.str b):=by unfold RV;rfl
theorem RV.iU{a xs ds}(h:H a=y' (.tup xs))(t:ar K A H xs ds):RV K A H (.ref a) (.tup ds):=by unfold RV;exact#[a,xs,rfl,h,t]
theorem RV.fR{a xs ds}(h:H a=y' (.lst xs))(n:¬A a)(t:ar K A H xs ds):RV K A H (.ref a) (.lst ds):=by unfold RV;exact#[a,xs,rfl,h,n,t]
theorem RV.IV{a L g U}(h:H a=y' (.dK L))(n:¬A a)(e:L.map (·.1)=g.map Sum.inr)(t:ar K A H (L.map (·.2)) U):RV K A H (.ref a) (.obj g U):=by unfold RV;exact#[a,L,rfl,h,n,e,t]
theorem ar.nil:ar K A H [] []:=by unfold ar;trivial
theorem ar.cons{x d xs ds}(h:RV K A H x d)(t:ar K A H xs ds):ar K A H (x::xs) (d::ds):=by unfold ar;exact#[h,t]
theorem ar.nil_inv{xs}(h:ar K A H xs []):xs=[]:=by
 cases xs with
 |nil=>rfl
 |cons=>unfold ar at h;exact h.elim
theorem ar.dz{ds}(h:ar K A H [] ds):ds=[]:=by
 cases ds with
 |nil=>rfl
 |cons=>unfold ar at h;exact h.elim
theorem ar.cons_inv{xs d ds}(h:ar K A H xs (d::ds)):∃x r,xs=x::r/\RV K A H x d/\ar K A H r ds:=by
 cases xs with
 |nil=>unfold ar at h;exact h.elim
 |cons x r=>unfold ar at h;exact#[x,r,rfl,h]
theorem ar.yf{x xs ds}(h:ar K A H (x::xs) ds):∃d r,ds=d::r/\RV K A H x d/\ar K A H xs r:=by
 cases ds with
 |nil=>unfold ar at h;exact h.elim
 |cons d r=>unfold ar at h;exact#[d,r,rfl,h]
theorem ar.length:∀{xs ds},ar K A H xs ds->xs.length=ds.length
 |[],[],_=>rfl
 |[],_::_,h=>by unfold ar at h;exact h.elim
 |_::_,[],h=>by unfold ar at h;exact h.elim
 |_::xs,_::ds,h=>by unfold ar at h;simp[ar.length h.2]
theorem ar.get:∀{xs ds}{i:Nat}{x},ar K A H xs ds->xs[i]?=y' x->∃d,ds[i]?=y' d/\RV K A H x d
 |[],_,_,_,_,e=>by simp at e
 |_::_,[],_,_,h,_=>by unfold ar at h;exact h.elim
 |_::_,_::_,0,_,h,e=>by unfold ar at h;simp at e;subst e;exact#[_,rfl,h.1]
 |_::xs,_::ds,i+1,x,h,e=>by obtain⟨d,e1,e2⟩:=ar.get h.2 (by simpa using e);exact#[d,by simpa using e1,e2]
theorem ar.getD:∀{xs ds}{i:Nat}{d},ar K A H xs ds->ds[i]?=y' d->∃x,xs[i]?=y' x/\RV K A H x d
 |_,[],_,_,_,e=>by simp at e
 |[],_::_,_,_,h,_=>by unfold ar at h;exact h.elim
 |_::_,_::_,0,_,h,e=>by unfold ar at h;simp at e;subst e;exact#[_,rfl,h.1]
 |_::xs,_::ds,i+1,x,h,e=>by obtain⟨d,e1,e2⟩:=ar.getD h.2 (by simpa using e);exact#[d,by simpa using e1,e2]
theorem ar.append:∀{xs k ds es},ar K A H xs ds->ar K A H k es->ar K A H (xs++k) (ds++es)
 |[],_,[],_,_,h=>h
 |[],_,_::_,_,h,_=>by unfold ar at h;exact h.elim
 |_::_,_,[],_,h,_=>by unfold ar at h;exact h.elim
 |_::xs,k,_::ds,es,h,y=>by exact ar.cons h.1<|ar.append h.2 y
theorem ar.take:∀{xs ds}(n:Nat),ar K A H xs ds->ar K A H (xs.take n) (ds.take n)
 |[],ds,n,h=>by rw[h.dz];simp;exact ar.nil
 |x::xs,[],n,h=>by unfold ar at h;exact h.elim
 |x::xs,d::ds,0,h=>by simp;exact ar.nil
 |x::xs,d::ds,n+1,h=>by simp only[ZD];exact ar.cons h.1<|ar.take n h.2
theorem ar.drop:∀{xs ds}(n:Nat),ar K A H xs ds->ar K A H (xs.drop n) (ds.drop n)
 |[],ds,n,h=>by rw[h.dz];simp;exact ar.nil
 |x::xs,[],n,h=>by unfold ar at h;exact h.elim
 |x::xs,d::ds,0,h=>h
 |x::xs,d::ds,n+1,h=>by simp only[List.drop_succ_cons];exact ar.drop n h.2
theorem ar.set:∀{xs ds}(n:Nat){x d},ar K A H xs ds->RV K A H x d->ar K A H (xs.set n x) (ds.set n d)
 |[],ds,n,_,_,h,_=>by rw[h.dz];simp;exact ar.nil
 |x::xs,[],n,_,_,h,_=>by unfold ar at h;exact h.elim
 |x::xs,d::ds,0,_,_,h,y=>by unfold ar at h;simp only[List.set_cons_zero];exact ar.cons y h.2
 |x::xs,d::ds,n+1,_,_,h,y=>by simp only[List.set_cons_succ];exact ar.cons h.1<|ar.set n h.2 y
theorem ar.reverse:∀{xs ds},ar K A H xs ds->ar K A H xs.reverse ds.reverse
 |[],ds,h=>by rw[h.dz];exact ar.nil
 |x::xs,[],h=>by unfold ar at h;exact h.elim
 |x::xs,d::ds,h=>by rw[List.reverse_cons,List.reverse_cons];exact ar.append (ar.reverse h.2)<|ar.cons h.1 ar.nil
theorem ar.rep{xs ds}(h:ar K A H xs ds):∀k:Nat,ar K A H (List.replicate k xs).flatten (List.replicate k ds).flatten
 |0=>by simp;exact ar.nil
 |k+1=>by rw[Zu,Zu,YS,YS];exact h.append<|ar.rep h k
structure bc(X:Addr->Prop)(H H':Hp):Prop where
 kp:∀b o,H b=y' o->¬X b->H' b=y' o
 tp:∀b xs,H b=y' (.tup xs)->H' b=y' (.tup xs)
theorem bc.of_same(s:bT H H'):bc X H H':=#[λb o e _=>s b o e,λb xs e=>s b _ e]
theorem bc.refl:bc X H H:=#[λ_ _ e _=>e,λ_ _ e=>e]
theorem bc.trans(a:bc X H H1)(b:bc X H1 H'):bc X H H':=#[λc o e n=>b.kp c o (a.kp c o e n) n,λc xs e=>b.tp c xs<|a.tp c xs e]
theorem bc.mono(a:bc X H H')(h:∀b,X b->Y b):bc Y H H':=#[λb o e n=>a.kp b o e λz=>n<|h b z,a.tp]
theorem JL(e:bc X H H')(n:¬X a)(h:Rd H a u):Rd H' a u:=by
 rcases h with h|⟨o,h⟩
 ·exact .inl<|e.kp _ _ h n
 ·exact .inr #[o,e.kp _ _ h n]
mutual
noncomputable def yL:Dt->Bool
 |.bj|.bl _|.int _|.str _=>G'
 |.tup ds=>nh ds
 |_=>J'
noncomputable def nh:List Dt->Bool
 |[]=>G'
 |d::ds=>yL d&&nh ds
end
mutual
theorem RV.gen(t:∀b xs,H b=y' (.tup xs)->H' b=y' (.tup xs)):∀{x d},(yL d=G'\/∀b o,H b=y' o->¬A b->H' b=y' o/\¬B b)->RV K A H x d->RV K B H' x d
 |x,.bj,_,h=>by rw[h.dR];exact RV.qA
 |x,.bl b,_,h=>by rw[h.bO];exact RV.wW
 |x,.int b,_,h=>by rw[h.int_inv];exact RV.eh
 |x,.str b,_,h=>by rw[h.str_inv];exact RV.qB
 |x,.tup ds,n,h=>by obtain⟨a,xs,rfl,h1,h2⟩:=h.au;exact RV.iU (t _ _ h1)<|ar.gen t (n.imp_left id) h2
 |x,.lst ds,n,h=>by obtain⟨a,xs,rfl,h1,h3,h2⟩:=h.lst_inv;have n:=n.resolve_left nofun;exact RV.fR (n a _ h1 h3).1 (n a _ h1 h3).2<|ar.gen t (.inr n) h2
 |x,.iZ ns,n,h=>by
  have n:=n.resolve_left nofun;obtain⟨a,rfl,⟨h1,h3⟩|h1⟩:=h.iB
  ·rcases h1 with h1|⟨o,h1⟩
   ·exact#[a,rfl,.inl #[.inl (n a _ h1 h3).1,(n a _ h1 h3).2]]
   ·exact#[a,rfl,.inl #[.inr #[o,(n a _ h1 h3).1],(n a _ h1 h3).2]]
  ·exact#[a,rfl,.inr h1]
 |x,.g9 ..,_,h=>h.qd.elim
 |x,.obj ks vs,n,h=>by obtain⟨a,eF,rfl,h1,h3,h4,h2⟩:=h.lJ;have n:=n.resolve_left nofun;exact RV.IV (n a _ h1 h3).1 (n a _ h1 h3).2 h4<|ar.gen t (.inr n) h2
 |x,.exc ..,_,h=>h.qf.elim
theorem ar.gen(t:∀b xs,H b=y' (.tup xs)->H' b=y' (.tup xs)):∀{xs ds},(nh ds=G'\/∀b o,H b=y' o->¬A b->H' b=y' o/\¬B b)->ar K A H xs ds->ar K B H' xs ds
 |[],[],_,_=>ar.nil
 |[],_::_,_,h=>by unfold ar at h;exact h.elim
 |_::_,[],_,h=>by unfold ar at h;exact h.elim
 |_::xs,_::ds,n,h=>by unfold ar at h;simp only[nh,W3]at n;exact ar.cons (RV.gen t (n.imp_left (·.1)) h.1) (ar.gen t (n.imp_left (·.2)) h.2)
end
theorem RV.mono(e:bc X H H')(r:∀b,X b->A b)(F:∀b,B b->A b){x d}(h:RV K A H x d):RV K B H' x d:=h.gen e.tp<|.inr λb o q n=>#[e.kp b o q λz=>n<|r b z,λz=>n<|F b z]
theorem ar.mono(e:bc X H H')(r:∀b,X b->A b)(F:∀b,B b->A b){x d}(h:ar K A H x d):ar K B H' x d:=h.gen e.tp<|.inr λb o q n=>#[e.kp b o q λz=>n<|r b z,λz=>n<|F b z]
theorem RV.same{x d}(h:RV K A H x d)(s:bT H H'):RV K A H' x d:=h.mono (X:=λ_=>False) (bc.of_same s) (λ_ z=>z.elim) λ_ z=>z
theorem ar.same{x d}(h:ar K A H x d)(s:bT H H'):ar K A H' x d:=h.mono (X:=λ_=>False) (bc.of_same s) (λ_ z=>z.elim) λ_ z=>z
theorem RV.weak{x d}(h:RV K A H x d)(F:∀b,B b->A b):RV K B H x d:=h.mono (X:=λ_=>False) bc.refl (λ_ z=>z.elim) F
theorem ar.weak{x d}(h:ar K A H x d)(F:∀b,B b->A b):ar K B H x d:=h.mono (X:=λ_=>False) bc.refl (λ_ z=>z.elim) F
theorem RV.cL(hp:∀b,B b->A b\/H b=B'){x d}(h:RV K A H x d):RV K B H x d:=h.gen (λ_ _ e=>e)<|.inr λb o q n=>#[q,λz=>(hp b z).elim n λe=>by rw[e]at q;cases q]
theorem ar.cL(hp:∀b,B b->A b\/H b=B'){x d}(h:ar K A H x d):ar K B H x d:=h.gen (λ_ _ e=>e)<|.inr λb o q n=>#[q,λz=>(hp b z).elim n λe=>by rw[e]at q;cases q]
theorem ar.avoid(B:H p=B'){x d}(h:ar K A H x d):ar K (λb=>A b\/b=p) H x d:=h.cL λb z=>z.imp_right λe=>by rw[e];exact B
theorem RV.yL{x d}(h:RV K A H x d)(n:Rx.yL d=G'):RV K B H x d:=h.gen (λ_ _ e=>e)<|.inl n
theorem ar.nh{x d}(h:ar K A H x d)(n:Rx.nh d=G'):ar K B H x d:=h.gen (λ_ _ e=>e)<|.inl n
end
mutual
noncomputable def toD:Dt->Option Mx.D
 |.int i=>y'<|.int i
 |.str x=>y'<|.str x
 |.tup ds=>(i6 ds).map Mx.D.tup
 |_=>B'
noncomputable def i6:List Dt->Option (List Mx.D)
 |[]=>y' []
 |d::ds=>(toD d).bind λm=>(i6 ds).map (m:: ·)
end
mutual
noncomputable def ofD:Mx.D->Dt
 |.int i=>.int i
 |.str x=>.str x
 |.tup ds=>.tup<|bQ ds
noncomputable def bQ:List Mx.D->List Dt
 |[]=>[]
 |d::ds=>ofD d::bQ ds
end
theorem nq:∀ds:List Mx.D,bQ ds=ds.map ofD
 |[]=>by simp[bQ]
 |d::ds=>by simp[bQ,nq ds]
mutual
theorem Kh:∀m:Mx.D,toD (ofD m)=y' m
 |.int i=>by simp[ofD,toD]
 |.str x=>by simp[ofD,toD]
 |.tup ds=>by simp[ofD,toD,lW ds]
theorem lW:∀ms:List Mx.D,i6 (bQ ms)=y' ms
 |[]=>by simp[bQ,i6]
 |m::ms=>by simp[bQ,i6,Kh m,lW ms]
end
mutual
theorem Jd:∀{d:Dt}{m:Mx.D},toD d=y' m->d=ofD m
 |.int i,m,h=>by simp[toD]at h;subst h;simp[ofD]
 |.str i,m,h=>by simp[toD]at h;subst h;simp[ofD]
 |.tup ds,m,h=>by simp only[toD,Xj]at h;obtain⟨ms,h1,rfl⟩:=h;rw[jC h1];simp[ofD]
 |.bj,m,h=>by simp[toD]at h
 |.bl _,m,h=>by simp[toD]at h
 |.lst _,m,h=>by simp[toD]at h
 |.iZ _,m,h=>by simp[toD]at h
 |.g9 _ _,m,h=>by simp[toD]at h
 |.obj _ _,m,h=>by simp[toD]at h
 |.exc _,m,h=>by simp[toD]at h
theorem jC:∀{ds:List Dt}{ms:List Mx.D},i6 ds=y' ms->ds=bQ ms
 |[],ms,h=>by simp[i6]at h;subst h;simp[bQ]
 |d::ds,ms,h=>by simp only[i6,W0,Xj]at h;obtain⟨m,h1,r,h2,rfl⟩:=h;rw[Jd h1,jC h2];simp[bQ]
end
mutual
theorem RV.dv{K:Frag}{A:Addr->Prop}{H:Hp}:∀{x}{m:Mx.D},RV K A H x (ofD m)->Mx.DV H x m
 |x,.int i,h=>by simp only[ofD]at h;rw[h.int_inv];exact Mx.DV.int
 |x,.str i,h=>by simp only[ofD]at h;rw[h.str_inv];exact Mx.DV.str
 |x,.tup ms,h=>by simp only[ofD]at h;obtain⟨a,xs,rfl,h1,h2⟩:=h.au;exact Mx.DV.tup h1<|ar.wg h2
theorem ar.wg{K:Frag}{A:Addr->Prop}{H:Hp}:∀{xs}{ms:List Mx.D},ar K A H xs (bQ ms)->Mx.bK H xs ms
 |[],[],_=>Mx.bK.nil
 |[],_::_,h=>by simp only[bQ]at h;unfold ar at h;exact h.elim
 |_::_,[],h=>by simp only[bQ]at h;unfold ar at h;exact h.elim
 |_::xs,_::ds,h=>by simp only[bQ]at h;unfold ar at h;exact Mx.bK.cons (RV.dv h.1)<|ar.wg h.2
end
mutual
theorem RV.Nd{K:Frag}{A:Addr->Prop}{H:Hp}:∀{x}{m:Mx.D},Mx.DV H x m->RV K A H x (ofD m)
 |x,.int i,h=>by simp only[ofD];rw[h.int_inv];exact RV.eh
 |x,.str i,h=>by simp only[ofD];rw[h.str_inv];exact RV.qB
 |x,.tup ms,h=>by simp only[ofD];obtain⟨a,xs,rfl,h1,h2⟩:=h.au;exact RV.iU h1<|ar.vi h2
theorem ar.vi{K:Frag}{A:Addr->Prop}{H:Hp}:∀{xs}{ms:List Mx.D},Mx.bK H xs ms->ar K A H xs (bQ ms)
 |[],[],_=>by simp only[bQ];exact ar.nil
 |[],_::_,h=>by unfold Mx.bK at h;exact h.elim
 |_::_,[],h=>by unfold Mx.bK at h;exact h.elim
 |_::xs,_::ds,h=>by simp only[bQ];unfold Mx.bK at h;exact ar.cons (RV.Nd h.1)<|ar.vi h.2
end
mutual
noncomputable def b8:Dt->Dt->Bool
 |.bj,.bj=>G'
 |.bl a,.bl b=>a==b
 |.int a,.int b=>a==b
 |.bl a,.int b=>(if a then(1:Int) else 0)==b
 |.int a,.bl b=>a==(if b then(1:Int) else 0)
 |.str a,.str b=>a==b
 |.tup a,.tup b=>cQ a b
 |.lst a,.lst b=>cQ a b
 |_,_=>J'
noncomputable def cQ:List Dt->List Dt->Bool
 |[],[]=>G'
 |x::xs,y::ys=>b8 x y&&cQ xs ys
 |_,_=>J'
end
mutual
noncomputable def pl:Dt->Bool
 |.bj|.bl _|.int _|.str _=>G'
 |.tup ds=>kh ds
 |.lst ds=>kh ds
 |_=>J'
noncomputable def kh:List Dt->Bool
 |[]=>G'
 |d::ds=>pl d&&kh ds
end
mutual
noncomputable def dp:Dt->Nat
 |.tup ds=>mz ds+1
 |.lst ds=>mz ds+1
 |_=>0
noncomputable def mz:List Dt->Nat
 |[]=>0
 |d::ds=>max (dp d)<|mz ds
end
mutual
theorem fm:∀d:Dt,pl d=G'->b8 d d=G'
 |.bj,_=>by simp[b8]
 |.bl b,_=>by simp[b8]
 |.int b,_=>by simp[b8]
 |.str b,_=>by simp[b8]
 |.tup ds,h=>by simp only[b8];exact iY ds (by simpa [pl]using h)
 |.lst ds,h=>by simp only[b8];exact iY ds (by simpa [pl]using h)
 |.iZ _,h=>by simp[pl]at h
 |.g9 _ _,h=>by simp[pl]at h
 |.obj _ _,h=>by simp[pl]at h
 |.exc _,h=>by simp[pl]at h
theorem iY:∀ds:List Dt,kh ds=G'->cQ ds ds=G'
 |[],_=>by simp[cQ]
 |d::ds,h=>by simp only[kh,W3]at h;simp only[cQ,W3];exact#[fm d h.1,iY ds h.2]
end
def Wf:Dt->Nat
 |.bj=>0|.bl _=>1|.int _=>2|.str _=>3|.tup _=>4|.lst _=>5|_=>6
def Sy(H:Hp):V->Nat
 |.bj=>0|.bl _=>1|.int _=>2|.str _=>3
 |.ref a=>(match H a with|some (.tup _)=>4|some (.lst _)=>5|_=>6)
 |_=>6
theorem RV.tg{K:Frag}(h:RV K A H x d)(n:pl d=G'):Sy H x=Wf d:=by
 cases d with
 |bj=>rw[h.dR];rfl
 |bl=>rw[h.bO];rfl
 |int=>rw[h.int_inv];rfl
 |str=>rw[h.str_inv];rfl
 |tup=>obtain⟨a,xs,rfl,Z,_⟩:=h.au;unfold Sy;dsimp only;rw[Z];rfl
 |lst=>obtain⟨a,xs,rfl,Z,_⟩:=h.lst_inv;unfold Sy;dsimp only;rw[Z];rfl
 |_=>simp[pl]at n
mutual
theorem RV.inj{K:Frag}{A B:Addr->Prop}{H:Hp}:∀{x d e},RV K A H x d->RV K B H x e->pl d=G'->pl e=G'->d=e
 |x,.bj,e,h,g,m,n=>by have t:=(h.tg m).symm.trans<|g.tg n;cases e<;>first|rfl|exact absurd t<|aam rfl
 |x,.bl b,e,h,g,m,n=>by have t:=(h.tg m).symm.trans<|g.tg n;cases e<;>first|exact absurd t (aam rfl)|(cases h.bO.symm.trans g.bO;rfl)
 |x,.int b,e,h,g,m,n=>by have t:=(h.tg m).symm.trans<|g.tg n;cases e<;>first|exact absurd t (aam rfl)|(cases h.int_inv.symm.trans g.int_inv;rfl)
 |x,.str b,e,h,g,m,n=>by have t:=(h.tg m).symm.trans<|g.tg n;cases e<;>first|exact absurd t (aam rfl)|(cases h.str_inv.symm.trans g.str_inv;rfl)
 |x,.tup ds,e,h,g,m,n=>by
  have t:=(h.tg m).symm.trans<|g.tg n;cases e with
  |tup es=>obtain⟨a,xs,rfl,h1,h2⟩:=h.au;obtain⟨b,ys,q,g1,g2⟩:=g.au;cases q;rw[h1]at g1;cases g1;rw[ar.inj h2 g2 (by simpa [pl]using m) (by simpa [pl]using n)]
  |_=>exact absurd t<|aam rfl
 |x,.lst ds,e,h,g,m,n=>by
  have t:=(h.tg m).symm.trans<|g.tg n;cases e with
  |lst es=>obtain⟨a,xs,rfl,h1,_,h2⟩:=h.lst_inv;obtain⟨b,ys,q,g1,_,g2⟩:=g.lst_inv;cases q;rw[h1]at g1;cases g1;rw[ar.inj h2 g2 (by simpa [pl]using m) (by simpa [pl]using n)]
  |_=>exact absurd t<|aam rfl
 |x,.iZ ds,_,_,_,n,_=>by simp[pl]at n
 |x,.g9 ..,_,_,_,n,_=>by simp[pl]at n
 |x,.obj ..,_,_,_,n,_=>by simp[pl]at n
 |x,.exc ..,_,_,_,n,_=>by simp[pl]at n
theorem ar.inj{K:Frag}{A B:Addr->Prop}{H:Hp}:∀{xs ds es},ar K A H xs ds->ar K B H xs es->kh ds=G'->kh es=G'->ds=es
 |xs,[],es,h,g,_,_=>by
  cases xs with
  |nil=>rw[g.dz]
  |cons=>unfold ar at h;exact h.elim
 |xs,d::ds,es,h,g,m,n=>by
  cases xs with
  |nil=>unfold ar at h;exact h.elim
  |cons x xs=>unfold ar at h;obtain⟨e,t,rfl,g1,g2⟩:=g.yf;have m':=Bool.and_eq_true_iff.mp m;have n':=Bool.and_eq_true_iff.mp n;rw[RV.inj h.1 g1 m'.1 n'.1,ar.inj h.2 g2 m'.2 n'.2]
end
def NA(ds es:List Dt)(j:Nat):Bool:=match ds[j]?,es[j]? with
 |some d,y' e=>b8 d e
 |_,_=>G'
theorem cY:∀ds es:List Dt,((List.range<|min ds.length es.length).all (NA ds es)&&ds.length==es.length)=cQ ds es
 |[],[]=>by simp[cQ]
 |[],_::_=>by simp[cQ]
 |_::_,[]=>by simp[cQ]
 |d::ds,e::es=>by
  have O:=cY ds es;have E:min (d::ds).length (e::es).length=min ds.length es.length+1:=by simp only[Xm];lia
  have e1:((d::ds).length==(e::es).length)=(ds.length==es.length):=by rw[X5];simp
  rw[E,List.range_succ_eq_map,YD,List.all_map,e1,cQ,<-O,Bool.and_assoc];rfl
theorem uO:∀{ds:List Dt}{j:Nat},ds[j]?=y' d->dp d<=mz ds
 |[],_,h=>by simp at h
 |p::ds,0,h=>by simp at h;subst h;unfold mz;lia
 |p::ds,j+1,h=>by have:=uO (by simpa using h);unfold mz;lia
theorem kg:∀{ds:List Dt}{j:Nat},kh ds=G'->ds[j]?=y' d->pl d=G'
 |[],_,_,h=>by simp at h
 |p::ds,0,n,h=>by simp at h;subst h;simp only[kh,W3]at n;exact n.1
 |p::ds,j+1,n,h=>by simp only[kh,W3]at n;exact kg n.2 (by simpa using h)
section
variable{P:Program}{w:World}{K:Frag}{A B:Addr->Prop}{H:Hp}{s:Shared}
theorem dc(hok:eS P w H s.heap)(h:H a=y' (.lst xs)):∃E:List Value,aw xs E/\s.heap.IsList a E.toArray:=by obtain⟨_,E,n,r,t⟩:=hok a _ h;exact#[E,r,#[_,t,rfl,_,rfl]]
inductive Kd(K:Frag)(A:Addr->Prop)(H:Hp)(s:Shared):Value->Dt->Prop
 |n:Kd K A H s .none .bj
 |b (b:Bool):Kd K A H s (.bool b) (.bl b)
 |i (i:Int) (t:Tok):Kd K A H s (.int i t) (.int i)
 |s (z:Str) (t:Tok):Kd K A H s (.str z t) (.str z)
 |t {a:Addr} {ak:List Value} {ds:List Dt} (z:ak.toArray.size=ds.length) (h:s.heap.IsTuple a ak.toArray) (g:∃xs,ar K A H xs ds/\aw xs ak):Kd K A H s (.ref a) (.tup ds)
 |l {a:Addr} {ak:List Value} {ds:List Dt} (z:ak.toArray.size=ds.length) (h:s.heap.IsList a ak.toArray) (g:∃xs,ar K A H xs ds/\aw xs ak):Kd K A H s (.ref a) (.lst ds)
theorem kd(hok:eS P w H s.heap)(B:pl d=G')(U:RV K A H x d)(S:RelV x u):Kd K A H s u d:=by
 cases d with
 |bj=>have:=U.dR;subst this;cases S;exact .n
 |bl b=>have:=U.bO;subst this;cases S;exact .b b
 |int b=>have:=U.int_inv;subst this;obtain⟨t,rfl⟩:=S;exact .i b t
 |str b=>have:=U.str_inv;subst this;obtain⟨t,rfl⟩:=S;exact .s b t
 |tup ds=>obtain⟨a,xs,q,f,g⟩:=U.au;subst q;cases S;obtain⟨E,r,J⟩:=Mx.a8 hok f;exact .t (by rw[W4,<-r.length,g.length]) J #[_,g,r]
 |lst ds=>obtain⟨a,xs,q,f,_,g⟩:=U.lst_inv;subst q;cases S;obtain⟨E,r,J⟩:=dc hok f;exact .l (by rw[W4,<-r.length,g.length]) J #[_,g,r]
 |_=>simp[pl]at B
theorem AJ(O:∀(d e:Dt)(x y:V)(u v:Value)(R:Around),dp d<=n->pl d=G'->pl e=G'->R.units+n<cLine->RV K A H x d->RV K B H y e->RelV x u->RelV y v->EqAt R s u v (b8 d e)){R:Around}(I:ar K A H vP i1)(W:ar K B H vQ i2)(r1:aw vP j3)(b:aw vQ c8)(M:j3.toArray.size=i1.length)(m:c8.toArray.size=i2.length)
  (o:kh i1=G') (a:kh i2=G') (hd:mz i1<=n) (J:R.in1.units+n<cLine) (j) (Z:j<j3.toArray.size) (Y:j<c8.toArray.size):EqAt R.in1 s j3.toArray[j] c8.toArray[j] (NA i1 i2 j):=by
 have t:j<vP.length:=by rw[I.length,<-M];exact Z
 have L:j<vQ.length:=by rw[W.length,<-m];exact Y
 obtain⟨d,c1,X⟩:=I.get (i:=j) (x:=vP[j]) (by simp[t]);obtain⟨e,k1,k2⟩:=W.get (i:=j) (x:=vQ[j]) (by simp[L]);obtain⟨u,h,w⟩:=r1.get (i:=j) (x:=vP[j]) (by simp[t]);obtain⟨v,l,rv⟩:=b.get (i:=j) (x:=vQ[j]) (by simp[L]);have p:j3.toArray[j]=u:=by simp only[Y0];exact(W6.mp h).2
 have ev:c8.toArray[j]=v:=by simp only[Y0];exact(W6.mp l).2
 rw[p,ev,show NA i1 i2 j=b8 d e by unfold NA;rw[c1,k1]];exact O d e vP[j] vQ[j] u v R.in1 (Xf (uO c1) hd) (kg o c1) (kg a k1) J X k2 w rv
theorem Ga(hok:eS P w H s.heap):∀(n:Nat)(d e:Dt)(x y:V)(u v:Value)(R:Around),dp d<=n->pl d=G'->pl e=G'->R.units+n<cLine->RV K A H x d->RV K B H y e->RelV x u->RelV y v->EqAt R s u v (b8 d e):=by
 intro n
 induction n with
 |zero=>
  intro d e x y u v R hd Q Y J U F S c;have k2:=kd hok Y F c;cases kd hok Q U S with
  |n=>cases k2 with
   |n=>exact EqAt.same _
   |b b2=>exact EqAt.none_bool b2
   |i i2 k=>exact EqAt.none_int i2 k
   |s X k=>exact EqAt.none_str X k
   |t _ h=>exact EqAt.none_tuple h ⋯
   |l _ h=>exact EqAt.none_list h ⋯
  |b b1=>cases k2 with
   |n=>exact EqAt.bool_none b1
   |b b2=>exact EqAt.bool_bool b1 b2
   |i i2 k=>exact EqAt.bool_int b1 i2 k
   |s X k=>exact EqAt.bool_str b1 X k
   |t _ h=>exact EqAt.bool_tuple b1 h ⋯
   |l _ h=>exact EqAt.bool_list b1 h ⋯
  |i i1 t1=>cases k2 with
   |n=>exact EqAt.int_none i1 t1
   |b b2=>exact EqAt.int_bool i1 t1 b2
   |i i2 k=>exact EqAt.int_int i1 t1 i2 k
   |s X k=>exact EqAt.int_str i1 t1 X k
   |t _ h=>exact EqAt.int_tuple i1 t1 h ⋯
   |l _ h=>exact EqAt.int_list i1 t1 h ⋯
  |s z1 t1=>cases k2 with
   |n=>exact EqAt.str_none z1 t1
   |b b2=>exact EqAt.str_bool z1 t1 b2
   |i i2 k=>exact EqAt.str_int z1 t1 i2 k
   |s X k=>exact EqAt.str_str z1 t1 X k
   |t _ h=>exact EqAt.str_tuple z1 t1 h ⋯
   |l _ h=>exact EqAt.str_list z1 t1 h ⋯
  |_=>unfold dp at hd;lia
 |succ n O=>
  intro d e x y u v R hd Q Y J U F S c;have k2:=kd hok Y F c;cases kd hok Q U S with
  |t M a o1=>
   rename_i a1 _ i1;obtain⟨p,I,r1⟩:=o1;cases k2 with
   |n=>exact EqAt.tuple_none a ⋯
   |b b2=>exact EqAt.tuple_bool b2 a ⋯
   |i i2 k=>exact EqAt.tuple_int i2 k a ⋯
   |s X k=>exact EqAt.tuple_str X k a ⋯
   |l _ h=>exact EqAt.tuple_list a h ⋯
   |t m o o2=>
    rename_i a2 _ i2;obtain⟨j,g2,r2⟩:=o2;by_cases g:a1=a2
    ·subst g;obtain⟨_,_,rfl,_⟩:=U.au;obtain⟨_,_,rfl,_⟩:=F.au;cases S;cases c;have:=RV.inj U F Q Y;cases this;rw[fm _ Q];exact EqAt.same _
    refine EqAt.of_refs g ?_;have q:=cY i1 i2;have key:=RcAt.tuples (A:=R) a o ⋯ (AJ O I g2 r1 r2 M m (by simpa [pl]using Q) (by simpa [pl]using Y) (by unfold dp at hd;lia)<|by show R.units+1+n<cLine;lia);rw[<-M,<-m]at q;rw[q]at key;exact key
  |l M a o1=>
   rename_i a1 _ i1;obtain⟨p,I,r1⟩:=o1;cases k2 with
   |n=>exact EqAt.list_none a ⋯
   |b b2=>exact EqAt.list_bool b2 a ⋯
   |i i2 k=>exact EqAt.list_int i2 k a ⋯
   |s X k=>exact EqAt.list_str X k a ⋯
   |t _ h=>exact EqAt.list_tuple a h ⋯
   |l m o o2=>
    rename_i a2 _ i2;obtain⟨j,g2,r2⟩:=o2;by_cases g:a1=a2
    ·subst g;obtain⟨_,_,rfl,_⟩:=U.lst_inv;obtain⟨_,_,rfl,_⟩:=F.lst_inv;cases S;cases c;have:=RV.inj U F Q Y;cases this;rw[fm _ Q];exact EqAt.same _
    refine EqAt.of_refs g ?_;have q:=cY i1 i2;by_cases W:i1.length=i2.length
    ·have key:=RcAt.lists (A:=R) a o ⋯ ⋯ (AJ O I g2 r1 r2 M m (by simpa [pl]using Q) (by simpa [pl]using Y) (by unfold dp at hd;lia)<|by show R.units+1+n<cLine;lia);rw[W,Nat.min_self,Z9,X4]at q;rw[M,W,q]at key;exact key
    ·have key:=RcAt.lists_lengths (A:=R) a o (by rw[M,m];simpa using W) ⋯;have L:(i1.length==i2.length)=J':=by simpa using W
     rw[L,X3]at q;show RcAt R s _ _ (cQ i1 i2);rw[<-q];exact key
  |_=>exact O _ e x y _ v R (by unfold dp;lia) Q Y ⋯ U F S c
end
end Rx
end
section
namespace Mx
open PySem PySem.Spec PySem.W PyProof.Rows L2 PySem.SeqAt
def P7(lo c:Int)(n:Nat):It:=#[λi _=>i<n,λi H x j=>j=H/\x= .int (lo+i*c),λi _=>n<=i]
theorem zi{K:PySem.W.Frag}(it)(lo c)(n):Turn P w K tg (P7 lo c n) [it] it (λi h=>IsRangeIter h it (lo+(i:Nat)*c) ((n:Int)-(i:Nat)) c) where
 mem:=(nV (P:=P) (w:=w) (K:=K) (tg:=tg) it lo n).mem
 obj:=λi h st b L=>by cases XC.mp L;exact#[_,st,λv z=>by cases (z)]
 keep:=λi h y st k=>k it Xa _ st
 item:=by
  intro X l B j J i M s O H E I A st hg;subst l B j;obtain⟨q,r,Q,m,Y,S⟩:=A it Xa;refine(Walks.range (I.ok.hd J) it lo c n).item i s _ _ hg st λv y tk hv aq Z=>?_
  obtain⟨t,rfl⟩:=hv;have F:Inv X M O H {s with heap:=y,toks:=tk}:=I.turned (λb o L e=>Z b o (λz=>L<|XC.mp z) e) q r m Y S;exact#[_,rfl,sv aq rfl rfl (by decide) #[.int<|lo+i*c,H,F,#[t,rfl],#[rfl,rfl],aq,λb L=>(A b L).1]]
 done:=by intro X l B j J i M s O H E I A st hg;subst l B j;obtain⟨q,r,Q,m,Y,S⟩:=A it Xa;exact wpAny_pyNext_range_end (I.ok.hd J) st (by have:n<=i:=hg;lia) λy eb=>#[rfl,I.turned eb q r m Y S]
 self:=λ_ _ _ _ _ st h=>wpAny_pyIter_rangeiter st h
def pG(lo hi c:Int):Nat:=(Builtin.Range.rangeSize lo hi c).toNat
section
variable{X:Cx}{tg:Expr}
def MC(g:TA):TI:=λO H R=>g O H λU P=>∃i j c:Int,U=[.int i,.int j,.int c]/\(i.natAbs<=1000000/\j.natAbs<=1000000/\1<=c/\c<=1000)/\R (P7 i c<|pG i j c) P
theorem Fo(hi:i.natAbs<=1000000)(F:j.natAbs<=1000000)(Z:1<=c):0<=Builtin.Range.rangeSize i j c/\Builtin.Range.rangeSize i j c<=2000000:=by
 unfold Builtin.Range.rangeSize;rw[aaf (by omega)];split
 ·have a:=Int.ediv_nonneg (show 0<=j-i-1 by omega) (show 0<=c by omega);have b:=Int.ediv_le_self c (show 0<=j-i-1 by omega);omega
 ·omega
theorem yS(t:Gl X "range")(E:X.mg "range"=B')(m:PA X [a,b,d] ta)(l:starEach [a,b,d] X.env=[(J',eval a X.env),(J',eval b X.env),(J',eval d X.env)])(J:starEach [b,d] X.env=[(J',eval b X.env),(J',eval d X.env)]):
  PI X tg (.Call (.Name "range" p) [a,b,d] [] pos) (MC ta):=by
 intro M s O H R I h;refine Call_ (j4 I t E boot_range (ZZ (b9 (m pos M s O H _ I h) λus s1#[U,P,F,B,S]=>?_) (by rw[l,J]) (by rw[J];rfl)));obtain⟨i,j,c,e,⟨S,A,q3,u⟩,q⟩:=S;subst e;obtain⟨u1,g,rfl,⟨n,rfl⟩,r2⟩:=B.cons_inv;obtain⟨y,w,rfl,⟨k,rfl⟩,⟨t3,rfl⟩⟩:=r2.two;refine PySem.call_range_3 ⋯ ?_ (.inl (PyProof.noPylong_of_log2 (Nat.lt_trans ((Nat.log2_lt ⋯).mpr (show c.natAbs<2^10 by lia)) (by decide))));obtain⟨s0,r⟩:=Fo S A q3;have W:Builtin.Range.small i j c=G':=by unfold Builtin.Range.small Builtin.Range.rangeFitsLong;rw[aaf ⋯];simp only[W3,XN,aac];omega
 refine wpAny_pyIter_range (IsRange.new ..) W ?_;have Y:Inv X M O P {s1 with heap:=s1.heap.push {cls:=.type "range",data:=.fields [.int i n,.int j k,.int c t3].toArray}}:=F.kept λb o e=>W1 _ e
 refine#[_,[(s1.heap.push {cls:=.type "range",data:=.fields [.int i n,.int j k,.int c t3].toArray}).objs.size],_,_,P,rfl,
  Y.kept λb o e=>W1 _ e,zi _ i c (pG i j c),?_,λb L=>?_,q]
 ·have e1:i+((0:Nat):Int)*c=i:=by simp
  have e2:((pG i j c:Nat):Int)-((0:Nat):Int)=Builtin.Range.rangeSize i j c:=by unfold pG;lia
  rw[e1,e2];exact Xb _ rfl
 ·cases XC.mp L;exact Y.qo (W9 _) (Y.hok.fresh (W9 _))
end
end Mx
end
section
namespace Rx
open PySem PySem.W PySem.Spec PyProof.Rows L2 PySem.SeqAt
set_option genInjectivity true in
inductive R(α:Type)where
 |ok (a:α)|ex (c:Nat)|bad
def R.bind:R α->(α->R β)->R β
 |.ok a,f=>f a
 |.ex c,_=>.ex c
 |.bad,_=>.bad
@[simp] theorem R.ao{α β:Type}(a:α)(f:α->R β):(R.ok a).bind f=f a:=rfl
abbrev lim:Nat:=1000000
abbrev ah:=List (Option Dt)
abbrev Sx:=Option (List Int)
def aa(b:Bool){α:Type}(r:R α):R α:=if b then r else .bad
@[simp] theorem guard_true{α:Type}(r:R α):aa G' r=r:=rfl
def kI(o:Operator)(a b:Dt):R Dt:=match o with
 |.Add=>match a,b with
  |.int i,.int j=>.ok<|.int<|i+j
  |.lst x,.lst y=>aa (decide (x.length+y.length<=lim))<|.ok<|.lst<|x++y
  |.tup x,.tup y=>aa (decide (x.length+y.length<=lim))<|.ok<|.tup<|x++y
  |_,_=>.bad
 |.Sub=>match a,b with
  |.int i,.int j=>.ok<|.int<|i-j
  |_,_=>.bad
 |.Mult=>match a,b with
  |.int i,.int j=>aa (decide (i.natAbs<2^64)||decide (j.natAbs<2^64))<|.ok<|.int<|i*j
  |.lst x,.int k=>aa (decide (k.natAbs<=lim)&&decide (x.length*k.toNat<=lim))<|.ok<|.lst (List.replicate k.toNat x).flatten
  |.tup x,.int k=>aa (decide (k.natAbs<=lim)&&decide (x.length*k.toNat<=lim))<|.ok<|.tup (List.replicate k.toNat x).flatten
  |_,_=>.bad
 |.FloorDiv=>match a,b with
  |.int i,.int j=>aa (decide (j≠0)&&decide (j.natAbs.log2<9000))<|.ok<|.int<|i.fdiv j
  |_,_=>.bad
 |.Mod=>match a,b with
  |.int i,.int j=>aa (decide (j≠0))<|.ok<|.int<|i.fmod j
  |_,_=>.bad
 |.Pow=>match a,b with
  |.int i,.int j=>aa (decide (0<=j)&&decide (j<=1000)&&decide (i.natAbs<2^64))<|.ok<|.int<|i^j.toNat
  |_,_=>.bad
 |_=>.bad
def inD(d:Dt)(ds:List Dt):Bool:=ds.any λe=>b8 e d
def oy(d e:Dt):Bool:=pl d&&pl e&&decide (dp d<=100)
def itemsOf:Dt->Option (List Dt)
 |.lst ds=>y' ds
 |.tup ds=>y' ds
 |.iZ ns=>y'<|ns.map Dt.int
 |_=>B'
def gW:Dt->Option (List Dt)
 |.str x=>y'<|x.cps.toList.map λc=>.str ⟨#[c]⟩
 |d=>itemsOf d
def DR(y x:Str):Bool:= !(Builtin.Str.occurrences y x 0 y.length 1).isEmpty
def cW:Dt->Option (List Dt)
 |.lst ds=>y' ds
 |.tup ds=>y' ds
 |_=>B'
mutual
noncomputable def zD:Mx.D->Mx.D->Bool
 |.int _,.int _=>G'
 |.str _,.str _=>G'
 |.tup a,.tup b=>sV a b
 |_,_=>J'
noncomputable def sV:List Mx.D->List Mx.D->Bool
 |x::xs,y::ys=>zD x y&&sV xs ys
 |_,_=>G'
end
def ck:CmpOp->Dt->Dt->R Bool
 |.Eq,a,b=>aa (oy a b)<|.ok<|b8 a b
 |.NotEq,a,b=>aa (oy a b)<|.ok<|!b8 a b
 |.Lt,.int i,.int j=>.ok<|decide (i<j)
 |.LtE,.int i,.int j=>.ok<|decide (i<=j)
 |.Gt,.int i,.int j=>.ok<|decide (j<i)
 |.GtE,.int i,.int j=>.ok<|decide (j<=i)
 |.Is,a,.bj=>.ok (match a with|.bj=>G'|_=>J')
 |.IsNot,a,.bj=>.ok (match a with|.bj=>J'|_=>G')
 |.In,a,.lst ds=>aa (pl a&&kh ds&&decide (mz ds<=100))<|.ok<|inD a ds
 |.In,.str x,.str y=>.ok<|DR y x
 |.NotIn,a,.lst ds=>aa (pl a&&kh ds&&decide (mz ds<=100))<|.ok<|!inD a ds
 |.NotIn,.str x,.str y=>.ok<|!DR y x
 |_,_,_=>.bad
def cU:Dt->R Bool
 |.bj=>.ok J'
 |.bl b=>.ok b
 |.int i=>.ok<|i != 0
 |.str y=>aa (decide (y.length<=lim))<|.ok<|(y.length:Int) != 0
 |.lst ds=>.ok !ds.isEmpty
 |.tup ds=>.ok !ds.isEmpty
 |.iZ ds=>.ok !ds.isEmpty
 |_=>.bad
def zV(ds:List Dt)(i:Int):R Dt:=match uo ds i with
 |some d=>.ok d
 |none=>.bad
def cq:Dt->Dt->R Dt
 |.lst ds,.int i=>zV ds i
 |.tup ds,.int i=>zV ds i
 |.iZ ns,.int i=>zV (ns.map Dt.int) i
 |_,_=>.bad
def cutD{α:Type}(xs:List α)(lo hi:Option Int):List α:=(xs.drop<|HT.cw xs.length 0 lo).take<|HT.cw xs.length xs.length hi-HT.cw xs.length 0 lo
def eJ:Dt->Option Int->Option Int->R Dt
 |.lst ds,lo,hi=>.ok<|.lst<|cutD ds lo hi
 |.iZ ds,lo,hi=>.ok<|.lst<|cutD (ds.map Dt.int) lo hi
 |.tup ds,lo,hi=>.ok<|.tup<|cutD ds lo hi
 |_,_,_=>.bad
inductive BI where
 |len|abs|min2|max2|sum|any|all|minL|maxL|sorted|tuple|list|isi (T:String)|dvm
 deriving DecidableEq
def intsOf:List Dt->Option (List Int)
 |[]=>y' []
 |.int i::r=>(intsOf r).map (i:: ·)
 |_=>B'
def gA:List Dt->Option (List Bool)
 |[]=>y' []
 |.bl i::r=>(gA r).map (i:: ·)
 |_=>B'
def wN(a b:Mx.D):Bool:= !Mx.D.lt b a
def fA(ds:List Mx.D):List Mx.D:=ds.mergeSort wN
def ML(k:Mx.SK):Mx.D->Bool
 |.tup (.tup _::_)=>k== .tt
 |.tup (.str _::_)=>k== .ts
 |.tup (.int _::_)=>k== .ti
 |.str _=>k== .s
 |.int _=>k== .i
 |_=>J'
def kL(ds:List Mx.D):Bool:=decide (ds.length<1000000)&&(decide (ds.length<2)||(decide (Mx.D.gh ds<=100)&&([Mx.SK.tt,.ts,.ti,.s,.i].any λk=>ds.all<|ML k)&&ds.all λd=>ds.all λe=>zD d e))
def fh:List Int->Int
 |[]=>0
 |[a]=>a
 |a::r=>min a<|fh r
def de:List Int->Int
 |[]=>0
 |[a]=>a
 |a::r=>max a<|de r
def strsOf:List Dt->Option (List Str)
 |[]=>y' []
 |.str i::r=>(strsOf r).map (i:: ·)
 |_=>B'
def dH(xs k:List Dt):List Dt:=List.zipWith (λx y=>Dt.tup [x,y]) xs k
def wj:Nat->List Dt->List Dt
 |_,[]=>[]
 |i,x::xs=>Dt.tup [.int i,x]::wj (i+1) xs
def yE(T:String):Dt->R Bool
 |.str _=>.ok<|T=="str"
 |.int _=>.ok<|T=="int"
 |.bl _=>.ok<|T=="bool"||T=="int"
 |.lst _=>.ok<|T=="list"
 |.tup _=>.ok<|T=="tuple"
 |.bj=>.ok J'
 |.obj _ _=>.ok J'
 |_=>.bad
def cG(b:BI)(as:List Dt):R Dt:=match b with
 |.len=>match as with
  |[.lst ds]=>.ok<|.int ds.length
  |[.tup ds]=>.ok<|.int ds.length
  |[.iZ ds]=>.ok<|.int ds.length
  |_=>.bad
 |.abs=>match as with
  |[.int i]=>.ok<|.int<|if i<0 then -i else i
  |_=>.bad
 |.min2=>match as with
  |[.int i,.int j]=>.ok<|.int<|if j<i then j else i
  |_=>.bad
 |.max2=>match as with
  |[.int i,.int j]=>.ok<|.int<|if j>i then j else i
  |_=>.bad
 |.sum=>match as with
  |[.lst ds]=>match intsOf ds with|some ns=>.ok (.int ns.sum)|none=>.bad
  |[.tup ds]=>match intsOf ds with|some ns=>.ok (.int ns.sum)|none=>.bad
  |_=>.bad
 |.any=>match as with
  |[.lst ds]=>match gA ds with|some ns=>.ok (.bl<|ns.any id)|none=>.bad
  |_=>.bad
 |.all=>match as with
  |[.lst ds]=>match gA ds with|some ns=>.ok (.bl<|ns.all id)|none=>.bad
  |_=>.bad
 |.minL=>match as with
  |[.lst ds]=>match intsOf ds with|some ns=>aa (!ns.isEmpty) (.ok<|.int<|fh ns)|none=>.bad
  |[.tup ds]=>match intsOf ds with|some ns=>aa (!ns.isEmpty) (.ok<|.int<|fh ns)|none=>.bad
  |_=>.bad
 |.sorted=>match as with
  |[d]=>match itemsOf d with
   |some ds=>match i6 ds with
    |some ms=>aa (kL ms)<|.ok<|.lst<|bQ<|fA ms
    |none=>.bad
   |none=>.bad
  |_=>.bad
 |.tuple=>match as with
  |[.lst ds]=>.ok<|.tup ds
  |[.tup ds]=>.ok<|.tup ds
  |_=>.bad
 |.list=>match as with
  |[.lst ds]=>.ok<|.lst ds
  |[.tup ds]=>.ok<|.lst ds
  |[.iZ ns]=>.ok<|.lst<|ns.map Dt.int
  |_=>.bad
 |.isi T=>match as with
  |[d]=>(yE T d).bind λb=>.ok<|.bl b
  |_=>.bad
 |.maxL=>match as with
  |[.lst ds]=>match intsOf ds with|some ns=>aa (!ns.isEmpty) (.ok<|.int<|de ns)|none=>.bad
  |_=>.bad
 |.dvm=>match as with
  |[.int i,.int j]=>aa (decide (j≠0)&&decide (j.natAbs.log2<9000))<|.ok<|.tup [.int (i.fdiv j),.int (i.fmod j)]
  |_=>.bad
def isStr:Dt->Bool
 |.str _=>G'
 |_=>J'
inductive MT where
 |join
 deriving DecidableEq
def V4:MT->Dt->List Dt->R Dt
 |.join,.str z,[.lst ds]=>match strsOf ds with
  |some ys=>aa (decide ((ys.map (·.length)).sum+ys.length*z.length<=lim))<|.ok<|.str<|PySem.Txt.join z ys
  |none=>.bad
 |_,_,_=>.bad
inductive Tg where
 |nm (i:Nat)|tp (is:List Nat)
 deriving DecidableEq
mutual
inductive C where
 |con (d:Dt)|var (i:Nat)|mvr (i:Nat)
 |bin (o:Operator) (a b:C)|cmp (o:CmpOp) (a b:C)|ch (o p:CmpOp) (a b c:C)
 |neg (a:C)|nt (a:C)|and (a b:C)|or (a b:C)|ite (t a b:C)
 |idx (a b:C)|sliL (a lo:C)|sliH (a hi:C)|sliB (a lo hi:C)
 |tup (es:Cs)|lst (es:Cs)
 |call (f:Nat) (es:Cs) (ds:List Dt)|callD (f:Nat) (es:Cs)|popD|lenD
 |bi (b:BI) (es:Cs)|mt (m:MT) (o:C) (es:Cs)
 |LK (i:Nat) (k e:C)|jK (i:Nat)|gtO (o k e:C)
 |comp (cap:List (Option Nat)) (it:nZ) (tg:Tg) (ts:Cs) (e:C)
 |gD (cap:List (Option Nat)) (it:nZ) (tg:Tg) (ts:Cs) (ib:nZ) (jO:Tg) (FB:Cs) (e:C)
inductive Cs where
 |nil|cons (c:C) (cs:Cs)
inductive nZ where
 |seq (c:C)|rng1 (c:C)|rng2 (a b:C)|rng3 (a b c:C)|zip (a b:C)|enum (c:C)|zipR (a c:C)
end
mutual
noncomputable def lk:C->Nat
 |.mvr _=>1
 |.and _ _=>0
 |.or _ _=>0
 |.ite _ a b=>max (lk a)<|lk b
 |.idx a _=>if lk a<=1 then 0 else 2
 |.sliL a _=>if lk a<=1 then 0 else 2
 |.sliH a _=>if lk a<=1 then 0 else 2
 |.sliB a _ _=>if lk a<=1 then 0 else 2
 |.bin _ a b=>if lk a<=1/\lk b<=1 then 0 else 2
 |.tup es=>if rD es=0 then 0 else 2
 |.lst es=>if rD es=0 then 0 else 2
 |.call _ es _=>if rD es=0 then 0 else 2
 |.callD _ es=>if rD es=0 then 0 else 2
 |.bi _ es=>if rD es<=1 then 0 else 2
 |.LK _ _ e=>lk e
 |.gtO o _ e=>if lk o=0 then lk e else 2
 |_=>0
noncomputable def rD:Cs->Nat
 |.nil=>0
 |.cons c cs=>max (lk c)<|rD cs
end
def rB:nZ->Nat
 |.seq c=>lk c
 |.zip a b=>max (lk a)<|lk b
 |.enum c=>lk c
 |.zipR a _=>lk a
 |_=>0
def Dt.MF:Dt->Bool
 |.bj=>G'
 |_=>J'
def fresh(fr:Nat->Bool):C->Bool
 |.con d=>d.MF
 |.lst _=>G'
 |.comp ..=>G'
 |.gD ..=>G'
 |.bi .sorted _=>G'
 |.bi .list _=>G'
 |.bin ..=>G'
 |.sliH ..=>G'
 |.call f _ _=>fr f
 |.callD f _=>fr f
 |_=>J'
def cJ(c:C)(d:Dt):Bool:=decide (lk c=0)||yL d
def xM(c:C)(d:Dt):Bool:=decide (lk c=0)||match d with|.lst ds=>nh ds|d=>yL d
def aT(ρ:ah)(i:Nat):R Dt:=match ρ[i]? with
 |some (y' d)=>.ok d
 |_=>.bad
def jg(cap:List (Option Nat))(ρ:ah):ah:=cap.map λo=>o.bind λi=>(ρ[i]?).join
def f7:List Nat->List Dt->ah->R ah
 |[],[],ρ=>.ok ρ
 |i::is,d::ds,ρ=>f7 is ds<|ρ.set i<|y' d
 |_,_,_=>.bad
def fv:Tg->Dt->ah->R ah
 |.nm i,d,ρ=>.ok<|ρ.set i<|y' d
 |.tp is,.tup ds,ρ=>f7 is ds ρ
 |.tp is,.lst ds,ρ=>f7 is ds ρ
 |_,_,_=>.bad
def xJ(is:List Nat)(d:Dt)(ρ:ah):R ah:=match d with
 |.tup ds=>f7 is ds ρ
 |.lst ds=>f7 is ds ρ
 |_=>.bad
def az(f:Dt->Sx->R (List Dt×Sx)):List Dt->Sx->R (List Dt×Sx)
 |[],S=>.ok ([],S)
 |x::xs,S=>(f x S).bind λp=>(az f xs p.2).bind λq=>.ok (p.1++q.1,q.2)
def aF(tg:Tg)(a:ah->Sx->R (Bool×Sx))(body:ah->Sx->R (List Dt×Sx))(ρ:ah)(d:Dt)(S:Sx):R (List Dt×Sx):=
 (fv tg d ρ).bind λρ1=>(a ρ1 S).bind λb=>if b.1 then body ρ1 b.2 else .ok ([],b.2)
def bu(lo:Int)(n:Nat):List Dt:=(List.range n).map λ(i:Nat)=>Dt.int<|lo+(i:Int)
def Qu(d:Mx.D):List Dt->List Dt->Option Dt
 |k::ks,v::vs=>if toD k=y' d then y' v else Qu d ks vs
 |_,_=>B'
def LB(d:Mx.D)(v:Dt):List Dt->List Dt->List Dt
 |k::ks,x::vs=>(if toD k=y' d then v else x)::LB d v ks vs
 |_,vs=>vs
def MN(k:Dt):Option Mx.D:=match toD k with
 |some (.tup ds)=>if Mx.D.dep (.tup ds)<=8 then y' (.tup ds) else B'
 |some (.str x)=>y'<|.str x
 |_=>B'
def isTup:Dt->Bool
 |.tup _=>G'
 |_=>J'
def MO(d:Mx.D)(ks:List Dt):Bool:=match d with
 |.tup _=>ks.all isTup
 |.str _=>ks.all isStr
 |_=>J'
def Lz(z k e:Dt):R Dt:=match z with
 |.g9 ks vs=>match MN k with
  |some (.tup ds)=>aa (ks.all isTup)<|.ok<|(Qu (.tup ds) ks vs).getD e
  |_=>.bad
 |_=>.bad
def LD(z k v:Dt):R Dt:=match z with
 |.g9 ks vs=>match MN k with
  |some d=>aa (MO d ks&&decide (ks.length<lim))<|.ok<|if (Qu d ks vs).isSome then .g9 ks (LB d v ks vs) else .g9 (ks++[k]) (vs++[v])
  |none=>.bad
 |_=>.bad
def BM(g U:List Mx.D):List Mx.D:=(g.zip U).map λz=>.tup [z.1,z.2]
def LF(z:Dt):R Dt:=match z with
 |.g9 ks vs=>match i6 ks,i6 vs with
  |some ms,y' ns=>aa (kL<|BM ms ns)<|.ok<|.lst<|bQ<|fA<|BM ms ns
  |_,_=>.bad
 |_=>.bad
def Rt:Dt->Bool
 |.obj _ _=>G'
 |_=>J'
def T7(y:Str):List Str->List Dt->Option Dt
 |k::ks,v::vs=>if k=y then y' v else T7 y ks vs
 |_,_=>B'
def Nf(z k e:Dt):R Dt:=match z with
 |.obj ks vs=>match k with
  |.str y=>.ok<|(T7 y ks vs).getD e
  |_=>.bad
 |_=>.bad
def ME(ρ:ah)(i:Nat):Bool:=match ρ[i]? with|some (y'<|.g9 _ _)=>G'|_=>J'
def vD(lo c:Int)(n:Nat):List Dt:=(List.range n).map λ(i:Nat)=>Dt.int<|lo+i*c
abbrev FT:=Nat->List Dt->Sx->R (Dt×Sx)
mutual
noncomputable def ev(F:FT):C->ah->Sx->R (Dt×Sx)
 |.con d,_,S=>.ok (d,S)
 |.var i,ρ,S=>(aT ρ i).bind λd=>.ok (d,S)
 |.mvr i,ρ,S=>(aT ρ i).bind λd=>.ok (d,S)
 |.bin o a b,ρ,S=>(ev F a ρ S).bind λx=>(ev F b ρ x.2).bind λy=>(kI o x.1 y.1).bind λd=>.ok (d,y.2)
 |.cmp o a b,ρ,S=>(ev F a ρ S).bind λx=>(ev F b ρ x.2).bind λy=>(ck o x.1 y.1).bind λd=>.ok (.bl d,y.2)
 |.ch o p a b c,ρ,S=>(ev F a ρ S).bind λx=>(ev F b ρ x.2).bind λy=>(ck o x.1 y.1).bind λd=>
   if d then(ev F c ρ y.2).bind λz=>(ck p y.1 z.1).bind λe=>.ok (.bl e,z.2) else .ok (.bl J',y.2)
 |.neg a,ρ,S=>(ev F a ρ S).bind λx=>match x.1 with|.int i=>.ok (.int<|-i,x.2)|_=>.bad
 |.nt a,ρ,S=>(ev F a ρ S).bind λx=>match x.1 with|.bl b=>.ok (.bl !b,x.2)|_=>.bad
 |.and a b,ρ,S=>(ev F a ρ S).bind λx=>match x.1 with|.bl G'=>(ev F b ρ x.2).bind λy=>(match y.1 with|.bl c=>.ok (.bl c,y.2)|_=>.bad)|.bl J'=>.ok (.bl J',x.2)|_=>.bad
 |.or a b,ρ,S=>(ev F a ρ S).bind λx=>match x.1 with|.bl J'=>(ev F b ρ x.2).bind λy=>(match y.1 with|.bl c=>.ok (.bl c,y.2)|_=>.bad)|.bl G'=>.ok (.bl G',x.2)|_=>.bad
 |.ite t a b,ρ,S=>(cg F t ρ S).bind λx=>if x.1 then ev F a ρ x.2 else ev F b ρ x.2
 |.idx a b,ρ,S=>(ev F a ρ S).bind λx=>(ev F b ρ x.2).bind λy=>(cq x.1 y.1).bind λd=>.ok (d,y.2)
 |.sliL a l,ρ,S=>(ev F a ρ S).bind λx=>(ev F l ρ x.2).bind λy=>match y.1 with|.int i=>(eJ x.1 (y' i) B').bind λd=>.ok (d,y.2)|_=>.bad
 |.sliH a h,ρ,S=>(ev F a ρ S).bind λx=>(ev F h ρ x.2).bind λy=>match y.1 with|.int i=>(eJ x.1 B'<|y' i).bind λd=>.ok (d,y.2)|_=>.bad
 |.sliB a l h,ρ,S=>(ev F a ρ S).bind λx=>(ev F l ρ x.2).bind λy=>match y.1 with|.int i=>(ev F h ρ y.2).bind λz=>(match z.1 with|.int j=>(eJ x.1 (y' i)<|y' j).bind λd=>.ok (d,z.2)|_=>.bad)|_=>.bad
 |.tup es,ρ,S=>(fK F es ρ S).bind λx=>aa (decide (x.1.length<=lim))<|.ok (.tup x.1,x.2)
 |.lst es,ρ,S=>(fK F es ρ S).bind λx=>aa (decide (x.1.length<=lim))<|.ok (.lst x.1,x.2)
 |.call f es ds,ρ,S=>(fK F es ρ S).bind λx=>(F f (x.1++ds) B').bind λy=>.ok (y.1,x.2)
 |.callD f es,ρ,S=>aa S.isSome ((fK F es ρ S).bind λx=>match x.2 with|some s=>F f x.1 (y' s)|none=>.bad)
 |.popD,_,S=>match S with|some ns=>aa (!ns.isEmpty) (.ok (.int<|ns.getLastD 0,y' ns.dropLast))|none=>.bad
 |.lenD,_,S=>match S with|some ns=>.ok (.int ns.length,S)|none=>.bad
 |.LK i k e,ρ,S=>aa (ME ρ i)<|(ev F k ρ S).bind λx=>(ev F e ρ x.2).bind λy=>(aT ρ i).bind λz=>(Lz z x.1 y.1).bind λd=>.ok (d,y.2)
 |.jK i,ρ,S=>(aT ρ i).bind λz=>(LF z).bind λd=>.ok (d,S)
 |.gtO o k e,ρ,S=>(ev F o ρ S).bind λz=>aa (Rt z.1)<|(ev F k ρ z.2).bind λx=>(ev F e ρ x.2).bind λy=>(Nf z.1 x.1 y.1).bind λd=>.ok (d,y.2)
 |.bi b es,ρ,S=>(fK F es ρ S).bind λx=>(cG b x.1).bind λd=>.ok (d,x.2)
 |.mt m o es,ρ,S=>(ev F o ρ S).bind λy=>aa (isStr y.1)<|(fK F es ρ y.2).bind λx=>(V4 m y.1 x.1).bind λd=>.ok (d,x.2)
 |.comp cap it tg ts e,ρ,S=>(dq F it ρ S).bind λx=>aa (decide (x.1.length<=lim)&&(decide (rB it<=1)||jV F it ρ S))
   ((az (aF tg (aZ F ts) (λρ1 S1=>(ev F e ρ1 S1).bind λy=>aa (cJ e y.1)<|.ok ([y.1],y.2))<|jg cap ρ) x.1 x.2).bind λq=>.ok (.lst q.1,q.2))
 |.gD cap it tg ts ib jO FB e,ρ,S=>(dq F it ρ S).bind λx=>aa (decide (x.1.length<=lim)&&(decide (rB it<=1)||jV F it ρ S))
   ((az (aF tg (aZ F ts) (λρ1 S1=>(dq F ib ρ1 S1).bind λx2=>aa (decide (x.1.length*x2.1.length<=lim)&&decide (rB ib=0))
    (az (aF jO (aZ F FB) (λρ2 S2=>(ev F e ρ2 S2).bind λy=>aa (cJ e y.1)<|.ok ([y.1],y.2)) ρ1) x2.1 x2.2))<|jg cap ρ) x.1 x.2).bind λq=>.ok (.lst q.1,q.2))
noncomputable def cg(F:FT):C->ah->Sx->R (Bool×Sx)
 |.nt a,ρ,S=>(cg F a ρ S).bind λx=>.ok (!x.1,x.2)
 |.and a b,ρ,S=>(cg F a ρ S).bind λx=>if x.1 then cg F b ρ x.2 else .ok (J',x.2)
 |.or a b,ρ,S=>(cg F a ρ S).bind λx=>if x.1 then .ok (G',x.2) else cg F b ρ x.2
 |.cmp o a b,ρ,S=>(ev F a ρ S).bind λx=>(ev F b ρ x.2).bind λy=>(ck o x.1 y.1).bind λd=>.ok (d,y.2)
 |.ch o p a b c,ρ,S=>(ev F a ρ S).bind λx=>(ev F b ρ x.2).bind λy=>(ck o x.1 y.1).bind λd=>
   if d then(ev F c ρ y.2).bind λz=>(ck p y.1 z.1).bind λe=>.ok (e,z.2) else .ok (J',y.2)
 |.var i,ρ,S=>(aT ρ i).bind λd=>(cU d).bind λb=>.ok (b,S)
 |.mvr i,ρ,S=>(aT ρ i).bind λd=>(cU d).bind λb=>.ok (b,S)
 |.call f es ds,ρ,S=>(fK F es ρ S).bind λx=>(F f (x.1++ds) B').bind λy=>(cU y.1).bind λb=>.ok (b,x.2)
 |.callD f es,ρ,S=>aa S.isSome ((fK F es ρ S).bind λx=>match x.2 with|some s=>(F f x.1<|y' s).bind λy=>(cU y.1).bind λb=>.ok (b,y.2)|none=>.bad)
 |.bi b es,ρ,S=>(fK F es ρ S).bind λx=>(cG b x.1).bind λd=>(cU d).bind λb=>.ok (b,x.2)
 |.idx a b,ρ,S=>(ev F a ρ S).bind λx=>(ev F b ρ x.2).bind λy=>(cq x.1 y.1).bind λd=>(cU d).bind λb=>.ok (b,y.2)
 |_,_,_=>.bad
noncomputable def fK(F:FT):Cs->ah->Sx->R (List Dt×Sx)
 |.nil,_,S=>.ok ([],S)
 |.cons c cs,ρ,S=>(ev F c ρ S).bind λx=>(fK F cs ρ x.2).bind λy=>.ok (x.1::y.1,y.2)
noncomputable def aZ(F:FT):Cs->ah->Sx->R (Bool×Sx)
 |.nil,_,S=>.ok (G',S)
 |.cons c .nil,ρ,S=>cg F c ρ S
 |_,_,_=>.bad
noncomputable def dq(F:FT):nZ->ah->Sx->R (List Dt×Sx)
 |.seq c,ρ,S=>(ev F c ρ S).bind λx=>match gW x.1 with|some ds=>.ok (ds,x.2)|none=>.bad
 |.rng1 c,ρ,S=>(ev F c ρ S).bind λx=>match x.1 with|.int j=>aa (decide (j<=lim)&&decide (-lim<=j)) (.ok (bu 0 j.toNat,x.2))|_=>.bad
 |.rng2 a b,ρ,S=>(ev F a ρ S).bind λx=>(ev F b ρ x.2).bind λy=>match x.1,y.1 with
   |.int i,.int j=>aa (decide (i.natAbs<=lim)&&decide (j.natAbs<=lim)) (.ok (bu i (j-i).toNat,y.2))|_,_=>.bad
 |.rng3 a b c,ρ,S=>(ev F a ρ S).bind λx=>(ev F b ρ x.2).bind λy=>(ev F c ρ y.2).bind λz=>match x.1,y.1,z.1 with
   |.int i,.int j,.int k=>aa (decide (i.natAbs<=lim)&&decide (j.natAbs<=lim)&&(decide (1<=k)&&decide (k<=1000))) (.ok (vD i k<|Mx.pG i j k,z.2))|_,_,_=>.bad
 |.zip a b,ρ,S=>(ev F a ρ S).bind λx=>(ev F b ρ x.2).bind λy=>match cW x.1,cW y.1 with
   |some xs,y' ys=>.ok (dH xs ys,y.2)|_,_=>.bad
 |.enum c,ρ,S=>(ev F c ρ S).bind λx=>match cW x.1 with|some ds=>.ok (wj 0 ds,x.2)|none=>.bad
 |.zipR a c,ρ,S=>(ev F a ρ S).bind λx=>(ev F c ρ x.2).bind λy=>match cW x.1,y.1 with
   |some xs,.int j=>aa (decide (j<=lim)&&decide (-lim<=j)) (.ok (dH xs<|bu 0 j.toNat,y.2))|_,_=>.bad
noncomputable def jV(F:FT):nZ->ah->Sx->Bool
 |.seq c,ρ,S=>match ev F c ρ S with|.ok x=>yL x.1|_=>J'
 |_,_,_=>J'
end
inductive Fl where
 |next|brk|cnt|ret (d:Dt)
mutual
inductive T where
 |asg (i:Nat) (c:C)|asgM (i:Nat) (c:C)|asgD (i:Nat) (c:C)|mov (i j:Nat)|asgT (is:List Nat) (c:C)
 |aug (i:Nat) (c:C)
 |tR (i:Nat) (k v:C)|app (i:Nat) (c:C)|xtd (i:Nat) (c:C)|clr (i:Nat)|rvs (i:Nat)
 |DF (c:C)|ret (c:C)|retN|ifs (t:C) (a b:Ts)|fr (tg:Tg) (it:nZ) (b:Ts)|wh (t:C) (b:Ts)
 |Qv (i:Nat)|dset (i:Nat) (k v:C)
 |rs (k:Nat) (vs:List Nat)|tr (b:Ts) (zG:List (Option Bool))|brk|cnt|zE
inductive Ts where
 |nil|cons (t:T) (ts:Ts)
end
abbrev RS:=R (Fl×ah×Sx)
def M0(ρ:ah)(i:Nat):Bool:=match ρ[i]? with
 |some (y'<|.int n)=>decide (0<=n)&&decide (n<10^19)
 |_=>J'
def forL(tg:Tg)(body:ah->Sx->RS):List Dt->ah->Sx->RS
 |[],ρ,S=>.ok (.next,ρ,S)
 |x::xs,ρ,S=>(fv tg x ρ).bind λρ1=>(body ρ1 S).bind λp=>match p.1 with
  |.next=>forL tg body xs p.2.1 p.2.2
  |.cnt=>forL tg body xs p.2.1 p.2.2
  |.brk=>.ok (.next,p.2)
  |.ret d=>.ok (.ret d,p.2)
def SE(test:ah->Sx->R (Bool×Sx))(body:ah->Sx->RS):Nat->ah->Sx->RS
 |0,_,_=>.bad
 |n+1,ρ,S=>(test ρ S).bind λb=>if b.1 then(body ρ b.2).bind λp=>match p.1 with
   |.next=>SE test body n p.2.1 p.2.2
   |.cnt=>SE test body n p.2.1 p.2.2
   |.brk=>.ok (.next,p.2)
   |.ret d=>.ok (.ret d,p.2)
  else .ok (.next,ρ,b.2)
def OD:Nat:=100000
def isLE(ρ:ah)(i:Nat):Bool:=match ρ[i]? with
 |some (y'<|.lst _)=>G'
 |_=>J'
def j9(ρ:ah)(i:Nat):R (List Dt):=match ρ[i]? with
 |some (y'<|.lst ds)=>.ok ds
 |_=>.bad
mutual
noncomputable def ex(F:FT):T->ah->Sx->RS
 |.asg i c,ρ,S=>(ev F c ρ S).bind λx=>aa (cJ c x.1)<|.ok (.next,ρ.set i<|y' x.1,x.2)
 |.asgM i c,ρ,S=>(ev F c ρ S).bind λx=>aa (xM c x.1)<|.ok (.next,ρ.set i<|y' x.1,x.2)
 |.asgD i c,ρ,S=>(ev F c ρ S).bind λx=>match x.1 with|.lst ds=>(match intsOf ds with|some ns=>aa (decide (lk c=0)&&decide (i<ρ.length)) (.ok (.next,ρ.set i B',y' ns))|none=>.bad)|_=>.bad
 |.mov i j,ρ,S=>(aT ρ j).bind λd=>.ok (.next,(ρ.set j B').set i<|y' d,S)
 |.asgT is c,ρ,S=>(ev F c ρ S).bind λx=>aa (cJ c x.1)<|(xJ is x.1 ρ).bind λρ1=>.ok (.next,ρ1,x.2)
 |.aug i c,ρ,S=>(aT ρ i).bind λd=>(ev F c ρ S).bind λx=>match d,x.1 with|.int a,.int b=>.ok (.next,ρ.set i<|y'<|.int<|a+b,x.2)|_,_=>.bad
 |.tR i k v,ρ,S=>aa (isLE ρ i)<|(ev F v ρ S).bind λx=>(ev F k ρ x.2).bind λy=>aa (cJ v x.1)<|(j9 ρ i).bind λds=>match y.1 with
   |.int n=>(match rA ds.length n with|some j=>.ok (.next,ρ.set i<|y'<|.lst<|ds.set j x.1,y.2)|none=>.bad)|_=>.bad
 |.Qv i,ρ,S=>.ok (.next,ρ.set i<|y'<|.g9 [] [],S)
 |.dset i k v,ρ,S=>aa (ME ρ i)<|(ev F v ρ S).bind λx=>(ev F k ρ x.2).bind λy=>(aT ρ i).bind λz=>aa (decide (lk v=0))<|(LD z y.1 x.1).bind λd=>.ok (.next,ρ.set i<|y' d,y.2)
 |.app i c,ρ,S=>aa (isLE ρ i)<|(ev F c ρ S).bind λx=>aa (cJ c x.1)<|(j9 ρ i).bind λds=>aa (decide (ds.length<=lim))<|.ok (.next,ρ.set i<|y'<|.lst<|ds++[x.1],x.2)
 |.xtd i c,ρ,S=>aa (isLE ρ i)<|(ev F c ρ S).bind λx=>aa (decide (lk c<=1))<|(j9 ρ i).bind λds=>match x.1 with
   |.lst es=>aa (decide (ds.length+es.length<=lim)) (.ok (.next,ρ.set i<|y'<|.lst<|ds++es,x.2))|.tup es=>aa (decide (ds.length+es.length<=lim)) (.ok (.next,ρ.set i<|y'<|.lst<|ds++es,x.2))|_=>.bad
 |.clr i,ρ,S=>(j9 ρ i).bind λ_=>.ok (.next,ρ.set i<|y'<|.lst [],S)
 |.rvs i,ρ,S=>(j9 ρ i).bind λds=>.ok (.next,ρ.set i<|y'<|.lst ds.reverse,S)
 |.DF c,ρ,S=>(ev F c ρ S).bind λx=>.ok (.next,ρ,x.2)
 |.ret c,ρ,S=>(ev F c ρ S).bind λx=>.ok (.ret x.1,ρ,x.2)
 |.retN,ρ,S=>.ok (.ret .bj,ρ,S)
 |.ifs t a b,ρ,S=>(cg F t ρ S).bind λx=>if x.1 then bf F a ρ x.2 else bf F b ρ x.2
 |.fr tg it b,ρ,S=>(dq F it ρ S).bind λx=>aa (decide (rB it=0)||jV F it ρ S)<|forL tg (bf F b) x.1 ρ x.2
 |.wh t b,ρ,S=>SE (cg F t) (bf F b) OD ρ S
 |.rs k vs,ρ,S=>aa (vs.all<|M0 ρ)<|.ex k
 |.tr b zG,ρ,S=>aa S.isNone (match bf F b ρ S with|.ex k=>(match zG[k]? with|some (y' v)=>.ok (.ret<|.bl v,ρ,S)|_=>.bad)|r=>r)
 |.brk,ρ,S=>.ok (.brk,ρ,S)
 |.cnt,ρ,S=>.ok (.cnt,ρ,S)
 |.zE,ρ,S=>.ok (.next,ρ,S)
noncomputable def bf(F:FT):Ts->ah->Sx->RS
 |.nil,ρ,S=>.ok (.next,ρ,S)
 |.cons t ts,ρ,S=>(ex F t ρ S).bind λp=>match p.1 with
  |.next=>bf F ts p.2.1 p.2.2
  |f=>.ok (f,p.2)
end
structure Fn where
 ps:Nat
 n:Nat
 bw:Bool
 body:Ts
def gU(F:FT)(f:Fn)(args:List Dt)(S:Sx):R (Dt×Sx):=
 if args.length+(if f.bw then 1 else 0)=f.ps then
  (bf F f.body ((if f.bw then[B'] else[])++args.map y'++List.replicate (f.n-f.ps) B') S).bind λp=>match p.1 with
   |.next=>.ok (.bj,p.2.2)
   |.ret d=>.ok (d,p.2.2)
   |_=>.bad
 else .bad
def ay(fs:List Fn):Nat->FT
 |0,_,_,_=>.bad
 |n+1,f,args,S=>match fs[f]? with
  |some g=>gU (ay fs n) g args S
  |none=>.bad
structure G where
 fns:List (Str×Nat×List Dt×Bool)
 cons:List (Str×Dt)
 bls:List Str
 fr:Nat->Bool
 xs:List (Str×List (Str×Bool))
structure Gm where
 names:List (Str×NameKind)
 N:List Str
 M:List Bool
 δ:Option Nat
 κ:Option Nat
def FE:Option NameKind->Bool
 |some .local=>G'
 |some .cell=>G'
 |some .free=>G'
 |_=>J'
def Ee:Option NameKind->Bool
 |some .local=>G'
 |some .cell=>G'
 |_=>J'
def yo:Option NameKind->Bool
 |some .globalImplicit=>G'
 |_=>J'
def Bp(x:Str):List Str->Option Nat
 |[]=>B'
 |y::r=>if x==y then y' 0 else(Bp x r).map (· + 1)
theorem lu:∀{l:List Str}{i:Nat},Bp x l=y' i->l[i]?=y' x
 |[],i,h=>by simp[Bp]at h
 |y::r,i,h=>by
  unfold Bp at h;by_cases e:(x==y)=G'
  ·rw[aaf e]at h;cases h;have:x=y:=by simpa using e
   simp[this]
  ·rw[aae e]at h;obtain⟨j,Z,rfl⟩:=Xj.mp h;simp[lu Z]
def df(x:Str):Bool:= !(x==("__debug__":Str))&& !(x==("__classdict__":Str))&& !(x==("__name__":Str))
def slot(b:Gm)(x:Str):Option Nat:=if FE (b.names.lookup x)&&df x then Bp x b.N else B'
def fy(b:Gm)(x:Str):Option Nat:=if Ee (b.names.lookup x)&&df x then Bp x b.N else B'
def eR(Γ:Gm)(i:Nat):Bool:=Γ.M[i]?==y' G'
def plainS(Γ:Gm)(i:Nat):Bool:= !eR Γ i&& !(Γ.δ==y' i)
def sg(x:Str):List (Str×Nat×List Dt×Bool)->Option (Nat×Nat×List Dt×Bool)
 |[]=>B'
 |y::r=>if x==y.1 then y' (0,y.2) else(sg x r).map λp=>(p.1+1,p.2)
def Aj:List (Str×Nat×BI):=[("len",1,.len),("abs",1,.abs),("min",2,.min2),("max",2,.max2),("sum",1,.sum),("any",1,.any),("all",1,.all),("min",1,.minL),("max",1,.maxL),("sorted",1,.sorted),("tuple",1,.tuple),("list",1,.list),("divmod",2,.dvm)]
def Dr(x:Str)(n:Nat):Option BI:=(Aj.find? λt=>t.1==x&&t.2.1==n).map (·.2.2)
def vJ(x:Str):Option String:=
 if x==("str":Str) then y' "str" else if x==("int":Str) then y' "int" else if x==("bool":Str) then y' "bool"
 else if x==("list":Str) then y' "list" else if x==("tuple":Str) then y' "tuple" else B'
def tf(Γ:Gm):Expr->Option Nat
 |.Name x _=>(fy Γ x).bind λi=>if plainS Γ i then y' i else B'
 |_=>B'
def ka(Γ:Gm):List Expr->Option (List Nat)
 |[]=>y' []
 |e::es=>(tf Γ e).bind λi=>(ka Γ es).map (i:: ·)
def rQ(Γ:Gm):Expr->Option Tg
 |.Name x p=>(tf Γ<|.Name x p).map .nm
 |.Tuple es _ _=>(ka Γ es).map .tp
 |_=>B'
def Qq(names:List (Str×NameKind)):List Str:=names.filterMap λp=>if FE (y' p.2) then y' p.1 else B'
def Hm(names:List (Str×NameKind))(N:List Str):List (Option Nat):=names.filterMap λp=>match p.2 with
 |.local=>y' B'
 |.free=>y'<|Bp p.1 N
 |.cell=>y' B'
 |_=>B'
def Hn(cap:List (Option Nat))(M:List Bool):List Bool:=cap.map λo=>o.elim J' λi=>M[i]?==y' G'
def D9(δ:Option Nat):List (Option Nat)->Option Nat
 |[]=>B'
 |o::r=>if δ.isSome&&o==δ then y' 0 else(D9 δ r).map (· + 1)
def bo(b:Gm)(a:Scope):Gm×List (Option Nat):=
 let cap:=Hm a.names b.N
 (#[a.names,Qq a.names,Hn cap b.M,D9 b.δ cap,D9 b.κ cap],cap)
def a9:Tg->List Nat
 |.nm i=>[i]
 |.tp is=>is
def An(names on:List (Str×NameKind))(N' Nn:List Str)(cap:List (Option Nat)):Bool:=
 names.all (λy=>names.lookup y.1==y' y.2&&(y.2 != .free||(on.lookup y.1==y' .cell||on.lookup y.1==y' .free)))&&
 (cap.length==N'.length)&&(List.range cap.length).all (λj=>match cap[j]? with
  |some (y' i)=>(match N'[j]? with
   |some x=>Nn[i]?==y' x&&names.lookup x==y' .free
   |none=>J')
  |_=>G')
inductive OW where
 |nm (f:Str) (p:Pos)|at (o:Expr) (m:Str) (ap:Pos)|cl (f:Expr) (as:List Expr) (q:Pos)|int (i:Int) (k:Nat) (p:Pos)|tp (es:List Expr) (k:Nat) (p:Pos)|oth
def OW.e:OW->Option Expr
 |.nm f p=>y'<|.Name f p
 |.at o m ap=>y'<|.Attribute o m ap
 |.cl f as q=>y'<|.Call f as [] q
 |.int i k p=>y'<|.Constant (.int i) k p
 |.tp es k p=>y'<|.Tuple es k p
 |.oth=>B'
def Gc:Expr->OW
 |.Name f p=>.nm f p
 |.Attribute o m ap=>.at o m ap
 |.Call f as [] q=>.cl f as q
 |.Constant (.int i) k p=>.int i k p
 |.Tuple es k p=>.tp es k p
 |_=>.oth
theorem HC(e):(Gc e).e=B'\/(Gc e).e=y' e:=by cases e<;>first|exact .inl rfl|exact .inr rfl|(rename_i _ _ g _;cases g<;>first|exact .inl rfl|exact .inr rfl)|(rename_i c _ _;cases c<;>first|exact .inl rfl|exact .inr rfl)
theorem jW(h:Gc e=v)(q:v.e=y' s):e=s:=by rw[<-h]at q;exact(HC e).elim (λk=>by rw[k]at q;cases q) λk=>ZY<|k.symm.trans q
def Ja(e:Expr):Option (Str×Pos):=match Gc e with
 |.nm x p=>y' (x,p)
 |_=>B'
theorem m9(h:Ja e=y' q):e= .Name q.1 q.2:=by unfold Ja at h;split at h<;>cases h;exact jW ‹_› rfl
def Ph(e:Expr):Option (Expr×List Expr×Pos):=match Gc e with
 |.cl f as q=>y' (f,as,q)
 |_=>B'
theorem Ax(h:Ph e=y' (f,as,q)):e= .Call f as [] q:=by unfold Ph at h;split at h<;>cases h;exact jW ‹_› rfl
def Iu(e:Expr):Bool:=match Gc e with
 |.tp _ _ _=>G'
 |_=>J'
theorem D7(h:Iu e=G'):∃es k p,e= .Tuple es k p:=by unfold Iu at h;split at h<;>cases h;exact#[_,_,_,jW ‹_› rfl]
def Ir(Γ:Gm)(e:Expr):Bool:=match Ja e with
 |some x=>match slot Γ x.1 with
  |some i=>Γ.δ==y' i
  |none=>J'
 |none=>J'
section
variable{α β γ δ:Type}{x:Option α}{y:Option β}{z:Option γ}{c:δ}
theorem bx{P:Prop}(h:x.bind f=y' c)(H:∀a,x=y' a->f a=y' c->P):P:=by
 cases x with
 |none=>cases h
 |some a=>exact H a rfl h
@[elab_as_elim] theorem zp{k:α->δ}{P:δ->Prop}(c:δ)(h:(x.bind λa=>y' (k a))=y' c)(H:∀a,x=y' a->P (k a)):P c:=bx h λa e q=>ZY q▸H a e
@[elab_as_elim] theorem uG{k:α->β->δ}{P:δ->Prop}(c:δ)(h:(x.bind λa=>y.bind λb=>y' (k a b))=y' c)(H:∀a,x=y' a->∀b,y=y' b->P (k a b)):P c:=bx h λa e q=>bx q λb e2 q2=>ZY q2▸H a e b e2
@[elab_as_elim] theorem SX{k:α->β->γ->δ}{P:δ->Prop}(c:δ)(h:(x.bind λa=>y.bind λb=>z.bind λd=>y' (k a b d))=y' c)(H:∀a,x=y' a->∀b,y=y' b->∀d,z=y' d->P (k a b d)):P c:=bx h λa e q=>bx q λb e2 q2=>bx q2 λd e3 q3=>ZY q3▸H a e b e2 d e3
end
def S4(g:G)(Γ:Gm)(x:Str):Option C:=match slot Γ x with
   |some i=>if Γ.δ==y' i||Γ.κ==y' i then B' else if eR Γ i then y' (.mvr i) else y' (.var i)
   |none=>if yo (Γ.names.lookup x)&&df x then(g.cons.lookup x).map .con else B'
def Lm(cE:Nat->G->Gm->Expr->Option C)(n:Nat)(g:G)(Γ:Gm)(a:Expr)(os:List CmpOp)(bs:List Expr):Option C:=match os,bs with
   |[o],[b]=>(cE n g Γ a).bind λa'=>(cE n g Γ b).bind λb'=>y'<|.cmp o a' b'
   |_,_=>B'
def Lu(cE:Nat->G->Gm->Expr->Option C)(n:Nat)(g:G)(Γ:Gm)(a b:Expr):Option C:=match b with
   |.Slice (y' l) B' B' _=>(cE n g Γ a).bind λa'=>(cE n g Γ l).bind λl'=>y'<|.sliL a' l'
   |.Slice B' (y' h) B' _=>(cE n g Γ a).bind λa'=>(cE n g Γ h).bind λh'=>y'<|.sliH a' h'
   |b=>(cE n g Γ a).bind λa'=>(cE n g Γ b).bind λb'=>y'<|.idx a' b'
def SY(cE:Nat->G->Gm->Expr->Option C)(n:Nat)(g:G)(Γ:Gm)(o:Expr)(m:Str)(ap:Pos)(as:List Expr)(pos:Pos):Option C:=match as with
   |[]=>if m==("pop":Str)&&ap.endLine==pos.line then(Ja o).bind λx=>(match slot Γ x.1 with
    |some i=>if Γ.δ==y' i then y' .popD else B'
    |none=>B') else B'
   |_=>B'
def SZ(cE:Nat->G->Gm->Expr->Option C)(oU:Nat->G->Gm->Str->Expr->List Expr->Option C)(n:Nat)(g:G)(Γ:Gm)(f:Expr)(as:List Expr)(ks:List Keyword)(pos:Pos):Option C:=match ks with
   |[]=>(match Gc f with
    |.nm f _=>(match as with
     |a::as=>oU n g Γ f a as
     |[]=>B')
    |.at o m ap=>SY cE n g Γ o m ap as pos
    |_=>B')
   |_=>B'
def Pf(cE:Nat->G->Gm->Expr->Option C)(cI:Nat->G->Gm->Expr->Expr->Option nZ)(zq:Nat->G->Gm->List Expr->Option Cs)(n:Nat)(g:G)(Γ:Gm)(elt:Expr)(gens:List Comprehension)(sc:Scope):Option C:=
   let b:=bo Γ sc
   if sc.kind== .function then(match gens with
   |[#[tg,it,ifs,0]]=>(cI n g Γ tg it).bind λlj=>(rQ b.1 tg).bind λnT=>(zq n g b.1 ifs).bind λrf=>(cE n g b.1 elt).bind λe'=>
    if An sc.names Γ.names b.1.N Γ.N b.2&&decide b.1.N.Nodup then y' (.comp b.2 lj nT rf e') else B'
   |[#[tg,it,ifs,0],#[jO,ib,cZ,0]]=>(cI n g Γ tg it).bind λlj=>(rQ b.1 tg).bind λnT=>(zq n g b.1 ifs).bind λrf=>(cI n g b.1 jO ib).bind λsN=>(rQ b.1 jO).bind λnU=>(zq n g b.1 cZ).bind λtY=>(cE n g b.1 elt).bind λe'=>
    if An sc.names Γ.names b.1.N Γ.N b.2&&decide b.1.N.Nodup&&(a9 nU).all (λi=> !(a9 nT).contains i) then y' (.gD b.2 lj nT rf sN nU tY e') else B'
   |_=>B') else B'
def Ln(c:Nat->G->Gm->List Expr->Option Cs)(n:Nat)(g:G)(b:Gm)(k l:Nat)(a:Expr)(v:List Expr):Option C:=(Ja a).bind λx=>(slot b x.1).bind λi=>if b.δ==y' i&&v.length+1==l then(c n g b v).bind λes=>if rD es==0 then y' (.callD k es) else B' else B'
def Lo(cE:Nat->G->Gm->Expr->Option C)(n:Nat)(g:G)(Γ:Gm)(a:Expr)(as:List Expr):Option C:=(match as with
     |[e]=>(Ja e).bind λt=>if yo (Γ.names.lookup t.1)&&g.bls.contains t.1 then(vJ t.1).bind λT=>(cE n g Γ a).bind λa'=>y' (.bi (.isi T)<|.cons a' .nil) else B'
     |_=>B')
def rO(c:Nat->G->Gm->List Expr->Option Cs)(n:Nat)(g:G)(b:Gm)(f:Str)(a:Expr)(v:List Expr):Option C:=(Dr f<|v.length+1).bind λi=>(c n g b (a::v)).bind λes=>y'<|.bi i es
def Lp(cE:Nat->G->Gm->Expr->Option C)(n9:Nat->G->Gm->List Expr->Option Cs)(n:Nat)(g:G)(Γ:Gm)(f:Str)(a:Expr)(as:List Expr):Option C:=match as with
   |[]=>(match Ph a with
    |some (h,xs,ip)=>(match Gc h with
     |.nm r _=>(match xs with
      |[b]=>if r==("reversed":Str) then B'
       else if r==("set":Str) then B'
       else rO n9 n g Γ f a []
      |[b,c]=>if r==("zip":Str) then B'
       else rO n9 n g Γ f a []
      |_=>rO n9 n g Γ f a [])
     |.at _ _ _=>rO n9 n g Γ f a []
     |_=>rO n9 n g Γ f a [])
    |none=>rO n9 n g Γ f a [])
   |_=>rO n9 n g Γ f a as
def Ls(cE:Nat->G->Gm->Expr->Option C)(n:Nat)(g:G)(Γ:Gm)(f:Str)(tg e:Expr)(as:List Expr):Option nZ:=match as with
   |[a]=>if f==("range":Str) then(if yo (Γ.names.lookup f)&&g.bls.contains f then(cE n g Γ a).bind λa'=>y' (.rng1 a') else B')
    else(cE n g Γ e).bind λc=>y'<|.seq c
   |[a,b]=>if f==("range":Str) then(if yo (Γ.names.lookup f)&&g.bls.contains f then B' else B')
    else if f==("zip":Str) then(if Iu tg&&yo (Γ.names.lookup f)&&g.bls.contains f then(cE n g Γ a).bind λa'=>(cE n g Γ b).bind λb'=>y' (.zip a' b') else B')
    else(cE n g Γ e).bind λc=>y'<|.seq c
   |[a,b,d]=>if f==("range":Str) then(if yo (Γ.names.lookup f)&&g.bls.contains f then(cE n g Γ a).bind λa'=>(cE n g Γ b).bind λb'=>(cE n g Γ d).bind λd'=>y' (.rng3 a' b' d') else B')
    else(cE n g Γ e).bind λc=>y'<|.seq c
   |_=>(cE n g Γ e).bind λc=>y'<|.seq c
mutual
noncomputable def cE:Nat->G->Gm->Expr->Option C
 |0,_,_,_=>B'
 |n+1,g,Γ,e=>match e with
  |.Constant k _ _=>match k with
   |.int i=>y'<|.con<|.int i
   |.str x=>y'<|.con<|.str x
   |.bool x=>y'<|.con<|.bl x
   |.none=>y'<|.con .bj
   |_=>B'
  |.Name x _=>S4 g Γ x
  |.BinOp a o b _=>(cE n g Γ a).bind λa'=>(cE n g Γ b).bind λb'=>y'<|.bin o a' b'
  |.UnaryOp o a _=>(cE n g Γ a).bind λa'=>match o with
   |.USub=>y'<|.neg a'
   |.Not=>y'<|.nt a'
   |_=>B'
  |.BoolOp o vs _=>cB n g Γ o vs
  |.Compare a os bs _=>Lm (λ_=>cE n) n g Γ a os bs
  |.Subscript a b _=>Lu (λ_=>cE n) n g Γ a b
  |.Tuple es _ _=>(n9 n g Γ es).bind λiO=>y'<|.tup iO
  |.List es _=>(n9 n g Γ es).bind λiO=>y'<|.lst iO
  |.Call f as ks pos=>SZ (λ_=>cE n) (λ_=>oU n) n g Γ f as ks pos
  |.ListComp elt gens sc _=>Pf (λ_=>cE n) (λ_=>cI n) (λ_=>zq n) n g Γ elt gens sc
  |_=>B'
noncomputable def n9:Nat->G->Gm->List Expr->Option Cs
 |0,_,_,_=>B'
 |n+1,g,Γ,es=>match es with
  |[]=>y' .nil
  |e::es=>(cE n g Γ e).bind λe'=>(n9 n g Γ es).bind λiO=>y'<|.cons e' iO
noncomputable def zq:Nat->G->Gm->List Expr->Option Cs
 |0,_,_,_=>B'
 |n+1,g,Γ,es=>match es with
  |[]=>y' .nil
  |[e]=>(cE n g Γ e).bind λe'=>y'<|.cons e' .nil
  |_=>B'
noncomputable def cB:Nat->G->Gm->BoolOp->List Expr->Option C
 |0,_,_,_,_=>B'
 |n+1,g,Γ,o,es=>match es with
  |[e]=>cE n g Γ e
  |e::es=>(cE n g Γ e).bind λe'=>(cB n g Γ o es).bind λiO=>y' (match o with|.And=>.and e' iO|.Or=>.or e' iO)
  |[]=>B'
noncomputable def cI:Nat->G->Gm->Expr->Expr->Option nZ
 |0,_,_,_,_=>B'
 |n+1,g,Γ,tg,e=>match Ph e with
  |some (h,as,_)=>(match Ja h with
   |some f=>Ls (λ_=>cE n) n g Γ f.1 tg e as
   |none=>(cE n g Γ e).bind λc=>y'<|.seq c)
  |none=>(cE n g Γ e).bind λc=>y'<|.seq c
noncomputable def oU:Nat->G->Gm->Str->Expr->List Expr->Option C
 |0,_,_,_,_,_=>B'
 |n+1,g,Γ,f,a,as=>if yo (Γ.names.lookup f)&&df f then(match sg f g.fns with
  |some (k,np,fJ,bw)=>if bw then Ln (λ_=>n9 n) n g Γ k np a as
   else if as.length+1<=np&&np-(as.length+1)<=fJ.length then(n9 n g Γ (a::as)).bind λes=>y' (.call k es<|fJ.drop<|fJ.length-(np-(as.length+1))) else B'
  |none=>if g.bls.contains f then
    (if f==("len":Str)&&Ir Γ a&&as.isEmpty then y' .lenD
    else if f==("isinstance":Str) then Lo (λ_=>cE n) n g Γ a as
    else Lp (λ_=>cE n) (λ_=>n9 n) n g Γ f a as)
    else B')
  else B'
end
section
variable{P:Program}{w:World}{K:Frag}{A B:Addr->Prop}{H:Hp}{s:Shared}
theorem elts(hok:eS P w H s.heap){R:Around}(I:ar K A H vP i1)(W:ar K B H vQ i2)(r1:aw vP j3)(b:aw vQ c8)(M:j3.toArray.size=i1.length)(m:c8.toArray.size=i2.length)
  (o:kh i1=G') (a:kh i2=G') (hd:mz i1<=n) (J:R.in1.units+n<cLine) (j) (Z:j<j3.toArray.size) (Y:j<c8.toArray.size):EqAt R.in1 s j3.toArray[j] c8.toArray[j] (NA i1 i2 j):=AJ (Ga hok n) I W r1 b M m o a hd J j Z Y
theorem NJ(hok:eS P w H s.heap)(n)(d e)(x y)(u v)(R)(hd:dp d<=n+1)(Q:pl d=G')(Y:pl e=G')(J:R.units+n+1<cLine)(U:RV K A H x d)(F:RV K B H y e)(S:RelV x u)(c:RelV y v):RcAt R s u v (b8 d e):=by
 have k2:=kd hok Y F c;cases kd hok Q U S with
 |n=>cases k2 with
  |n=>exact RcAt.none_none
  |b b2=>exact RcAt.none_bool b2
  |i i2 k=>exact RcAt.none_int i2 k
  |s X k=>exact RcAt.none_str X k
  |t _ h=>exact RcAt.none_tuple h ⋯
  |l _ h=>exact RcAt.none_list h ⋯
 |b b1=>cases k2 with
  |n=>exact RcAt.bool_none b1
  |b b2=>exact RcAt.bool_bool b1 b2
  |i i2 k=>exact RcAt.bool_int b1 i2 k
  |s X k=>exact RcAt.bool_str b1 X k
  |t _ h=>exact RcAt.bool_tuple b1 h ⋯
  |l _ h=>exact RcAt.bool_list b1 h ⋯
 |i i1 t1=>cases k2 with
  |n=>exact RcAt.int_none i1 t1
  |b b2=>exact RcAt.int_bool i1 t1 b2
  |i i2 k=>exact RcAt.int_int i1 t1 i2 k
  |s X k=>exact RcAt.int_str i1 t1 X k
  |t _ h=>exact RcAt.int_tuple i1 t1 h ⋯
  |l _ h=>exact RcAt.int_list i1 t1 h ⋯
 |s O t1=>cases k2 with
  |n=>exact RcAt.str_none O t1
  |b b2=>exact RcAt.str_bool O t1 b2
  |i i2 k=>exact RcAt.str_int O t1 i2 k
  |s X k=>exact RcAt.str_str O t1 X k
  |t _ h=>exact RcAt.str_tuple O t1 h ⋯
  |l _ h=>exact RcAt.str_list O t1 h ⋯
 |t M a o1=>
  rename_i i1;obtain⟨p,I,r1⟩:=o1;cases k2 with
  |n=>exact RcAt.tuple_none a ⋯
  |b b2=>exact RcAt.tuple_bool b2 a ⋯
  |i i2 k=>exact RcAt.tuple_int i2 k a ⋯
  |s X k=>exact RcAt.tuple_str X k a ⋯
  |l _ h=>exact RcAt.tuple_list a h ⋯
  |t m o o2=>rename_i i2;obtain⟨j,g2,r2⟩:=o2;have key:=RcAt.tuples (A:=R) a o ⋯ (elts hok I g2 r1 r2 M m (by simpa [pl]using Q) (by simpa [pl]using Y) (n:=n) (by unfold dp at hd;lia)<|by show R.units+1+n<cLine;lia);have q:=cY i1 i2;rw[<-M,<-m]at q;rw[q]at key;exact key
 |l M a o1=>
  rename_i i1;obtain⟨p,I,r1⟩:=o1;cases k2 with
  |n=>exact RcAt.list_none a ⋯
  |b b2=>exact RcAt.list_bool b2 a ⋯
  |i i2 k=>exact RcAt.list_int i2 k a ⋯
  |s X k=>exact RcAt.list_str X k a ⋯
  |t _ h=>exact RcAt.list_tuple a h ⋯
  |l m o o2=>
   rename_i i2;obtain⟨j,g2,r2⟩:=o2;have q:=cY i1 i2;by_cases W:i1.length=i2.length
   ·have key:=RcAt.lists (A:=R) a o ⋯ ⋯ (elts hok I g2 r1 r2 M m (by simpa [pl]using Q) (by simpa [pl]using Y) (n:=n) (by unfold dp at hd;lia)<|by show R.units+1+n<cLine;lia);rw[W,Nat.min_self,Z9,X4]at q;rw[M,W,q]at key;exact key
   ·have key:=RcAt.lists_lengths (A:=R) a o (by rw[M,m];simpa using W) ⋯;have L:(i1.length==i2.length)=J':=by simpa using W
    rw[L,X3]at q;show RcAt R s _ _ (cQ i1 i2);rw[<-q];exact key
theorem Fc(hok:eS P w H s.heap)(n)(d e)(x y)(u v)(R)(hd:dp d<=n+1)(Q:pl d=G')(Y:pl e=G')(J:R.units+n+1<cLine)(U:RV K A H x d)(F:RV K B H y e)(S:RelV x u)(c:RelV y v):RcNeAt R s u v (!b8 d e):=by
 have k2:=kd hok Y F c;cases kd hok Q U S with
 |n=>cases k2 with
  |n=>exact RcNeAt.none_none
  |b b2=>exact RcNeAt.none_bool b2
  |i i2 k=>exact RcNeAt.none_int i2 k
  |s X k=>exact RcNeAt.none_str X k
  |t _ h=>exact RcNeAt.none_tuple h ⋯
  |l _ h=>exact RcNeAt.none_list h ⋯
 |b b1=>cases k2 with
  |n=>exact RcNeAt.bool_none b1
  |b b2=>exact RcNeAt.bool_bool b1 b2
  |i i2 k=>exact RcNeAt.bool_int b1 i2 k
  |s X k=>exact RcNeAt.bool_str b1 X k
  |t _ h=>exact RcNeAt.bool_tuple b1 h ⋯
  |l _ h=>exact RcNeAt.bool_list b1 h ⋯
 |i i1 t1=>cases k2 with
  |n=>exact RcNeAt.int_none i1 t1
  |b b2=>exact RcNeAt.int_bool i1 t1 b2
  |i i2 k=>exact RcNeAt.int_int i1 t1 i2 k
  |s X k=>exact RcNeAt.int_str i1 t1 X k
  |t _ h=>exact RcNeAt.int_tuple i1 t1 h ⋯
  |l _ h=>exact RcNeAt.int_list i1 t1 h ⋯
 |s O t1=>cases k2 with
  |n=>exact RcNeAt.str_none O t1
  |b b2=>exact RcNeAt.str_bool O t1 b2
  |i i2 k=>exact RcNeAt.str_int O t1 i2 k
  |s X k=>exact RcNeAt.str_str O t1 X k
  |t _ h=>exact RcNeAt.str_tuple O t1 h ⋯
  |l _ h=>exact RcNeAt.str_list O t1 h ⋯
 |t M a o1=>
  rename_i i1;obtain⟨p,I,r1⟩:=o1;cases k2 with
  |n=>exact RcNeAt.tuple_none a ⋯
  |b b2=>exact RcNeAt.tuple_bool b2 a ⋯
  |i i2 k=>exact RcNeAt.tuple_int i2 k a ⋯
  |s X k=>exact RcNeAt.tuple_str X k a ⋯
  |l _ h=>exact RcNeAt.tuple_list a h ⋯
  |t m o o2=>rename_i i2;obtain⟨j,g2,r2⟩:=o2;have key:=RcNeAt.tuples (A:=R) a o ⋯ (elts hok I g2 r1 r2 M m (by simpa [pl]using Q) (by simpa [pl]using Y) (n:=n) (by unfold dp at hd;lia)<|by show R.units+1+n<cLine;lia);have q:=cY i1 i2;rw[<-M,<-m]at q;rw[q]at key;exact key
 |l M a o1=>
  rename_i i1;obtain⟨p,I,r1⟩:=o1;cases k2 with
  |n=>exact RcNeAt.list_none a ⋯
  |b b2=>exact RcNeAt.list_bool b2 a ⋯
  |i i2 k=>exact RcNeAt.list_int i2 k a ⋯
  |s X k=>exact RcNeAt.list_str X k a ⋯
  |t _ h=>exact RcNeAt.list_tuple a h ⋯
  |l m o o2=>
   rename_i i2;obtain⟨j,g2,r2⟩:=o2;have q:=cY i1 i2;by_cases W:i1.length=i2.length
   ·have key:=RcNeAt.lists (A:=R) a o ⋯ ⋯ (elts hok I g2 r1 r2 M m (by simpa [pl]using Q) (by simpa [pl]using Y) (n:=n) (by unfold dp at hd;lia)<|by show R.units+1+n<cLine;lia);rw[W,Nat.min_self,Z9,X4]at q;rw[M,W,q]at key;exact key
   ·have key:=RcNeAt.lists_lengths (A:=R) a o (by rw[M,m];simpa using W) ⋯;have L:(i1.length==i2.length)=J':=by simpa using W
    rw[L,X3]at q;show RcNeAt R s _ _ (!cQ i1 i2);rw[<-q];exact key
end
end Rx
end
section
namespace Mx
open PySem PySem.Spec PyProof.Rows L2 PySem.SeqAt
theorem sZ:fillsNumberSlot (.type "tuple") "mul"=pure J':=
 PySem.fillsNumberSlot_seq Z4.lookup rfl PySem.F.slot_tuple_rmul.lookup rfl
theorem yZ:seqRepeat? (.type "tuple")=pure (y'<|.builtin "tuple.__mul__"):=by unfold seqRepeat?;rw[PySem.seqSlot_of (name:="__mul__") Z4.lookup rfl,PySem.seqSlot_of (name:="__rmul__") PySem.F.slot_tuple_rmul.lookup rfl];rfl
theorem Cf(a)(t)(l)(E)(n):
  Meets (Builtin.«int.__rmul__» #[[.int a t,.ref l],[]]) (λ_ R s=>s.heap.get? l=y' {cls:=.type "tuple",dict:=B',data:=.seq E n,slots:=#[]}/\R (.ok<|.ret Value.notImplemented) s):=
 .of_wp λprog w A R s h=>by obtain⟨B,g,d,tk,os⟩:=s;obtain⟨W,h⟩:=h;wp_walk;exact#[_,rfl,h]
theorem Fx(l)(E)(n)(k)(u)(Z: -(2^63)<=k)(Y:k<2^63)(hz:E.length*k.toNat<=sizeLine):
  Meets (Builtin.«tuple.__mul__» #[[.ref l,.int k u],[]]) (λ_ R s=>s.heap.get? l=y' {cls:=.type "tuple",dict:=B',data:=.seq E.toArray n,slots:=#[]}/\
   ((E=[]\/k=1)->R (.ok<|.ret<|.ref l) s)/\(¬(E=[]\/k=1)->R (.ok<|.ret<|Value.ref s.heap.objs.size) {s with heap:=s.heap.push {cls:=.type "tuple",data:=.seq (List.replicate k.toNat E).flatten.toArray}})):=
 .of_wp λprog w A R s h=>by
  obtain⟨B,g,d,tk,os⟩:=s;obtain⟨W,S,q2⟩:=h;have hT:(#[B,g,d,tk,os]:Shared).TypeIs (.ref l) "tuple":=#[_,W,rfl]
  wp_walk
  rw[aae (by simp only[XN,aac];lia)];refine WZ<|tupleItemsOf_ #[_,W,rfl,n,rfl] ?_;have e1:(E.toArray.isEmpty||k==1)=decide (E=[]\/k=1):=by
   cases E with
   |nil=>simp
   |cons a r=>rw[X5];simp
  rw[e1];by_cases J:E=[]\/k=1
  ·rw[Xx J,aaf rfl];refine WZ<|WZ<|aaF hT<|W2 ?_;rw[aaf (by rfl)];exact WZ<|aaB<|W2 #[_,rfl,S J]
  ·rw[Xt J,aae (by simp)];have o:E≠[]:=λz=>J (.inl z)
   have K:E.toArray.isEmpty=J':=by cases E with|nil=>exact absurd rfl o|cons a r=>rfl
   rw[K,Bool.or_false];by_cases P:k<=0
   ·rw[Xx P,aaf rfl];have k0:k.toNat=0:=⋯
    rw[k0]at q2;exact WZ<|aaw<|W2 #[_,rfl,q2 J]
   ·rw[Xt P,aae (by simp)];have c:(E.toArray.size:Int)*k=((E.length*k.toNat:Nat):Int):=by rw[W4,Yr,Int.toNat_of_nonneg ⋯]
    have Bm:=aap;rw[aae ⋯];rw[aae (by rw[c];intro z;have:=W5 z;lia)];have b:List.foldl (λx1 U=>x1++U) #[] (List.replicate k.toNat E.toArray)=(List.replicate k.toNat E).flatten.toArray:=by have:=foldl_rep E k.toNat [];exact this
    rw[b];refine WZ<|aaw (W2 #[_,rfl,q2 J]) ?_;show (List.replicate k.toNat E).flatten.toArray.size<=sizeLine;rw[W4,len_rep,Nat.mul_comm];exact hz
section
variable{X:Cx}
def NI:R2:=λx y H Q=>∃l k xs,x= .ref l/\y= .int k/\H l=y' (.tup xs)/\ -(2^63)<=k/\k<2^63/\xs.length*k.toNat<=sizeLine/\
 ((xs=[]\/k=1)->Q (.ref l) H)/\∀p,H p=B'->Q (.ref p) (upd H p<|.tup (List.replicate k.toNat xs).flatten)
theorem EB:kB X (binaryOp .Mult) NI:=by
 intro M s O H x y v u Q I rx ry h;obtain⟨l,k,xs,rfl,rfl,i,Z,Y,g,q1,A⟩:=h;cases rx;obtain⟨t,rfl⟩:=ry;obtain⟨z,E,r,⟨c,dd,j,sl⟩,e,w1,n,w2,B,a⟩:=(I.hok l _ i);subst w1 w2 B a;have W:=r.length;refine wpAny_binaryOp_repeat_ref (by decide) #[_,e,rfl] (λS=>typeIs_int S k t) sZ F.fills_int_mul F.slot_int_rmul yZ F.slot_int_index.lookup
  (aaa F.slot_int_rmul (typeIs_int s k t) F.entry_int_rmul (F.args_int_rmul_2 _ _) (Cf k t l E.toArray n)
   #[e,rfl,#[_,e,rfl],aaa Z4 #[_,e,rfl] PySem.F.entry_tuple_mul (PySem.F.args_tuple_mul_2 _ _) (Fx l E n k t Z Y<|by rw[<-W];exact g) #[e,λJ=>?_,λJ=>?_]])
 ·refine#[.ref l,H,I,rfl,q1<|J.imp (λz=>?_) id];subst z;cases r;rfl
 ·exact#[.ref s.heap.objs.size,_,I.laid (o:=.tup (List.replicate k.toNat xs).flatten) (λb o q=>W1 _ q) (W9 _) #[by rw[len_rep,Nat.mul_comm];exact g,_,r.rep k.toNat,oq.new _ _],rfl,A _<|I.hok.fresh<|W9 _]
theorem pY:cc X (.builtin "divmod") (λxs H Q=>∃i j,xs=[.int i,.int j]/\j≠0/\j.natAbs.log2<9000/\∀p,H p=B'->Q (.ref p) (upd H p<|.tup [.int (i.fdiv j),.int (i.fmod j)])):=by intro M s O H xs c Q I r h;obtain⟨i,j,rfl,Z,Y,q⟩:=h;obtain⟨u,n,rfl,⟨t,rfl⟩,⟨t',rfl⟩⟩:=r.two;refine divmod_int Z ?_<|.inl<|PyProof.noPylong_of_log2 Y;refine#[.ref s.heap.objs.size,_,?_,rfl,q _<|I.hok.fresh<|W9 _];exact I.laid (λb o e=>W1 _ e) (W9 _) #[by simp only[Xm];rw[aap];decide,[.int (i.fdiv j) s.toks,.int (i.fmod j) (s.toks+1)],.cons #[_,rfl]<|.cons #[_,rfl] .nil,oq.new _ _]
theorem yb(J:X.calm=G'):cc X (.builtin "sum") (λxs H Q=>∃(l:Addr)(ns:List Int),xs=[.ref l]/\H l=y' (.tup<|ns.map V.int)/\Q (.int ns.sum) H):=by
 intro M s O H xs c Q I r h;obtain⟨l,ns,rfl,K,q⟩:=h;obtain⟨u,rfl,w⟩:=r.one;cases w;obtain⟨_,E,rv,F⟩:=(I.hok l _ K);have W:E.length=ns.length:=by rw[<-rv.length];simp
 have ht:=F.is;have t:=F.is.lt;refine call_sum_walkG<|aaA ht ?_;refine#[s.heap.objs.size,_,_,_,_,_,λi=>ns.getD i 0,rfl,Walks.tuple (A:=X.A.in1) (I.ok.hd J) s.heap.objs.size l (Xz t) E.toArray,#[#[_,Xb _ rfl,rfl,rfl],ht.push _],λb L=>?_,λi v hv=>?_,λy tk t' P=>?_]
 ·rcases Xg.mp L with rfl|L
  ·exact Xe<|Xb _ rfl
  ·obtain rfl:=XC.mp L;exact Nat.lt_trans t<|Xe<|Xb _ rfl
 ·have k:=hv;exact int_at rv (by simpa using k)
 ·refine#[.int _,H,I.kept λb o e=>P b o (λz=>ZM _<|(XC.mp z)▸Xe e)<|W1 _ e,#[t',rfl],?_];rw[show E.toArray.size=ns.length by simp[W],qH,Zz];exact q
theorem ya(hc:X.calm=G'):cc X (.builtin "min") (λxs H Q=>∃(l:Addr)(ns:List Int),xs=[.ref l]/\H l=y' (.tup (ns.map V.int))/\ns≠[]/\∀m,m∈ns->(∀a∈ns,m<=a)->Q (.int m) H):=by
 intro K' s σ H xs us Q I r h;obtain⟨l,ns,rfl,hq,cH,q⟩:=h;obtain⟨u,rfl,ru⟩:=r.one;cases ru;obtain⟨_,ak,rv,tn⟩:=(I.hok l _ hq);have hl:ak.length=ns.length:=by rw[<-rv.length];simp
 have hp:=List.length_pos_iff.mpr cH;have ht:=tn.is;have cO:=tn.is.lt;refine call_min_walk (aaA ht ?_);refine#[s.heap.objs.size,_,_,_,_,_,_,rfl,Walks.tuple (A:=X.A.in1) (I.ok.hd hc) s.heap.objs.size l (Xz cO) ak.toArray,#[#[_,Xb _ rfl,rfl,rfl],ht.push _],λb hb=>?_,by simp[hl,hp],CmpOf.ints_lt (λi=>ns.getD i 0) λi v hv=>?_,λv h' tk hv hk=>?_]
 ·rcases Xg.mp hb with rfl|hb
  ·exact Xe (Xb _ rfl)
  ·obtain rfl:=XC.mp hb;exact Nat.lt_trans cO (Xe (Xb _ rfl))
 ·have yC:=hv;exact int_at rv (by simpa using yC)
 ·have hs:ak.toArray.size=ns.length:=by simp[hl]
  rw[hs]at hv;obtain⟨h1,h2⟩:=argBest_lt (λi=>ns.getD i 0) (ns.length-1);generalize argBest (λi j=>decide (ns.getD i 0<ns.getD j 0)) (ns.length-1)=g at *;have yC:=hv;obtain⟨t,rfl⟩:=int_at rv (show ak[g]?=y' v by simpa using yC);refine#[.int _,H,I.kept λb o e=>hk b o (λz=>ZM _ ((XC.mp z)▸Xe e)) (W1 _ e),#[t,rfl],q _ ?_ λa ha=>?_]
  ·rw[YU,Xs ⋯];exact YY _
  ·obtain⟨j,hj,rfl⟩:=YZ ha;have:=h2 j ⋯;rwa [show ns.getD j 0=ns[j] by simp[hj]]at this
end
end Mx
end
section
namespace Mx
open PySem PySem.Spec PySem.W PyProof.Rows L2
section
variable{X:Cx}
end
end Mx
end
section
namespace HT
open PySem PyProof.Rows
section
variable{prog:Program}{w:World}{A:Around}{E:Value->Shared->Prop}{s:Shared}
theorem iH{lo hi:Option Int}(J:IsTup s.heap t items)(l:s.heap.IsSliceOf sl vl vu .none)(pl:IsPart vl lo)(c:IsPart vu hi)
  (B:cw items.size 0 lo=0/\cw items.size items.size hi=items.size) (h:Q (.ref t) s) (u:items.size<=sizeLine):wpAny (model prog w) A (getItem (.ref t)<|.ref sl) Q E s:=by
 obtain⟨os,a,S,g⟩:=id l;have b:s.TypeIs (.ref sl) "slice":=#[os,a,S];unfold getItem
 try with_reducible refine aau ?_
 first|refine WZ (W2 ?_)|skip
 refine WZ<|wpAny_sequenceKey J.typeIs (by decide) ?_;refine WZ (aar J.typeIs Z0
  (aas Z0 J.typeIs entry_tuple_getitem ?_<|args_tuple_getitem _ _))
 show wpAny _ _ (Builtin.Tuple.tupleItemsOf (.ref t) >>=_) _ _ s;refine WZ<|tupleItemsOf_ J ?_;refine WZ<|aaF b ?_;rw[aaf (by decide)];refine WZ<|fw l pl c ?_;show wpAny _ _ (if (((cw items.size 0 lo:Nat):Int)==0&&(1:Int)==1&&(cw items.size items.size hi-cw items.size 0 lo)==items.size)=G' then _ else _) _ _ s;rw[aaf (by rw[B.1,B.2];simp)];refine WZ<|WZ<|aaF J.typeIs<|W2 ?_;rw[aaf (by decide)];refine WZ<|aaB ?_;exact W2 #[_,rfl,W2 h]
end
end HT
namespace Rx
open PySem PySem.W PySem.Spec PyProof.Rows L2 PySem.SeqAt
abbrev N0:Addr->Prop:=λ_=>False
def fY(K:Frag)(A:Addr->Prop)(H:Hp)(v:V):Dt->Prop
 |.lst ds=>∃a xs,v= .ref a/\H a=y' (.lst xs)/\ar K A H xs ds
 |d=>RV K A H v d
def pR(K:Frag)(A:Addr->Prop)(H:Hp):List V->List Dt->Prop
 |[],[]=>True
 |x::xs,d::ds=>fY K A H x d/\pR K A H xs ds
 |_,_=>False
section
variable{K:Frag}{A:Addr->Prop}{H H':Hp}
theorem RV.one{v d}(h:RV K A H v d):fY K A H v d:=by
 cases d with
 |lst ds=>obtain⟨a,xs,Z,Y,_,u⟩:=h.lst_inv;exact#[a,xs,Z,Y,u]
 |_=>exact h
theorem fY.ext{v d}(h:fY K A H v d)(e:bc X H H')(r:∀b,X b->A b)(M:∀ds a,d= .lst ds->v= .ref a->¬X a):fY K A H' v d:=by
 cases d with
 |lst ds=>obtain⟨a,xs,Z,Y,u⟩:=h;exact#[a,xs,Z,e.kp _ _ Y<|M ds a rfl Z,u.mono e r λ_ z=>z]
 |_=>exact RV.mono e r (λ_ z=>z) h
theorem ar.ones:∀{vs ds},ar K A H vs ds->pR K A H vs ds
 |[],[],_=>trivial
 |[],_::_,h=>by unfold ar at h;exact h.elim
 |_::_,[],h=>by unfold ar at h;exact h.elim
 |_::_,_::_,h=>by unfold ar at h;exact#[h.1.one,h.2.ones]
end
structure PR(K:Frag)(fr:Bool)(xs:List V)(ds:List Dt)(H:Hp)(d:Dt)(v:V)(H':Hp):Prop where
 same:bT H H'
 val:∀A:Addr->Prop,(∀a,A a->∃o,H a=y' o)->pR K A H xs ds->RV K A H' v d
 fE:fr=G'->∀es,d= .lst es->∃a ys,v= .ref a/\H a=B'/\H' a=y' (.lst ys)/\∀A:Addr->Prop,(∀a,A a->∃o,H a=y' o)->pR K A H xs ds->ar K (λb=>A b\/b=a) H' ys es
def rP(K:Frag)(fr:Bool)(f:List Dt->R Dt):List V->Hp->VK->Prop:=λxs H Q=>∃ds d,ar K N0 H xs ds/\f ds= .ok d/\∀v j,PR K fr xs ds H d v j->Q v j
section
variable{K:Frag}{fr:Bool}{xs:List V}{ds:List Dt}{H:Hp}{d:Dt}
def rE:Dt->Bool
 |.bj|.bl _|.int _|.str _=>G'
 |_=>J'
def qR:Dt->V
 |.bl b=>.bl b
 |.int b=>.int b
 |.str b=>.str b
 |_=>.bj
theorem tP(h:rE d=G'):RV K A H (qR d) d:=by
 cases d with
 |bj=>exact RV.qA
 |bl b=>exact RV.wW
 |int b=>exact RV.eh
 |str b=>exact RV.qB
 |_=>simp[rE]at h
theorem PR.sc(h:rE d=G'):PR K fr xs ds H d (qR d) H:=#[bT.refl _,λA _ _=>tP h,λ_ es e=>by subst e;simp[rE]at h]
theorem PR.sY(B:H p=B')(h:∀A:Addr->Prop,pR K A H xs ds->ar K A H ys es):PR K fr xs ds H (.lst es) (.ref p) (upd H p<|.lst ys):=by
 have s:=Mx.dB B<|.lst ys;refine#[s,λA X q=>RV.fR aQ (λz=>?_)<|(h A q).same s,λ_ k e=>?_]
 ·obtain⟨o,e⟩:=X p z;rw[B]at e;cases e
 ·cases e;exact#[p,ys,rfl,B,aQ,λA X q=>((h A q).avoid B).same s]
theorem PR.BA(B:H p=B')(h:∀A:Addr->Prop,pR K A H xs ds->ar K A H ys es):PR K fr xs ds H (.tup es) (.ref p) (upd H p<|.tup ys):=by have s:=Mx.dB B<|.tup ys;exact#[s,λA X q=>RV.iU aQ<|(h A q).same s,λ_ k e=>by cases e]
theorem PR.sT(B:H p=y' (.tup ys))(h:∀A:Addr->Prop,pR K A H xs ds->ar K A H ys es):PR K fr xs ds H (.tup es) (.ref p) H:=
 #[bT.refl _,λA X q=>RV.iU B<|h A q,λ_ k e=>by cases e]
theorem gL:lim<=sizeLine:=by rw[aap];decide
theorem aP(h:aa b r= .ok a):b=G'/\r= .ok a:=by
 cases b with
 |true=>exact#[rfl,h]
 |false=>cases h
theorem fY.dc(h:fY K A H (.ref a) (.lst es))(e:H a=y' (.lst xs)):ar K A H xs es:=by obtain⟨b,k,q,Z,Y⟩:=h;cases q;rw[e]at Z;cases Z;exact Y
theorem fY.a8(h:fY K A H (.ref a) (.tup es))(e:H a=y' (.tup xs)):ar K A H xs es:=by obtain⟨b,k,q,Z,Y⟩:=RV.au h;cases q;rw[e]at Z;cases Z;exact Y
end
section
variable{X:Cx}
def r2(K:Frag)(f:Dt->Dt->R Dt):R2:=λx y H Q=>∃d e z,RV K N0 H x d/\RV K N0 H y e/\f d e= .ok z/\∀v j,PR K G' [x,y] [d,e] H z v j->Q v j
theorem pk(h:i.natAbs<2^64): -(2^64)<i/\i<2^64:=by omega
theorem Ji:kB X (binaryOp .FloorDiv) (rI (λ_ j=>j≠0/\j.natAbs.log2<9000) λi j=>.int<|i.fdiv j):=PK λi j _ _ _ _ _ J q=>floordiv_int J.1 q<|.inl<|PyProof.noPylong_of_log2 J.2
theorem Jh(o):kB X (binaryOp o) (r2 X.K<|kI o):=by
 intro M s O H x y v u Q I S c h;obtain⟨d,e,z,U,F,K,q⟩:=h;have t:=gL;unfold kI at K;split at K
 ·split at K
  ·rename_i i j;cases K;exact Jg M s O H x y v u Q I S c #[i,j,U.int_inv,F.int_inv,q _ _<|PR.sc rfl]
  ·rename_i i j;obtain⟨g,K⟩:=aP K;cases K;obtain⟨a,xs,rfl,Z,_,Y⟩:=U.lst_inv;obtain⟨b,k,rfl,k1,_,k2⟩:=F.lst_inv;refine BH M s O H _ _ v u Q I S c #[a,b,xs,k,rfl,rfl,Z,k1,?_,λp B=>q _ _<|PR.sY B λA w=>?_]
   ·rw[Y.length,k2.length];exact Xf (W5 g) t
   ·exact(fY.dc w.1 Z).append<|fY.dc w.2.1 k1
  ·rename_i i j;obtain⟨g,K⟩:=aP K;cases K;obtain⟨a,xs,rfl,Z,Y⟩:=U.au;obtain⟨b,k,rfl,k1,k2⟩:=F.au;by_cases hd:xs=[]
   ·subst hd;cases Y.dz;cases S;cases c;obtain⟨E,r1,p1,_⟩:=I.tuple<|fD.of Z;obtain⟨c8,r2,p2,_⟩:=I.tuple<|fD.of k1;cases r1;obtain⟨⟨cls,dd,data,sl⟩,ho,J,n,L⟩:=p1;obtain⟨⟨Lv,C1,data2,m⟩,l,wz,P,r⟩:=p2;subst J L wz r;exact concat_meets #[_,ho,rfl] #[_,l,rfl] aal seq_tuple_add Z3 Z2 (Z1 _ _)
     (Mx.tuple_addW0 a b _ _ n P dd C1 sl m rfl) #[ho,l,#[.ref b,H,I,rfl,q _ _<|PR.sT k1 λA w=>fY.a8 w.2.1 k1]]
   ·refine jE M s O H (.ref a) (.ref b) v u Q I S c #[a,b,xs,k,rfl,rfl,fD.of Z,fD.of k1,hd,?_,λe=>?_,λe p B=>?_]
    ·rw[Y.length,k2.length];exact Xf (W5 g) t
    ·subst e;cases k2.dz;rw[XM]at q;exact q _ _<|PR.sT Z λA w=>fY.a8 w.1 Z
    ·exact q _ _<|PR.BA B λA w=>(fY.a8 w.1 Z).append<|fY.a8 w.2.1 k1
  ·cases K
 ·split at K
  ·rename_i i j;cases K;exact Jn M s O H x y v u Q I S c #[i,j,U.int_inv,F.int_inv,q _ _<|PR.sc rfl]
  ·cases K
 ·split at K
  ·rename_i i j;obtain⟨g,K⟩:=aP K;cases K;refine Jk M s O H x y v u Q I S c #[i,j,U.int_inv,F.int_inv,?_,q _ _<|PR.sc rfl];rw[XN]at g;rcases g with g|g
   ·exact .inl<|pk<|W5 g
   ·exact .inr<|pk<|W5 g
  ·rename_i i j;obtain⟨g,K⟩:=aP K;cases K;obtain⟨a,xs,rfl,Z,_,Y⟩:=U.lst_inv;rw[W3]at g;have g1:=W5 g.1;have W:=W5 g.2;have cN:lim=1000000:=rfl;refine Jm M s O H _ _ v u Q I S c #[a,j,xs,rfl,F.int_inv,Z,by omega,by omega,?_,λp B=>q _ _<|PR.sY B λA w=>?_]
   ·rw[Y.length];exact Xf W t
   ·exact(fY.dc w.1 Z).rep _
  ·rename_i i j;obtain⟨g,K⟩:=aP K;cases K;obtain⟨a,xs,rfl,Z,Y⟩:=U.au;rw[W3]at g;have g1:=W5 g.1;have W:=W5 g.2;have cN:lim=1000000:=rfl;refine Mx.EB M s O H _ _ v u Q I S c #[a,j,xs,rfl,F.int_inv,Z,by omega,by omega,?_,λJ=>?_,λp B=>q _ _<|PR.BA B λA w=>(fY.a8 w.1 Z).rep _]
   ·rw[Y.length];exact Xf W t
   ·refine q _ _<|PR.sT Z λA w=>?_;have:=fY.a8 w.1 Z;rcases J with rfl|rfl
    ·cases this.dz;have e:(List.replicate j.toNat ([]:List Dt)).flatten=[]:=by simp
     rw[e];exact ar.nil
    ·have e:(List.replicate (1:Int).toNat i).flatten=i:=by simp
     rw[e];exact this
  ·cases K
 ·split at K
  ·rename_i i j;obtain⟨g,K⟩:=aP K;cases K;rw[W3]at g;exact Ji M s O H x y v u Q I S c #[i,j,U.int_inv,F.int_inv,#[W5 g.1,W5 g.2],q _ _<|PR.sc rfl]
  ·cases K
 ·split at K
  ·rename_i i j;obtain⟨g,K⟩:=aP K;cases K;exact Ez M s O H x y v u Q I S c #[i,j,U.int_inv,F.int_inv,W5 g,q _ _<|PR.sc rfl]
  ·cases K
 ·split at K
  ·rename_i i j;obtain⟨g,K⟩:=aP K;cases K;rw[W3,W3]at g;have g1:=W5 g.1.1;have W:=W5 g.1.2;have g3:=W5 g.2;exact Jl M s O H x y v u Q I S c #[i,j,U.int_inv,F.int_inv,#[g1,by omega,g3],q _ _<|PR.sc rfl]
  ·cases K
 ·cases K
def rC(K:Frag)(o:CmpOp):R2:=λx y H Q=>∃d e z,RV K N0 H x d/\RV K N0 H y e/\ck o d e= .ok z/\Q (.bl z) H
theorem vT{O:L2.St}{K:Frag}(I:Inv X K' O H s)(J:X.A.units+150<cLine)(r:aw xs ak)(g:ar K N0 H xs ds)(S:RelV x u)(U:RV K N0 H x d)(o:pl d=G')(a:kh ds=G')(hd:mz ds<=100):
  ∃e:Value->Bool,(∀y,y∈ak.toArray->EqAt X.A.in1 s y u (e y))/\ak.toArray.any e=inD d ds:=by
 classical
 let e:Value->Bool:=λy=>decide (∃(j:Nat)(p:Dt),ak[j]?=y' y/\ds[j]?=y' p/\b8 p d=G')
 have key:∀(j:Nat)(y:Value)(p:Dt),ak[j]?=y' y->ds[j]?=y' p->e y=b8 p d:=λj y p Z Y=>by
  rw[X5];constructor
  ·intro h;obtain⟨M,c,k1,k2,k3⟩:=W5 h;have F:j<xs.length:=by rw[r.length];exact(W6.mp Z).1
   have l:M<xs.length:=by rw[r.length];exact(W6.mp k1).1
   obtain⟨u1,a1,a2⟩:=r.get (i:=j) (x:=xs[j]) (by simp[F]);obtain⟨u2,b1,b2⟩:=r.get (i:=M) (x:=xs[M]) (by simp[l]);rw[Z]at a1;cases a1;rw[k1]at b1;cases b1;have ex:=RelV.inj a2 b2;obtain⟨d1,v,c2⟩:=g.get (i:=j) (x:=xs[j]) (by simp[F]);obtain⟨W,e1,e2⟩:=g.get (i:=M) (x:=xs[M]) (by simp[l]);rw[Y]at v;cases v;rw[k2]at e1;cases e1;rw[<-ex]at e2;rw[RV.inj c2 e2 (kg a Y) (kg a k2)];exact k3
  ·intro h;exact Xx #[j,p,Z,Y,h]
 refine#[e,λy hy=>?_,?_]
 ·obtain⟨j,F⟩:=Zi.mp (by simpa using hy:y∈ak);have b:j<xs.length:=by rw[r.length];exact(W6.mp F).1
  obtain⟨p,Z,Y⟩:=g.get (i:=j) (x:=xs[j]) (by simp[b]);obtain⟨u1,a1,a2⟩:=r.get (i:=j) (x:=xs[j]) (by simp[b]);rw[F]at a1;cases a1;rw[key j y p F Z];exact Ga I.hok 100 p d xs[j] x y u X.A.in1 (Xf (uO Z) hd) (kg a Z) o (by show X.A.units+1+100<cLine;lia) Y U a2 S
 ·rw[List.any_toArray];unfold inD;have B:ak.length=ds.length:=by rw[<-r.length,g.length]
  clear_value e
  clear r g a hd
  induction ak generalizing ds with
  |nil=>
   cases ds with
   |nil=>rfl
   |cons=>simp at B
  |cons y k ih=>
   cases ds with
   |nil=>simp at B
   |cons p E=>rw[List.any_cons,List.any_cons,key 0 y p rfl rfl,ih (λj y p Z Y=>key (j+1) y p (by simpa using Z)<|by simpa using Y) (by simpa using B)]
mutual
theorem wR:∀{d e:Mx.D},zD d e=G'->Mx.D.eO d e
 |.int _,.int _,_=>by unfold Mx.D.eO;trivial
 |.str _,.str _,_=>by unfold Mx.D.eO;trivial
 |.tup a,.tup b,h=>by unfold Mx.D.eO;exact j8 (by simpa [zD]using h)
 |.int _,.str _,h=>by simp[zD]at h
 |.int _,.tup _,h=>by simp[zD]at h
 |.str _,.int _,h=>by simp[zD]at h
 |.str _,.tup _,h=>by simp[zD]at h
 |.tup _,.int _,h=>by simp[zD]at h
 |.tup _,.str _,h=>by simp[zD]at h
theorem j8:∀{d e:List Mx.D},sV d e=G'->Mx.D.jx d e
 |[],_,_=>by unfold Mx.D.jx;trivial
 |_::_,[],_=>by unfold Mx.D.jx;trivial
 |x::xs,y::ys,h=>by simp only[sV,W3]at h;unfold Mx.D.jx;exact#[wR h.1,j8 h.2]
end
theorem vj(o)(hu:X.A.units+150<cLine):kB X (compareOp o) (rC X.K o):=by
 intro K' s σ H x y v u Q I rx ry h;obtain⟨d,e,z,hx,hy,he,q⟩:=h;unfold ck at he;split at he
 ·obtain⟨g,he⟩:=aP he;cases he;unfold oy at g;rw[W3,W3]at g;exact NJ I.hok 100 d e x y v u X.A (Nat.le_succ_of_le (W5 g.2)) g.1.1 g.1.2 ⋯ hx hy rx ry X.prog X.w X.xe (EP X K' σ Q) #[.bl _,H,I,rfl,q]
 ·obtain⟨g,he⟩:=aP he;cases he;unfold oy at g;rw[W3,W3]at g;exact Fc I.hok 100 d e x y v u X.A (Nat.le_succ_of_le (W5 g.2)) g.1.1 g.1.2 ⋯ hx hy rx ry X.prog X.w X.xe (EP X K' σ Q) #[.bl _,H,I,rfl,q]
 ·rename_i i j;cases he;exact Nk K' s σ H x y v u Q I rx ry #[i,j,hx.int_inv,hy.int_inv,q]
 ·rename_i i j;cases he;exact Nj K' s σ H x y v u Q I rx ry #[i,j,hx.int_inv,hy.int_inv,q]
 ·rename_i i j;cases he;exact Ni K' s σ H x y v u Q I rx ry #[i,j,hx.int_inv,hy.int_inv,q]
 ·rename_i i j;cases he;exact Nh K' s σ H x y v u Q I rx ry #[i,j,hx.int_inv,hy.int_inv,q]
 ·cases he;refine Jj K' s σ H x y v u Q I rx ry #[hy.dR,?_];cases d with
  |bj=>rw[hx.dR];exact q
  |bl b=>rw[hx.bO];exact q
  |int b=>rw[hx.int_inv];exact q
  |str b=>rw[hx.str_inv];exact q
  |tup b=>obtain⟨a,xs,rfl,_⟩:=hx.au;exact q
  |lst b=>obtain⟨a,xs,rfl,_⟩:=hx.lst_inv;exact q
  |iZ b=>obtain⟨a,rfl,_⟩:=hx.iB;exact q
  |g9=>exact hx.qd.elim
  |obj=>obtain⟨a,xs,rfl,_⟩:=hx.lJ;exact q
  |exc=>exact hx.qf.elim
 ·cases he;refine EA K' s σ H x y v u Q I rx ry #[hy.dR,?_];cases d with
  |bj=>rw[hx.dR];exact q
  |bl b=>rw[hx.bO];exact q
  |int b=>rw[hx.int_inv];exact q
  |str b=>rw[hx.str_inv];exact q
  |tup b=>obtain⟨a,xs,rfl,_⟩:=hx.au;exact q
  |lst b=>obtain⟨a,xs,rfl,_⟩:=hx.lst_inv;exact q
  |iZ b=>obtain⟨a,rfl,_⟩:=hx.iB;exact q
  |g9=>exact hx.qd.elim
  |obj=>obtain⟨a,xs,rfl,_⟩:=hx.lJ;exact q
  |exc=>exact hx.qf.elim
 ·obtain⟨g,he⟩:=aP he;cases he;rw[W3,W3]at g;obtain⟨a,xs,rfl,h1,_,h2⟩:=hy.lst_inv;cases ry;obtain⟨ak,r,t⟩:=dc I.hok h1;obtain⟨e,k1,k2⟩:=vT I hu r h2 rx hx g.1.1 g.1.2 (W5 g.2);exact in_listAt e t k1 #[.bl _,H,I,by rw[k2];rfl,q]
 ·cases he;cases hx.str_inv;cases hy.str_inv;obtain⟨t1,rfl⟩:=rx;obtain⟨t2,rfl⟩:=ry;exact P.in_str #[.bl _,H,I,rfl,q]
 ·obtain⟨g,he⟩:=aP he;cases he;rw[W3,W3]at g;obtain⟨a,xs,rfl,h1,_,h2⟩:=hy.lst_inv;cases ry;obtain⟨ak,r,t⟩:=dc I.hok h1;obtain⟨e,k1,k2⟩:=vT I hu r h2 rx hx g.1.1 g.1.2 (W5 g.2);exact notIn_listAt e t k1 #[.bl _,H,I,by rw[k2];rfl,q]
 ·cases he;cases hx.str_inv;cases hy.str_inv;obtain⟨t1,rfl⟩:=rx;obtain⟨t2,rfl⟩:=ry;exact P.notIn_str #[.bl _,H,I,rfl,q]
 ·cases he
theorem uF(h:zV ds i= .ok d):uo ds i=y' d:=by
 unfold zV at h;split at h
 ·cases h;assumption
 ·cases h
theorem kU{K:Frag}(g:ar K A H xs ds)(h:uo ds i=y' d):∃v,uo xs i=y' v/\RV K A H v d:=by
 unfold uo at h ⊢;rw[g.length];cases e:rA ds.length i with
 |none=>rw[e]at h;cases h
 |some j=>rw[e]at h;obtain⟨v,Z,Y⟩:=g.getD h;exact#[v,Z,Y]
def rX(K:Frag):R2:=λx y H Q=>∃d e z,RV K N0 H x d/\RV K N0 H y e/\cq d e= .ok z/\∀v,PR K J' [x,y] [d,e] H z v H->Q v H
theorem Iw:O7 X (rX X.K):=by
 intro m b M s O H x y v u Q I S c h l;obtain⟨d,e,z,U,F,K,q⟩:=h;unfold cq at K;split at K
 ·rename_i ds i;obtain⟨a,xs,rfl,Z,_,Y⟩:=U.lst_inv;have J:=uF K;obtain⟨w,k1,k2⟩:=kU Y J;refine wK m b M s O H _ y v u Q I S c #[a,xs,i,w,rfl,F.int_inv,cX.of Z,k1,q w #[bT.refl _,λA _ P=>?_,λz=>by cases z]] l;obtain⟨n,m1,m2⟩:=kU (fY.dc P.1 Z) J;rw[k1]at m1;cases m1;exact m2
 ·rename_i ds i;obtain⟨a,xs,rfl,Z,Y⟩:=U.au;have J:=uF K;obtain⟨w,k1,k2⟩:=kU Y J;refine Iy m b M s O H _ y v u Q I S c #[a,xs,i,w,rfl,F.int_inv,fD.of Z,k1,q w #[bT.refl _,λA _ P=>?_,λz=>by cases z]] l;obtain⟨n,m1,m2⟩:=kU (fY.a8 P.1 Z) J;rw[k1]at m1;cases m1;exact m2
 ·rename_i ns i;obtain⟨a,rfl,Z⟩:=U.kv;have J:=uF K;have e1:uo ((ns.map V.int)) i=y' (qR z)/\rE z=G':=by
   unfold uo at J ⊢;rw[Xd]at J ⊢;cases e:rA ns.length i with
   |none=>rw[e]at J;cases J
   |some j=>
    rw[e]at J;simp only[Option.bind_some,Xn]at J ⊢;cases o:ns[j]? with
    |none=>rw[o]at J;cases J
    |some k=>rw[o]at J;simp at J;subst J;exact#[rfl,rfl]
  exact wK m b M s O H _ y v u Q I S c #[a,_,i,_,rfl,F.int_inv,Z,e1.1,q _<|PR.sc e1.2] l
 ·cases K
def rS(K:Frag):V->Option Int->Option Int->Hp->VK->Prop:=λx lo hi H Q=>∃d z,RV K N0 H x d/\eJ d lo hi= .ok z/\∀v j,PR K G' [x] [d] H z v j->Q v j
theorem ar.cut{K:Frag}{lo hi:Option Int}(g:ar K A H xs ds):ar K A H (rW xs lo hi) (cutD ds lo hi):=by unfold rW cutD;rw[g.length];exact(g.drop _).take _
theorem uN{lo hi:Option Int}(h:HT.cw xs.length 0 lo=0/\HT.cw xs.length xs.length hi=xs.length):rW xs lo hi=xs:=by unfold rW;rw[h.1,h.2];simp
theorem qT:K5 X (λx lo hi H Q=>∃a xs,x= .ref a/\H a=y' (.tup xs)/\(HT.cw xs.length 0 lo=0/\HT.cw xs.length xs.length hi=xs.length)/\Q (.ref a) H):=by
 intro M s O H x v o i lo hi Y Q I S l pl c h;obtain⟨a,xs,rfl,U,hw,q⟩:=h;cases S;obtain⟨E,r,J,g⟩:=I.tuple<|fD.of U;have B:E.toArray.size=xs.length:=by rw[W4];exact r.length.symm
 refine#["tuple",_,Z0.lookup,J.typeIs,?_];refine HT.iH J l pl c (by rw[B];exact hw) #[.ref a,H,I,rfl,q] (by rw[B];exact g)
theorem jr{K:Frag}:∀{ns:List Int},ar K A H (ns.map V.int) (ns.map Dt.int)
 |[]=>ar.nil
 |_::_=>ar.cons RV.eh jr
theorem Co:K5 X (rS X.K):=by
 intro M s O H x v o i lo hi sl Q I S l pl c h;obtain⟨d,z,U,K,q⟩:=h;unfold eJ at K;split at K
 ·cases K;obtain⟨a,xs,rfl,Z,_,Y⟩:=U.lst_inv;exact xK M s O H _ v o i lo hi sl Q I S l pl c #[a,xs,rfl,cX.of Z,λp B=>q _ _<|PR.sY B λA w=>(fY.dc w.1 Z).cut]
 ·cases K;obtain⟨a,rfl,Z⟩:=U.kv;exact xK M s O H _ v o i lo hi sl Q I S l pl c #[a,_,rfl,Z,λp B=>q _ _<|PR.sY B λA w=>ar.cut jr]
 ·cases K;obtain⟨a,xs,rfl,Z,Y⟩:=U.au;by_cases hw:HT.cw xs.length 0 lo=0/\HT.cw xs.length xs.length hi=xs.length
  ·refine qT M s O H _ v o i lo hi sl Q I S l pl c #[a,xs,rfl,Z,hw,q _ _<|PR.sT Z λA w=>?_];have:=(fY.a8 w.1 Z).cut (lo:=lo) (hi:=hi);rw[uN hw]at this;exact this
  ·exact J5 M s O H _ v o i lo hi sl Q I S l pl c #[a,xs,rfl,fD.of Z,hw,λp B=>q _ _<|PR.BA B λA w=>(fY.a8 w.1 Z).cut]
 ·cases K
theorem d7{K:Frag}:∀{xs:List V}{ds:List Dt}{ns:List Int},ar K A H xs ds->intsOf ds=y' ns->xs=ns.map V.int
 |xs,[],ns,g,h=>by simp[intsOf]at h;subst h;exact g.nil_inv
 |xs,d::ds,ns,g,h=>by
  obtain⟨x,r,rfl,I,W⟩:=g.cons_inv;cases d with
  |int i=>simp only[intsOf,Xj]at h;obtain⟨ms,Z,rfl⟩:=h;rw[d7 W Z,I.int_inv];rfl
  |_=>simp[intsOf]at h
theorem pX{K:Frag}:∀{xs:List V}{ds:List Dt}{ns:List Bool},ar K A H xs ds->gA ds=y' ns->xs=ns.map V.bl
 |xs,[],ns,g,h=>by simp[gA]at h;subst h;exact g.nil_inv
 |xs,d::ds,ns,g,h=>by
  obtain⟨x,r,rfl,I,W⟩:=g.cons_inv;cases d with
  |bl i=>simp only[gA,Xj]at h;obtain⟨ms,Z,rfl⟩:=h;rw[pX W Z,I.bO];rfl
  |_=>simp[gA]at h
theorem gP:∀(ns:List Int),ns≠[]->fh ns∈ns/\∀a∈ns,fh ns<=a
 |[],h=>absurd rfl h
 |[a],_=>by simp[fh]
 |a::b::r,_=>by
  have O:=gP (b::r) (by simp);have e:fh (a::b::r)=min a (fh (b::r)):=rfl;rw[e];constructor
  ·by_cases h:a<=fh (b::r)
   ·rw[Int.min_eq_left h];exact Xa
   ·rw[Int.min_eq_right ⋯];exact W7 _ O.1
  ·intro c J;rcases Xg.mp J with e|J
   ·rw[e];exact Int.min_le_left _ _
   ·exact Int.le_trans (Int.min_le_right _ _)<|O.2 c J
theorem cA:∀(ns:List Int),ns≠[]->de ns∈ns/\∀a∈ns,a<=de ns
 |[],h=>absurd rfl h
 |[a],_=>by simp[de]
 |a::b::r,_=>by
  have O:=cA (b::r) (by simp);have e:de (a::b::r)=max a (de (b::r)):=rfl;rw[e];constructor
  ·by_cases h:a<=de (b::r)
   ·rw[Int.max_eq_right h];exact W7 _ O.1
   ·rw[Int.max_eq_left ⋯];exact Xa
  ·intro c J;rcases Xg.mp J with e|J
   ·rw[e];exact Int.le_max_left _ _
   ·exact Int.le_trans (O.2 c J)<|Int.le_max_right _ _
theorem iP:∀{l u:List Mx.D},l.Perm u->(l.Pairwise λa b=>Mx.D.lt b a=J')->(u.Pairwise λa b=>Mx.D.lt b a=J')->l=u
 |[],u,p,_,_=>(List.nil_perm.mp p).symm
 |a::t,u,p,Z,Y=>by
  cases u with
  |nil=>exact absurd p.length_eq (by simp)
  |cons b t'=>
   rw[Zq]at Z Y;have g:a=b:=by
    have m:=p.mem_iff.mp Xa;have L:=p.mem_iff.mpr Xa;rcases Xg.mp m with e|m
    ·exact e
    rcases Xg.mp L with e|L
    ·exact e.symm
    exact Mx.D.gM a b (Y.1 a m) (Z.1 b L)
   subst g;rw[iP (List.perm_cons a |>.mp p) Z.2 Y.2]
theorem nM(ms):(fA ms).Perm ms/\(fA ms).Pairwise λa b=>Mx.D.lt b a=J':=by
 refine#[List.mergeSort_perm ms wN,?_];have h:=List.pairwise_mergeSort (le:=wN) (λa b c Z Y=>by
  unfold wN at *;simp only[X8]at *;cases u:Mx.D.lt c a with
  |false=>rfl
  |true=>
   rcases Mx.Ly.negTrans c b a u with h|h
   ·have h:Mx.D.lt c b=G':=h;rw[Y]at h;cases h
   ·have h:Mx.D.lt b a=G':=h;rw[Z]at h;cases h) (λa b=>by
  unfold wN;cases h:Mx.D.lt b a with
  |false=>rfl
  |true=>
   cases y:Mx.D.lt a b with
   |false=>rfl
   |true=>have:=Mx.D.lt_trans a b a y h;rw[Mx.D.lt_irrefl]at this;cases this) ms
 exact h.imp λq=>by unfold wN at q;simpa using q
theorem Cp(h:Mx.l3 ms es):es=fA ms:=iP (h.1.trans (nM ms).1.symm) h.2 (nM ms).2
theorem Iz(h:ML k d=G'):k.ok d:=by
 unfold ML at h;split at h
 ·have e:=Xr h;subst e;exact#[_,_,rfl]
 ·have e:=Xr h;subst e;exact#[_,_,rfl]
 ·have e:=Xr h;subst e;exact#[_,_,rfl]
 ·have e:=Xr h;subst e;exact#[_,rfl]
 ·have e:=Xr h;subst e;exact#[_,rfl]
 ·cases h
theorem DC(h:kL ms=G'):Mx.lZ ms:=by
 unfold kL at h;rw[W3,XN]at h;obtain⟨Z,Y⟩:=h;refine#[W5 Z,λu=>?_];rcases Y with Y|Y
 ·have:=W5 Y;omega
 ·rw[W3,W3]at Y;obtain⟨⟨Q,A⟩,j⟩:=Y;refine#[W5 Q,?_,λd hd e K=>wR<|XF.mp (XF.mp j d hd) e K];obtain⟨k,_,P⟩:=XH.mp A;exact#[k,λd hd=>Iz<|XF.mp P d hd]
theorem oG{α:Type}[DecidableEq α]{a b:List α}(m:a.Nodup)(L:b.Nodup)(h:∀x,x∈a↔x∈b):a.Perm b:=by rw[List.perm_iff_count];intro x;rw[m.count,L.count];simp[h x]
end
end Rx
end
section
namespace Rx
open PySem PySem.W PySem.Spec PyProof.Rows L2 PySem.SeqAt
section
variable{X:Cx}
def KH:BI->Value
 |.len=>.builtin "len"|.abs=>.builtin "abs"|.min2=>.builtin "min"|.max2=>.builtin "max"|.sum=>.builtin "sum"|.any=>.builtin "any"|.all=>.builtin "all"|.minL=>.builtin "min"
 |.maxL=>.builtin "max"|.sorted=>.builtin "sorted"|.tuple=>.type "tuple"|.list=>.type "list"|.dvm=>.builtin "divmod"|_=>.none
def JN:BI->Bool
 |.isi _=>J'|_=>G'
theorem bh{K:Frag}(h:ar K A H xs [d]):∃x,xs=[x]/\RV K A H x d:=by obtain⟨x,r,rfl,Z,Y⟩:=h.cons_inv;rw[Y.nil_inv];exact#[x,rfl,Z]
theorem rg{K:Frag}(h:ar K A H xs [d,e]):∃x y,xs=[x,y]/\RV K A H x d/\RV K A H y e:=by obtain⟨x,r,rfl,Z,Y⟩:=h.cons_inv;obtain⟨y,rfl,u⟩:=bh Y;exact#[x,y,rfl,Z,u]
theorem Du(b)(hr:JN b=G')(J:X.calm=G')(hu:X.A.units+150<cLine):cc X (KH b) (rP X.K G'<|cG b):=by
 intro M s O H xs c Q I r h;obtain⟨ds,d,U,K,q⟩:=h;have Mn:=gL;unfold cG at K;split at K
 ·split at K
  ·cases K;obtain⟨x,rfl,Z⟩:=bh U;obtain⟨a,k,rfl,Y,_,u⟩:=Z.lst_inv;exact mf M s O H _ c Q I r #[_,_,rfl,.inl #[k,cX.of Y,rfl],by rw[u.length];exact q _ _<|PR.sc rfl]
  ·cases K;obtain⟨x,rfl,Z⟩:=bh U;obtain⟨a,k,rfl,Y,u⟩:=Z.au;exact mf M s O H _ c Q I r #[_,_,rfl,.inr #[k,fD.of Y,rfl],by rw[u.length];exact q _ _<|PR.sc rfl]
  ·cases K;obtain⟨x,rfl,Z⟩:=bh U;obtain⟨a,rfl,Y⟩:=Z.kv;exact mf M s O H _ c Q I r #[_,_,rfl,.inl #[_,Y,rfl],by rw[Xd];exact q _ _<|PR.sc rfl]
  ·cases K
 ·split at K
  ·cases K;obtain⟨x,rfl,Z⟩:=bh U;exact Ap M s O H _ c Q I r #[_,by rw[Z.int_inv],q _ _<|PR.sc rfl]
  ·cases K
 ·split at K
  ·cases K;obtain⟨x,y,rfl,Z,Y⟩:=rg U;exact x8 J M s O H _ c Q I r #[_,_,by rw[Z.int_inv,Y.int_inv],q _ _<|PR.sc rfl]
  ·cases K
 ·split at K
  ·cases K;obtain⟨x,y,rfl,Z,Y⟩:=rg U;exact xY J M s O H _ c Q I r #[_,_,by rw[Z.int_inv,Y.int_inv],q _ _<|PR.sc rfl]
  ·cases K
 ·split at K
  ·split at K
   ·rename_i ns n;cases K;obtain⟨x,rfl,Z⟩:=bh U;obtain⟨a,k,rfl,Y,_,u⟩:=Z.lst_inv;rw[d7 u n]at Y;exact Mx.Au J M s O H _ c Q I r #[a,ns,rfl,cX.of Y,q _ _<|PR.sc rfl]
   ·cases K
  ·split at K
   ·rename_i ns n;cases K;obtain⟨x,rfl,Z⟩:=bh U;obtain⟨a,k,rfl,Y,u⟩:=Z.au;rw[d7 u n]at Y;exact Mx.yb J M s O H _ c Q I r #[a,ns,rfl,Y,q _ _<|PR.sc rfl]
   ·cases K
  ·cases K
 ·split at K
  ·split at K
   ·rename_i ns n;cases K;obtain⟨x,rfl,Z⟩:=bh U;obtain⟨a,k,rfl,Y,_,u⟩:=Z.lst_inv;rw[pX u n]at Y;exact Mx.Ar J M s O H _ c Q I r #[a,ns,rfl,cX.of Y,q _ _<|PR.sc rfl]
   ·cases K
  ·cases K
 ·split at K
  ·split at K
   ·rename_i ns n;cases K;obtain⟨x,rfl,Z⟩:=bh U;obtain⟨a,k,rfl,Y,_,u⟩:=Z.lst_inv;rw[pX u n]at Y;exact Mx.Aq J M s O H _ c Q I r #[a,ns,rfl,cX.of Y,q _ _<|PR.sc rfl]
   ·cases K
  ·cases K
 ·split at K
  ·split at K
   ·rename_i ns n;obtain⟨g,K⟩:=aP K;cases K;obtain⟨x,rfl,Z⟩:=bh U;obtain⟨a,k,rfl,Y,_,u⟩:=Z.lst_inv;rw[d7 u n]at Y;have o:ns≠[]:=λe=>by rw[e]at g;cases g
    refine Mx.x9 J M s O H _ c Q I r #[a,ns,rfl,cX.of Y,o,λm m1 S=>?_];have:=gP ns o;have e:=Int.le_antisymm (S _ this.1)<|this.2 _ m1;rw[e];exact q _ _<|PR.sc rfl
   ·cases K
  ·split at K
   ·rename_i ns n;obtain⟨g,K⟩:=aP K;cases K;obtain⟨x,rfl,Z⟩:=bh U;obtain⟨a,k,rfl,Y,u⟩:=Z.au;rw[d7 u n]at Y;have o:ns≠[]:=λe=>by rw[e]at g;cases g
    refine Mx.ya J M s O H _ c Q I r #[a,ns,rfl,Y,o,λm m1 S=>?_];have:=gP ns o;have e:=Int.le_antisymm (S _ this.1)<|this.2 _ m1;rw[e];exact q _ _<|PR.sc rfl
   ·cases K
  ·cases K
 ·split at K
  ·rename_i d0;split at K
   ·rename_i es v;split at K
    ·rename_i ms F;obtain⟨g,K⟩:=aP K;cases K;have cs:=DC g;obtain⟨x,rfl,Z⟩:=bh U;have L:=jC F;have go:∀{a:Addr}{k:List V},x= .ref a->(cX X.K H a k\/fD X.K H a k)->ar X.K N0 H k es->wpAny (model X.prog X.w) X.A (call (KH .sorted) c) (EP X M O Q) X.xe s:=by intro a k ex hs g;subst ex;rw[L]at g;refine Mx.p0 hu M s O H _ c Q I r #[a,k,ms,rfl,hs,g.wg,cs,λm t P E hz z=>q _ _ ?_];have e:=Cp z;subst e;exact PR.sY E λA _=>ar.vi hz
     unfold itemsOf at v;split at v
     ·cases v;obtain⟨a,k,e1,Y,_,u⟩:=Z.lst_inv;exact go e1 (.inl<|cX.of Y) u
     ·cases v;obtain⟨a,k,e1,Y,u⟩:=Z.au;exact go e1 (.inr<|fD.of Y) u
     ·cases v;obtain⟨a,e1,Y⟩:=Z.kv;exact go e1 (.inl Y) jr
     ·cases v
    ·cases K
   ·cases K
  ·cases K
 ·split at K
  ·cases K;obtain⟨x,rfl,Z⟩:=bh U;obtain⟨a,k,rfl,Y,_,u⟩:=Z.lst_inv;exact iK M s O H _ c Q I r #[a,k,rfl,.inl #[cX.of Y,λl W=>q _ _<|PR.BA W λA w=>fY.dc w.1 Y]]
  ·cases K;obtain⟨x,rfl,Z⟩:=bh U;obtain⟨a,k,rfl,Y,u⟩:=Z.au;exact iK M s O H _ c Q I r #[a,k,rfl,.inr #[fD.of Y,q _ _<|PR.sT Y λA w=>fY.a8 w.1 Y]]
  ·cases K
 ·split at K
  ·cases K;obtain⟨x,rfl,Z⟩:=bh U;obtain⟨a,k,rfl,Y,_,u⟩:=Z.lst_inv;exact fI M s O H _ c Q I r #[a,k,rfl,.inl<|cX.of Y,λl W=>q _ _<|PR.sY W λA w=>fY.dc w.1 Y]
  ·cases K;obtain⟨x,rfl,Z⟩:=bh U;obtain⟨a,k,rfl,Y,u⟩:=Z.au;exact fI M s O H _ c Q I r #[a,k,rfl,.inr<|fD.of Y,λl W=>q _ _<|PR.sY W λA w=>fY.a8 w.1 Y]
  ·cases K;obtain⟨x,rfl,Z⟩:=bh U;obtain⟨a,rfl,Y⟩:=Z.kv;exact fI M s O H _ c Q I r #[a,_,rfl,.inl Y,λl W=>q _ _<|PR.sY W λA w=>jr]
  ·cases K
 ·cases hr
 ·split at K
  ·split at K
   ·rename_i ns n;obtain⟨g,K⟩:=aP K;cases K;obtain⟨x,rfl,Z⟩:=bh U;obtain⟨a,k,rfl,Y,_,u⟩:=Z.lst_inv;rw[d7 u n]at Y;have o:ns≠[]:=λe=>by rw[e]at g;cases g
    refine Mx.xZ J M s O H _ c Q I r #[a,ns,rfl,cX.of Y,o,λm m1 S=>?_];have:=cA ns o;have e:=Int.le_antisymm (this.2 _ m1)<|S _ this.1;rw[e];exact q _ _<|PR.sc rfl
   ·cases K
  ·cases K
 ·split at K
  ·rename_i i j;obtain⟨g,K⟩:=aP K;cases K;obtain⟨x,y,rfl,Z,Y⟩:=rg U;rw[W3]at g;refine Mx.pY M s O H _ c Q I r #[i,j,by rw[Z.int_inv,Y.int_inv],W5 g.1,W5 g.2,λp B=>q _ _<|PR.BA B λA w=>ar.cons RV.eh<|ar.cons RV.eh ar.nil]
  ·cases K
end
structure Fm where
 K:Frag
 H0:Hp
 d0:Option Addr
 Ek:Nat->Prop
 P:Program
 w:World
structure Ow where
 W:Addr->Prop
 A:Addr->Prop
 dr:Option Addr
def Ow.wd(o:Ow):Addr->Prop:=λa=>o.W a\/o.dr=y' a
def Ow.d(o:Ow):Addr->Prop:=λa=>o.dr=y' a
def OV(Φ:Fm)(o:Ow)(H:Hp)(v:V):Dt->Prop
 |.lst ds=>∃a xs,v= .ref a/\H a=y' (.lst xs)/\o.A a/\¬o.W a/\o.dr≠y' a/\Φ.H0 a=B'/\ar Φ.K o.A H xs ds
 |.g9 ks vs=>False
 |d=>RV Φ.K o.A H v d
structure ER(Φ:Fm)(Γ:Gm)(o:Ow)(ρ:ah)(S:Sx)(σ:L2.St)(H:Hp):Prop where
 len:σ.length=ρ.length
 wa:∀a,o.W a->o.A a
 da:∀a,o.dr=y' a->o.A a
 al:∀a,o.A a->∃x,H a=y' x
 val:∀(i:Nat)(d:Dt),ρ[i]?=y' (y' d)->∃v,σ[i]?=y' (y' v)/\(if eR Γ i=G' then OV Φ o H v d else RV Φ.K o.A H v d)
 dk:∀(i:Nat)(ks vs:List Dt),ρ[i]?=y' (y'<|.g9 ks vs)->Γ.κ=y' i
 inj:∀(i j:Nat)(a:Addr)(d e:List Dt),eR Γ i=G'->eR Γ j=G'->ρ[i]?=y' (y'<|.lst d)->ρ[j]?=y' (y'<|.lst e)->σ[i]?=y' (y'<|.ref a)->σ[j]?=y' (y'<|.ref a)->i=j
 drw:∀a,o.dr=y' a->∃ns:List Int,S=y' ns/\H a=y' (.lst<|ns.map V.int)
 drn:o.dr=B'->S=B'
 drs:∀(i:Nat)(a:Addr),Γ.δ=y' i->o.dr=y' a->σ[i]?=y' (y'<|.ref a)
 dr0:∀a,o.dr=y' a->Φ.d0=y' a\/Φ.H0 a=B'
 ent:bc (λb=>Φ.d0=y' b) Φ.H0 H
section
variable{Φ:Fm}{Γ:Gm}{o:Ow}{ρ:ah}{S S':Sx}{σ:L2.St}{H H':Hp}
def nD:Dt->Bool
 |.g9 _ _=>J'
 |_=>G'
theorem OV.val(h:OV Φ o H v d)(nd:nD d=G')(wa:∀a,o.W a->o.A a)(da:∀a,o.dr=y' a->o.A a):RV Φ.K o.wd H v d:=by
 have B:∀b,o.wd b->o.A b:=λb z=>z.elim (wa b) (da b)
 cases d with
 |lst ds=>obtain⟨a,xs,rfl,Z,Y,u,Q,_,A⟩:=h;exact RV.fR Z (λz=>z.elim u Q)<|A.weak B
 |g9=>cases nd
 |_=>exact RV.weak h B
theorem OV.one(h:OV Φ o H v d)(nd:nD d=G'):fY Φ.K o.A H v d:=by
 cases d with
 |lst ds=>obtain⟨a,xs,rfl,Z,Y,u,Q,_,A⟩:=h;exact#[a,xs,rfl,Z,A]
 |g9=>cases nd
 |_=>exact h
theorem OV.ext(h:OV Φ o H v d)(da:∀a,o.dr=y' a->o.A a)(e:bc o.d H H'):OV Φ o H' v d:=by
 cases d with
 |lst ds=>obtain⟨a,xs,rfl,Z,Y,u,Q,j,A⟩:=h;exact#[a,xs,rfl,e.kp _ _ Z Q,Y,u,Q,j,A.mono e da λ_ z=>z]
 |g9=>exact h.elim
 |_=>exact RV.mono e da (λ_ z=>z) h
theorem Dk.set(h:∀(i:Nat)(g U:List Dt),ρ[i]?=y' (y'<|.g9 g U)->κ=y' i)(nd:nD d=G'):∀(j:Nat)(g U:List Dt),(ρ.set i<|y' d)[j]?=y' (y'<|.g9 g U)->κ=y' j:=λj g U F=>by
 by_cases e:j=i
 ·subst e;rw[YW]at F;simp only[aag]at F;split at F
  ·cases F;cases nd
  ·cases F
 ·rw[Xl (ZX e)]at F;exact h j g U F
theorem Dk.none(h:∀(i:Nat)(g U:List Dt),ρ[i]?=y' (y'<|.g9 g U)->κ=y' i):∀(j:Nat)(g U:List Dt),(ρ.set i B')[j]?=y' (y'<|.g9 g U)->κ=y' j:=λj g U F=>by
 by_cases e:j=i
 ·subst e;rw[YW]at F;simp only[aag]at F;split at F<;>cases F
 ·rw[Xl (ZX e)]at F;exact h j g U F
theorem RV.nd{K:Frag}(h:RV K A H v d):nD d=G':=by
 cases d with
 |g9=>unfold RV at h;exact h.elim
 |_=>rfl
theorem ER.nd(er:ER Φ Γ o ρ S σ H)(h:ρ[i]?=y' (y' d))(n:Γ.κ≠y' i):nD d=G':=by
 cases d with
 |g9 g U=>exact absurd (er.dk i g U h) n
 |_=>rfl
theorem ER.gX(er:ER Φ Γ o ρ S σ H):∀b,o.wd b->o.A b:=λb z=>z.elim (er.wa b)<|er.da b
theorem ER.zU(er:ER Φ Γ o ρ S σ H):∀b,o.wd b->∃x,H b=y' x:=λb z=>er.al b<|er.gX b z
theorem bc.al(e:bc X H H')(h:H b=y' x)(U:X b->∃y,H' b=y' y):∃y,H' b=y' y:=by
 by_cases z:X b
 ·exact U z
 ·exact#[x,e.kp _ _ h z]
theorem ER.step(er:ER Φ Γ o ρ S σ H)(e:bc o.d H H')(hd:∀a,o.dr=y' a->∃ns:List Int,S'=y' ns/\H' a=y' (.lst<|ns.map V.int))(I:o.dr=B'->S'=B'):ER Φ Γ o ρ S' σ H' where
 len:=er.len
 wa:=er.wa
 da:=er.da
 al:=λa ha=>by obtain⟨x,U⟩:=er.al a ha;exact e.al U λz=>by obtain⟨ns,_,h⟩:=hd a z;exact#[_,h]
 val:=λi d h=>by
  obtain⟨v,Z,Y⟩:=er.val i d h;refine#[v,Z,?_];by_cases m:eR Γ i=G'
  ·rw[aaf m]at Y ⊢;exact Y.ext er.da e
  ·rw[aae m]at Y ⊢;exact Y.mono e er.da λ_ z=>z
 dk:=er.dk
 inj:=er.inj
 drw:=hd
 drn:=I
 drs:=er.drs
 dr0:=er.dr0
 ent:=#[λb x h n=>by
   refine e.kp _ _ (er.ent.kp b x h n) λz=>?_
   rcases er.dr0 b z with q|q
   ·exact n q
   ·(rw[h]at q;cases q),λb xs h=>e.tp _ _<|er.ent.tp b xs h]
theorem ER.re(e:Φ'={Φ with Ek:=Φ'.Ek})(er:ER Φ Γ o ρ S σ H):ER Φ' Γ o ρ S σ H:=by
 rw[e];refine#[er.len,er.wa,er.da,er.al,λi d h=>?_,er.dk,er.inj,er.drw,er.drn,er.drs,er.dr0,er.ent];obtain⟨v,Z,Y⟩:=er.val i d h;refine#[v,Z,?_];by_cases m:eR Γ i=G'
 ·rw[aaf m]at Y ⊢;cases d<;>exact Y
 ·rw[aae m]at Y ⊢;exact Y
theorem ER.grow(er:ER Φ Γ o ρ S σ H)(s:bT H H'):ER Φ Γ o ρ S σ H':=er.step (bc.of_same s) (λa h=>by
 obtain⟨ns,Z,Y⟩:=er.drw a h;exact#[ns,Z,s _ _ Y]) er.drn
end
def mR(Ek:Nat->Prop){α:Type}(r:R α)(P:α->Prop):Prop:=match r with
 |.ok a=>P a
 |.ex k=>Ek k
 |.bad=>False
section
variable{Ek:Nat->Prop}{α β:Type}
theorem ae{f:α->R β}:mR Ek (r.bind f) P↔mR Ek r λa=>mR Ek (f a) P:=by cases r<;>rfl
theorem ag(h:mR Ek r P)(K:∀a,r= .ok a->P a->Q a):mR Ek r Q:=by
 cases r with
 |ok a=>exact K a rfl h
 |ex k=>exact h
 |bad=>exact h
theorem aM{r:R α}(h:mR Ek (aa b r) P):b=G'/\mR Ek r P:=by
 cases b with
 |true=>exact#[rfl,h]
 |false=>exact h.elim
end
structure EO(K:Frag)(fr:Nat->Bool)(o:Ow)(c:C)(H:Hp)(d:Dt)(v:V)(H':Hp):Prop where
 ext:bc o.d H H'
 val:RV K o.wd H' v d
 dJ:lk c=0->RV K o.A H' v d
 zd:lk c<=1->fY K o.A H' v d
 fE:fresh fr c=G'->∀ds,d= .lst ds->∃a xs,v= .ref a/\H a=B'/\H' a=y' (.lst xs)/\ar K (λb=>o.wd b\/b=a) H' xs ds/\(lk c=0->ar K (λb=>o.A b\/b=a) H' xs ds)
structure Ul(K:Frag)(o:Ow)(cs:Cs)(H:Hp)(ds:List Dt)(vs:List V)(H':Hp):Prop where
 ext:bc o.d H H'
 val:ar K o.wd H' vs ds
 dJ:rD cs=0->ar K o.A H' vs ds
 zd:rD cs<=1->pR K o.A H' vs ds
section
variable(Φ:Fm)(Γ:Gm)(F:FT)(fr:Nat->Bool)
inductive bR(c:C)(σ:L2.St)(H:Hp)(Q:VK):Prop
 |mk (o:Ow) (ρ:ah) (S:Sx) (e:ER Φ Γ o ρ S σ H) (m:mR Φ.Ek (ev F c ρ S) λp=>∀v H',EO Φ.K fr o c H p.1 v H'->ER Φ Γ o ρ p.2 σ H'->Q v H'):bR c σ H Q
inductive gu(c:C)(σ:L2.St)(H:Hp)(Q:Bool->Hp->Prop):Prop
 |mk (o:Ow) (ρ:ah) (S:Sx) (e:ER Φ Γ o ρ S σ H) (m:mR Φ.Ek (cg F c ρ S) λp=>∀H',bc o.d H H'->ER Φ Γ o ρ p.2 σ H'->Q p.1 H'):gu c σ H Q
inductive nS(cs:Cs)(σ:L2.St)(H:Hp)(Q:List V->Hp->Prop):Prop
 |mk (o:Ow) (ρ:ah) (S:Sx) (e:ER Φ Γ o ρ S σ H) (m:mR Φ.Ek (fK F cs ρ S) λp=>∀vs H',Ul Φ.K o cs H p.1 vs H'->ER Φ Γ o ρ p.2 σ H'->Q vs H'):nS cs σ H Q
inductive pJ(cs:Cs)(σ:L2.St)(H:Hp)(Q:Bool->Hp->Prop):Prop
 |mk (o:Ow) (ρ:ah) (S:Sx) (e:ER Φ Γ o ρ S σ H) (m:mR Φ.Ek (aZ F cs ρ S) λp=>∀H',bc o.d H H'->ER Φ Γ o ρ p.2 σ H'->Q p.1 H'):pJ cs σ H Q
end
structure Wk(K:Frag)(A X:Addr->Prop)(J:It)(H:Hp)(ds:List Dt):Prop where
 go:∀(i:Nat)(H1:Hp),i<ds.length->bc X H H1->J.go i H1
 stop:∀(H1:Hp),bc X H H1->J.stop ds.length H1
 yld:∀(i:Nat)(x:V)(H1 H2:Hp),i<ds.length->bc X H H1->J.yld i H1 x H2->bT H1 H2/\∃d,ds[i]?=y' d/\∀B:Addr->Prop,(∀b,B b->A b\/H b=B')->RV K B H2 x d
structure IO(K:Frag)(o:Ow)(it:nZ)(nl:Bool)(H:Hp)(ds:List Dt)(J:It)(H':Hp):Prop where
 ext:bc o.d H H'
 w1:rB it<=1->Wk K o.A o.d J H' ds
 w0:rB it=0->Wk K o.A o.A J H' ds
 w2:nl=G'->Wk K o.A o.A J H' ds
inductive nR(Φ:Fm)(Γ:Gm)(F:FT)(it:nZ)(σ:L2.St)(H:Hp)(Q:It->Hp->Prop):Prop
 |mk (o:Ow) (ρ:ah) (S:Sx) (e:ER Φ Γ o ρ S σ H) (m:mR Φ.Ek (dq F it ρ S) λp=>∀J H',IO Φ.K o it (jV F it ρ S) H p.1 J H'->ER Φ Γ o ρ p.2 σ H'->Q J H'):nR Φ Γ F it σ H Q
structure GX(g:G)(Γ:Gm)(X:Cx):Prop where
 N:X.N=Γ.N
 nd:Γ.N.Nodup
 vis:∀x,FE (Γ.names.lookup x)=G'->G5 X.env.scope x
 loc:∀x,Ee (Γ.names.lookup x)=G'->Loc X.env.scope x/\(X.fn x=G'\/X.env.scope.names.lookup x=y' .local)
 gl:∀x,yo (Γ.names.lookup x)=G'->Gl X x
 fre:∀x,(Γ.names.lookup x=y' .cell\/Γ.names.lookup x=y' .free)->(X.env.scope.names.lookup x=y' .cell\/X.env.scope.names.lookup x=y' .free)
 calm:X.calm=G'
 un:X.A.units+150<cLine
 con:∀x d,g.cons.lookup x=y' d->∃u,rE d=G'/\X.mg x=y' u/\RelV (qR d) u
 bl:∀x∈g.bls,X.mg x=B'
structure FO(K:Frag)(W:Addr->Prop)(dr:Option Addr)(fr:Bool)(H:Hp)(d:Dt)(S':Sx)(v:V)(H':Hp):Prop where
 ext:bc (λb=>dr=y' b) H H'
 val:RV K W H' v d
 drw:∀a,dr=y' a->∃ns:List Int,S'=y' ns/\H' a=y' (.lst<|ns.map V.int)
 fE:fr=G'->∀ds,d= .lst ds->∃a xs,v= .ref a/\H a=B'/\H' a=y' (.lst xs)/\ar K (λb=>W b\/b=a) H' xs ds
def Ua(K:Frag)(xv:Nat->Value)(F:List Dt->Sx->R (Dt×Sx))(np:Nat)(fr bw:Bool):Sp:=λvs H Q E=>
 vs.length=np/\∃(W:Addr->Prop)(dr:Option Addr)(args:List Dt)(S:Sx)(zH:List V),
  (if bw=G' then∃(a:Addr)(ns:List Int),vs= .ref a::zH/\dr=y' a/\W a/\S=y' ns/\H a=y' (.lst<|ns.map V.int) else vs=zH/\dr=B'/\S=B')/\
  ar K W H zH args/\(∀a,W a->∃x,H a=y' x)/\
  match F args S with
  |.ok p=>∀v H',FO K W dr fr H p.1 p.2 v H'->Q v H'
  |.ex k=>∀H',bc (λb=>dr=y' b) H H'->E (xv k) B' H'
  |.bad=>False
def vR(Φ:Fm)(m:Nat->Value):XK:=λv _ j=>∃k,v=m k/\Φ.Ek k/\bc (λb=>Φ.d0=y' b) Φ.H0 j
structure FX(g:G)(xv:Nat->Value)(CX:oo)(P:Program)(w:World)(K:Frag)(mg:Str->Option Value)(base:Heap)(n k:Nat)(F:FT):Prop where
 fn:∀x f np fJ bw,sg x g.fns=y' (f,np,fJ,bw)->∃(fa:Addr)(fd:FuncData)(ps:List Str),ps.length=np/\mg x=y' (.ref fa)/\PySem.W.keepIn K (.ref fa)=G'/\
  jS P w K mg base CX k fa fd ps (Ua K xv (F f) np (g.fr f) bw)/\(∀j,j<=fJ.length->∃ds,aw ((fJ.drop j).map qR) ds/\Binds K fd ps ds)/\fJ.all rE=G'
end Rx
end
section
namespace Rx
open PySem PySem.W PySem.Spec PyProof.Rows L2
section
variable{F:FT}{ρ:ah}{S:Sx}
theorem xA{i}:ev F (.var i) ρ S=(aT ρ i).bind λd=>.ok (d,S):=rfl
theorem qM{i}:ev F (.mvr i) ρ S=(aT ρ i).bind λd=>.ok (d,S):=rfl
theorem qL{o}{a}{b}:ev F (.bin o a b) ρ S=(ev F a ρ S).bind λx=>(ev F b ρ x.2).bind λy=>(kI o x.1 y.1).bind λd=>.ok (d,y.2):=rfl
theorem E5{o}{a}{b}:ev F (.cmp o a b) ρ S=(ev F a ρ S).bind λx=>(ev F b ρ x.2).bind λy=>(ck o x.1 y.1).bind λd=>.ok (.bl d,y.2):=rfl
theorem E7{a}:ev F (.neg a) ρ S=(ev F a ρ S).bind λx=>match x.1 with|.int i=>.ok (.int<|-i,x.2)|_=>.bad:=rfl
theorem JI{a}:ev F (.nt a) ρ S=(ev F a ρ S).bind λx=>match x.1 with|.bl b=>.ok (.bl !b,x.2)|_=>.bad:=rfl
theorem E4{a}{b}:ev F (.and a b) ρ S=(ev F a ρ S).bind λx=>match x.1 with|.bl G'=>(ev F b ρ x.2).bind λy=>(match y.1 with|.bl c=>.ok (.bl c,y.2)|_=>.bad)|.bl J'=>.ok (.bl J',x.2)|_=>.bad:=rfl
theorem JJ{a}{b}:ev F (.or a b) ρ S=(ev F a ρ S).bind λx=>match x.1 with|.bl J'=>(ev F b ρ x.2).bind λy=>(match y.1 with|.bl c=>.ok (.bl c,y.2)|_=>.bad)|.bl G'=>.ok (.bl G',x.2)|_=>.bad:=rfl
theorem xy{a}{b}:ev F (.idx a b) ρ S=(ev F a ρ S).bind λx=>(ev F b ρ x.2).bind λy=>(cq x.1 y.1).bind λd=>.ok (d,y.2):=rfl
theorem Cb{a}{l}:ev F (.sliL a l) ρ S=(ev F a ρ S).bind λx=>(ev F l ρ x.2).bind λy=>match y.1 with|.int i=>(eJ x.1 (y' i) B').bind λd=>.ok (d,y.2)|_=>.bad:=rfl
theorem Ca{a}{h}:ev F (.sliH a h) ρ S=(ev F a ρ S).bind λx=>(ev F h ρ x.2).bind λy=>match y.1 with|.int i=>(eJ x.1 B'<|y' i).bind λd=>.ok (d,y.2)|_=>.bad:=rfl
theorem E8{es}:ev F (.tup es) ρ S=(fK F es ρ S).bind λx=>aa (decide (x.1.length<=lim)) (.ok (.tup x.1,x.2)):=rfl
theorem E6{es}:ev F (.lst es) ρ S=(fK F es ρ S).bind λx=>aa (decide (x.1.length<=lim)) (.ok (.lst x.1,x.2)):=rfl
theorem tF{f}{es}{ds}:ev F (.call f es ds) ρ S=(fK F es ρ S).bind λx=>(F f (x.1++ds) B').bind λy=>.ok (y.1,x.2):=rfl
theorem pB{f}{es}:ev F (.callD f es) ρ S=aa S.isSome ((fK F es ρ S).bind λx=>match x.2 with|some s=>F f x.1 (y' s)|none=>.bad):=rfl
theorem B9:ev F (.popD) ρ S=match S with|some ns=>aa (!ns.isEmpty) (.ok (.int<|ns.getLastD 0,y' ns.dropLast))|none=>.bad:=rfl
theorem qK{b}{es}:ev F (.bi b es) ρ S=(fK F es ρ S).bind λx=>(cG b x.1).bind λd=>.ok (d,x.2):=rfl
theorem tJ{cap}{it}{tg}{ts}{e}:ev F (.comp cap it tg ts e) ρ S=(dq F it ρ S).bind λx=>aa (decide (x.1.length<=lim)&&(decide (rB it<=1)||jV F it ρ S)) ((az (aF tg (aZ F ts) (λρ1 S1=>(ev F e ρ1 S1).bind λy=>aa (cJ e y.1)<|.ok ([y.1],y.2))<|jg cap ρ) x.1 x.2).bind λq=>.ok (.lst q.1,q.2)):=rfl
theorem pC{cap}{it}{tg}{ts}{E}{k}{b}{e}:ev F (.gD cap it tg ts E k b e) ρ S=(dq F it ρ S).bind λx=>aa (decide (x.1.length<=lim)&&(decide (rB it<=1)||jV F it ρ S)) ((az (aF tg (aZ F ts) (λρ1 S1=>(dq F E ρ1 S1).bind λU=>aa (decide (x.1.length*U.1.length<=lim)&&decide (rB E=0))<|az (aF k (aZ F b) (λa S2=>(ev F e a S2).bind λy=>aa (cJ e y.1)<|.ok ([y.1],y.2)) ρ1) U.1 U.2)<|jg cap ρ) x.1 x.2).bind λq=>.ok (.lst q.1,q.2)):=rfl
theorem E3{a}:cg F (.nt a) ρ S=(cg F a ρ S).bind λx=>.ok (!x.1,x.2):=rfl
theorem B5{a}{b}:cg F (.and a b) ρ S=(cg F a ρ S).bind λx=>if x.1 then cg F b ρ x.2 else .ok (J',x.2):=rfl
theorem lO{a}{b}:cg F (.or a b) ρ S=(cg F a ρ S).bind λx=>if x.1 then .ok (G',x.2) else cg F b ρ x.2:=rfl
theorem tE{o}{a}{b}:cg F (.cmp o a b) ρ S=(ev F a ρ S).bind λx=>(ev F b ρ x.2).bind λy=>(ck o x.1 y.1).bind λd=>.ok (d,y.2):=rfl
theorem B8{i}:cg F (.var i) ρ S=(aT ρ i).bind λd=>(cU d).bind λb=>.ok (b,S):=rfl
theorem B7{i}:cg F (.mvr i) ρ S=(aT ρ i).bind λd=>(cU d).bind λb=>.ok (b,S):=rfl
theorem yY{f}{es}{ds}:cg F (.call f es ds) ρ S=(fK F es ρ S).bind λx=>(F f (x.1++ds) B').bind λy=>(cU y.1).bind λb=>.ok (b,x.2):=rfl
theorem vx{f}{es}:cg F (.callD f es) ρ S=aa S.isSome ((fK F es ρ S).bind λx=>match x.2 with|some s=>(F f x.1<|y' s).bind λy=>(cU y.1).bind λb=>.ok (b,y.2)|none=>.bad):=rfl
theorem xx{b}{es}:cg F (.bi b es) ρ S=(fK F es ρ S).bind λx=>(cG b x.1).bind λd=>(cU d).bind λb=>.ok (b,x.2):=rfl
theorem B6{a}{b}:cg F (.idx a b) ρ S=(ev F a ρ S).bind λx=>(ev F b ρ x.2).bind λy=>(cq x.1 y.1).bind λd=>(cU d).bind λb=>.ok (b,y.2):=rfl
theorem tK:fK F (.nil) ρ S= .ok ([],S):=rfl
theorem ko{c}{w}:fK F (.cons c w) ρ S=(ev F c ρ S).bind λx=>(fK F w ρ x.2).bind λy=>.ok (x.1::y.1,y.2):=rfl
theorem kn:aZ F (.nil) ρ S= .ok (G',S):=rfl
theorem kK{c}:aZ F (.cons c .nil) ρ S=cg F c ρ S:=rfl
theorem yW{c}:dq F (.seq c) ρ S=(ev F c ρ S).bind λx=>match gW x.1 with|some ds=>.ok (ds,x.2)|none=>.bad:=rfl
theorem vv{c}:dq F (.rng1 c) ρ S=(ev F c ρ S).bind λx=>match x.1 with|.int j=>aa (decide (j<=lim)&&decide (-lim<=j)) (.ok (bu 0 j.toNat,x.2))|_=>.bad:=rfl
theorem vw{a}{b}{c}:dq F (.rng3 a b c) ρ S=(ev F a ρ S).bind λx=>(ev F b ρ x.2).bind λy=>(ev F c ρ y.2).bind λz=>match x.1,y.1,z.1 with|.int i,.int j,.int k=>aa (decide (i.natAbs<=lim)&&decide (j.natAbs<=lim)&&(decide (1<=k)&&decide (k<=1000))) (.ok (vD i k<|Mx.pG i j k,z.2))|_,_,_=>.bad:=rfl
theorem yX{a}{b}:dq F (.zip a b) ρ S=(ev F a ρ S).bind λx=>(ev F b ρ x.2).bind λy=>match cW x.1,cW y.1 with|some xs,y' k=>.ok (dH xs k,y.2)|_,_=>.bad:=rfl
theorem vt{c}:dq F (.enum c) ρ S=(ev F c ρ S).bind λx=>match cW x.1 with|some ds=>.ok (wj 0 ds,x.2)|none=>.bad:=rfl
theorem qN{i}{c}:ex F (.asg i c) ρ S=(ev F c ρ S).bind λx=>aa (cJ c x.1) (.ok (.next,ρ.set i<|y' x.1,x.2)):=rfl
theorem nG{i}{c}:ex F (.asgM i c) ρ S=(ev F c ρ S).bind λx=>aa (xM c x.1) (.ok (.next,ρ.set i<|y' x.1,x.2)):=rfl
theorem tL{i}{c}:ex F (.asgD i c) ρ S=(ev F c ρ S).bind λx=>match x.1 with|.lst ds=>(match intsOf ds with|some ns=>aa (decide (lk c=0)&&decide (i<ρ.length)) (.ok (.next,ρ.set i B',y' ns))|none=>.bad)|_=>.bad:=rfl
theorem tM{is}{c}:ex F (.asgT is c) ρ S=(ev F c ρ S).bind λx=>aa (cJ c x.1) ((xJ is x.1 ρ).bind λρ1=>.ok (.next,ρ1,x.2)):=rfl
theorem Fb{i}{c}:ex F (.aug i c) ρ S=(aT ρ i).bind λd=>(ev F c ρ S).bind λx=>match d,x.1 with|.int a,.int b=>.ok (.next,ρ.set i<|y'<|.int<|a+b,x.2)|_,_=>.bad:=rfl
theorem Cc{i}{k}{v}:ex F (.tR i k v) ρ S=aa (isLE ρ i) ((ev F v ρ S).bind λx=>(ev F k ρ x.2).bind λy=>aa (cJ v x.1)<|(j9 ρ i).bind λds=>match y.1 with|.int n=>(match rA ds.length n with|some j=>.ok (.next,ρ.set i<|y'<|.lst<|ds.set j x.1,y.2)|none=>.bad)|_=>.bad):=rfl
theorem E9{i}{c}:ex F (.app i c) ρ S=aa (isLE ρ i) ((ev F c ρ S).bind λx=>aa (cJ c x.1)<|(j9 ρ i).bind λds=>aa (decide (ds.length<=lim))<|.ok (.next,ρ.set i<|y'<|.lst<|ds++[x.1],x.2)):=rfl
theorem xB{i}:ex F (.clr i) ρ S=(j9 ρ i).bind λ_=>.ok (.next,ρ.set i<|y'<|.lst [],S):=rfl
theorem xC{i}:ex F (.rvs i) ρ S=(j9 ρ i).bind λds=>.ok (.next,ρ.set i<|y'<|.lst ds.reverse,S):=rfl
theorem lQ{c}:ex F (.DF c) ρ S=(ev F c ρ S).bind λx=>.ok (.next,ρ,x.2):=rfl
theorem lR{c}:ex F (.ret c) ρ S=(ev F c ρ S).bind λx=>.ok (.ret x.1,ρ,x.2):=rfl
theorem qO{t}{a}{b}:ex F (.ifs t a b) ρ S=(cg F t ρ S).bind λx=>if x.1 then bf F a ρ x.2 else bf F b ρ x.2:=rfl
theorem kr{tg}{it}{b}:ex F (.fr tg it b) ρ S=(dq F it ρ S).bind λx=>aa (decide (rB it=0)||jV F it ρ S) (forL tg (bf F b) x.1 ρ x.2):=rfl
theorem bF{t}{ts}:bf F (.cons t ts) ρ S=(ex F t ρ S).bind λp=>match p.1 with|.next=>bf F ts p.2.1 p.2.2|f=>.ok (f,p.2):=rfl
end
end Rx
end
section
namespace L2
open PySem PySem.Spec PyProof.Rows
@[reducible]def Ho:List Value:=[.type "ValueError",.type "Exception",.type "BaseException",.type "object"]
theorem BF{K:PySem.W.Frag}(X:K.In h)(a:K.In h')(ok:PySem.W.nsOkIn K N=G')(G:h.Ns N m):h'.Ns N m:=by
 unfold PySem.W.nsOkIn at ok;split at ok
 ·rename_i lk;obtain⟨Z,es,Q,e1,F⟩:=G;have e2:=X _ _ lk;rw[e1]at e2;cases e2;exact#[_,es,Q,a _ _ lk,F]
 ·cases ok
theorem yj{K:PySem.W.Frag}(X:K.In h)(q:PySem.W.excIn K C FW newId=G'):
  ∃(o:List Value)(ns:Addr)(nm k:Str)(bs:List Value)(hd:Bool)(sn:List Str)(sub:List Value)(ab:Bool)(col:Option Bool)(dd:Option Addr)(k0 k1 k2 k3 k5:Option Value)(n:Str->Option Value),n "__init__"=B'/\
   ∀y:Heap,K.In y->y.get? C=y' (excClassObj nm k C ns bs o hd sn sub ab col dd k0 k1 k2 k3 k5 newId)/\y.Ns ns n/\OwnTail y FW o:=by
 unfold PySem.W.excIn at q;split at q
 ·rename_i Qt c KY s;split at q
  ·rename_i D b I s1 p g j Z Q es;rw[W3,W3,W3,W3,W3]at q;obtain⟨⟨⟨⟨⟨S,A⟩,U⟩,u⟩,m⟩,i⟩:=q;have r:=Xr S;have W:=Xr A;have d3:c.hasDel=J':=by simpa using U
   have t:=Xr i;subst r W;cases c with
   |mk nm bs mro ns k hd sn sub ab col del=>
    have e1:=Q;have e2:=d3;subst e1 e2;have e3:KY=[I,s1,p,g,y' (Value.builtin j),Z].toArray:=by
     cases KY with
     |mk l=>have e:l=_:=es;rw[e]
    subst e3;refine#[b,ns,nm,k,bs,hd,sn,sub,ab,col,Qt,I,s1,p,g,Z,h.nsMap ns,PySem.W.nsMap_none_of_in X m t,λy a=>#[a _ _ s,?_,PySem.W.tail_of_in a u]];exact BF X a m<|Heap.Ns.of_isNs<|PySem.W.isNs_of_in X m
  ·cases q
 ·cases q
def PM(X:Cx)(e:Expr)(p:St->Prop):Prop:=∀(M:List (Addr×Obj))(s:Shared)(O:St)(H:Hp)(Q:Value->Shared->Prop),Inv X M O H s->p O->(∀u S,S.heap=s.heap->Inv X M O H S->Q u S)->wpAny (model X.prog X.w) X.A (eval e X.env) Q X.xe s
def K2(X:Cx)(e:Expr)(p:St->Prop):Prop:=∀(M:List (Addr×Obj))(s:Shared)(O:St)(H:Hp)(Q:Value->Shared->Prop),Inv X M O H s->p O->(∀(y:Str)t S,y.length<=1000->S.heap=s.heap->Inv X M O H S->Q (.str y t) S)->wpAny (model X.prog X.w) X.A (eval e X.env) Q X.xe s
def K3(X:Cx)(es:List Expr)(p:St->Prop):Prop:=∀(a:Str)(M:List (Addr×Obj))(s:Shared)(O:St)(H:Hp)(Q:Value->Shared->Prop),Inv X M O H s->p O->a.length+1000*es.length<=sizeLine->(∀u S,S.heap=s.heap->Inv X M O H S->Q u S)->
 wpAny (model X.prog X.w) X.A (joinParts a<|evalEach es X.env) Q X.xe s
theorem tX{O:St}(I:Inv X K' O H s)(k):Inv X K' O H {s with toks:=k}:=I.tok k
section
variable{X:Cx}
theorem Jx{j pos}:PM X (.Constant (.str x) j pos) p:=λM s O H Q I _ q=>Calls.Constant_str<|q _ _ rfl<|I.tok _
theorem EL{j pos}(h:x.length<=1000):K2 X (.Constant (.str x) j pos) p:=λM s O H Q I _ q=>Calls.Constant_str<|q _ _ _ h rfl<|I.tok _
theorem nP(n:Nat)(h:n<10^19):(Str.ofString<|toString (n:Int)).length<=1000:=by
 have e:=int_text_length_le10 (a:=(n:Int)) (k:=19) (by decide) ⋯;rw[PySem.ofString_length]
 lia
theorem log2_small{n:Nat}(h:n<10^19):((n:Int)).natAbs.log2<1920:=by
 have e:((n:Int)).natAbs=n:=rfl;rw[e];by_cases g:n=0
 ·subst g;decide
 ·have:=(Nat.log2_lt g (k:=1920)).mpr (Xp h (by decide +kernel));exact this
theorem EM{i:Nat}(hN:X.N[i]?=y' x)(hv:G5 X.env.scope x)(hd:(x==("__debug__":Str))=J')(g:(x==("__classdict__":Str))=J'):K2 X (.FormattedValue (.Name x pos) (-1) B' HL) (λO=>∃n:Nat,O[i]?=y' (y'<|.int n)/\n<10^19):=by
 intro M s O H Q I #[n,Z,Y] q;obtain⟨m,hn,W⟩:=I.loc;obtain⟨u,r,l⟩:=W i x _ hN Z hv;obtain⟨t,rfl⟩:=r;have fin:wpAny (model X.prog X.w) X.A (formatField (.int n t) Str.empty) Q X.xe s:=formatField_int_small (log2_small Y)<|q _ _ _ (nP n Y) rfl<|tX I _;rcases l with ⟨P,E⟩|⟨P,c,J,a⟩
 ·exact FormattedValue_plain<|wpAny_Name (wpAny_loadName_local I.ok.kind P hn E fin) hd
 ·rcases P with P|P
  ·exact FormattedValue_plain<|wpAny_Name (wpAny_loadName_cell I.ok.kind P J a fin) hd
  ·exact FormattedValue_plain<|wpAny_Name (wpAny_loadName_free I.ok.kind P J a fin g) hd
theorem BW{n:Nat}(hg:Gl X x)(E:X.mg x=y' u)(r:RelV (.int n) u)(Y:n<10^19)(hd:(x==("__debug__":Str))=J'):K2 X (.FormattedValue (.Name x pos) (-1) B' HL) p:=by intro M s O H Q I _ q;obtain⟨t,rfl⟩:=r;exact FormattedValue_plain<|jv I hg E (formatField_int_small (log2_small Y)<|q _ _ _ (nP n Y) rfl<|tX I _) hd
theorem EN:K3 X [] p:=λa M s O H Q I _ W q=>joinParts_nil (q _ _ rfl<|I.tok _) (by simpa using W)
theorem BX(K:K2 X e p)(J:K3 X es p)(l:evalEach (e::es) X.env=eval e X.env::evalEach es X.env):K3 X (e::es) p:=by intro a M s O H Q I B W q;rw[l];refine joinParts_cons<|K M s O H _ I B λy t S F hh w=>?_;have e1:(a++y).length=a.length+y.length:=strLen_append ..;rw[Xm]at W;refine#[by rw[e1];lia,J (a++y) M S O H Q w B ⋯ λu i Y I2=>q u i (Y.trans hh) I2]
theorem yT(h:K3 X (e1::e2::es) p)(W:(e1::e2::es).length<=100):PM X (.JoinedStr (e1::e2::es) pos) p:=by intro M s O H Q I B q;have g:Str.empty.length=0:=rfl;have U:=aap;exact JoinedStr_many<|h Str.empty M s O H Q I B ⋯ q
end
def Kf(cls:Value)(E:XK)(p:St->Prop):TS:=λ_ O H=>p O/\E cls B' H
section
variable{X:Cx}{E:XK}{C:Addr}{c:Str}{arg:Expr}{p:St->Prop}{np eM pos:Pos}
theorem Er(hN:N<=h.objs.size)(c:∀b,h.objs.size<=b->H b=B')(dd:Mx.Dd h h')(m:Heap.MadeExcOf h h' a cls args):i9 N cls a H h':=by
 obtain⟨t,e1,e2,l⟩:=m.there;have ge:h.objs.size<=a:=by
  rcases Nat.lt_or_ge a h.objs.size with W|W
  ·have:=dd.none a W m.new;rw[e1]at this;cases this
  ·exact W
 refine#[Xf hN ge,c a ge,#[_,_,e1,#[rfl,rfl],rfl,.inl rfl],λT z=>?_];obtain⟨o,U,O,X,I⟩:=z;rw[e1]at O;cases O;cases X;cases I
theorem B2(W:X.A.handled=B')(Gk:X.pn=[])(t:Gl X c)(hm:X.mg c=y' (.ref C))(P:PySem.W.excIn X.K C Ho "ValueError.__new__"=G')(U:∀e S,n8 X E e S->X.xe e S)(K:PM X arg p)
  (kO:starEach [arg] X.env=[(J',eval arg X.env)]) (qp:(c==("__debug__":Str))=J'):PS X (.Raise (y'<|.Call (.Name c np) [arg] [] eM) B' pos) (Kf (.ref C) E p):=by
 intro M s O H D I h;obtain⟨Z,Y⟩:=h;obtain⟨o,ns,nm,k,bs,hd,sn,sub,ab,col,dd,k0,k1,k2,k3,k5,n,j,F⟩:=yj I.lA P;have T0:=(F _ I.lA).2.2;have w:=T0.hasType PySem.F.excBase_ValueError.hasBase;have i:(backTo eM<|starEach [arg] X.env).any (·.1)=J':=by rw[kO];rfl
 refine Mx.oM<|aav (Q:=λ_ _=>False) (E:=λe S=>X.xe e S\/∃s2 a args,e= .ref a/\s2.heap=s.heap/\Inv X M O H s2/\S={s2 with heap:=S.heap}/\Heap.MadeExcOf s2.heap S.heap a (.ref C) args) ?_ (λ_ _ z=>z.elim) λe S z hd=>?_
 ·refine wpAny_Raise_call_subT (nm:=nm) (q:=k) (N:=ns) (bs:=bs) (hdct:=hd) (sn:=sn) (sub:=sub) (ab:=ab) (col:=col) (dd:=dd) (k0:=k0) (k1:=k1) (k2:=k2) (k3:=k3) (k5:=k5) PySem.F.excBase_ValueError w W i j<|jv I t hm #[rfl,?_] qp;rw[kO];refine Calls.evalArgs_plain ?_;refine Calls.spliced_cons<|aav (K M s O H (λu S=>S.heap=s.heap/\Inv X M O H S) I Z λu S a b=>#[a,b]) (λu s1#[r,I1]=>?_) λ_ _ z=>.inl z;refine Calls.spliced_nil #[rfl,(by show 1<=sizeLine;decide),(F _ I1.lA).1,(F _ I1.lA).2.1,(F _ I1.lA).2.2,λy e m=>.inr #[s1,e,_,rfl,r,I1,rfl,m]]
 ·rcases z with z|⟨s2,a,args,rfl,g,I2,l,m⟩
  ·exact z
  ·rw[l];refine U _ _ #[O,H,a,.ref C,rfl,?_,?_,Y]
   ·exact(I2.kept m.keeps).iq λp B=>by cases B
   ·exact Er I2.sz (λb L=>I2.hok.fresh L) (by rw[g];exact hd) m
end
structure zQ(K:PySem.W.Frag)(D:Addr):Prop where
 ga:PySem.W.findIn K (.ref D) "__getattribute__"=y' (y'<|.builtin "BaseException.__getattribute__")
 na:PySem.W.findIn K (.ref D) "__getattr__"=y' B'
 sb:PySem.W.subIn K (.ref D) (.type "BaseException")=y' G'
 fi:PySem.W.findIn K (.ref D) "__class__"=y' (y'<|.builtin "object.__class__")
 sp:PySem.W.specialIn K (.builtin "object.__class__") "__get__"=y' (y'<|.builtin "getset_descriptor.__get__")
 tk:PySem.W.takesIn K (.builtin "object.__class__")=y' G'
 mr:PySem.W.mroIn K D (.type "object")=y' G'
theorem DH{K:PySem.W.Frag}(q:PySem.W.excIn K D FW newId=G'):∃c dd cd Y,K.lookup D=y' #[c,dd,.cls cd,Y]:=by
 unfold PySem.W.excIn at q;split at q
 ·rename_i s;exact#[_,_,_,_,s]
 ·cases q
theorem LJ:(Value.builtin "BaseException.__getattribute__"==Value.builtin "object.__getattribute__")=J':=by decide +kernel
theorem AZ{x D:Addr}(L:PySem.W.Looks (model prog w) s.heap (isInstance (.ref x)<|.type "BaseException") G')(K:Q () s):wpAny (model prog w) A (checkBuiltinCall "BaseException.__getattribute__" #[[.ref x,wY],[]]) Q E s:=by
 have P:builtinKind "BaseException.__getattribute__"=y' .slot:=by decide +kernel
 have b:splitId "BaseException.__getattribute__"=y' ("BaseException","__getattribute__"):=by decide +kernel
 have m:=F.args_bexc_ga (.ref x) wY;simp only[checkBuiltinCall,P,b];refine WZ<|L.at ?_;simp only[X9,X6,aad];cases a:Manifest.signature? "BaseException.__getattribute__" with
 |none=>exact W2 K
 |some sig=>simp only[argsOk,a]at m;show wpAny _ A (Bind.checkArgs "BaseException.__getattribute__" sig #[[.ref x,wY],[]]) _ _ s;rw[show Bind.checkArgs "BaseException.__getattribute__" sig #[[.ref x,wY],[]]=pure () from m];exact W2 K
theorem yi{K:PySem.W.Frag}(k:zQ K D)(J:PySem.W.clsIn K D=y' cd)(X:K.In s.heap)(I:PySem.W.InstAt s.heap x ox D B')(q:Q (y'<|.ref D) {s with toks:=s.toks+1}):
  wpAny (model prog w) A (getAttr? (.ref x) "__class__") Q E s:=by
 have hf:PySem.W.findObj K D B' "__class__"=y' (.bind (.builtin "getset_descriptor.__get__")<|.builtin "object.__class__"):=by unfold PySem.W.findObj;rw[J,Option.bind_some,k.fi,Option.bind_some];simp[k.sp,k.tk]
 have a:=I.type (M:=model prog w);have b:=PySem.W.looks_findIn (M:=model prog w) X k.ga;have c:=PySem.W.looks_findIn (M:=model prog w) X k.na;have i:=PySem.W.looks_find (M:=model prog w) X I hf;have h:PySem.W.Looks (model prog w) s.heap (isInstance (.ref x)<|.type "BaseException") G':=a.andThen<|PySem.W.looks_subIn (M:=model prog w) X k.sb;obtain⟨W,g,d,t,os⟩:=s;unfold getAttr? getAttrBy? getAttrBy;refine WZ<|wpAny_mkText<|WZ<|wpAny_attempt<|aau<|WZ<|a.at<|WZ<|b.at ?_;simp only[LJ,X3,X6,aad];unfold getAttrByItsOwn;refine WZ ?_;show wpAny _ _ (typeLookup (.ref D) "__getattr__") _ _ _;refine c.at ?_;refine WZ<|wpAny_attempt<|aau ?_;show wpAny _ _ (boundAndCalled _ _ _) _ _ _;unfold boundAndCalled;refine WZ<|wpAny_of_eq (F.excAttr_ValueError.ga.bind<|.ref x) ?_;refine wpAny_call<|codeAny_call_builtin F.excAttr_ValueError.ga.plain F.entry_bexc_ga<|AZ (D:=D) h ?_;unfold Builtin.«object.__getattribute__»;refine WZ<|W2<|WZ<|W2<|WZ<|a.at<|WZ<|i.at ?_;show wpAny _ _ (holding [.builtin "object.__class__"] (call (.builtin "getset_descriptor.__get__") [.builtin "object.__class__",.ref x,.ref D]) >>=ret) _ _ _;refine WZ<|aau<|wpAny_call<|PySem.W.class_get (ox:=ox) (od:=B') X I k.mr ?_;refine W2 ?_;show wpAny _ _ (handedOut<|.ref D) _ _ _;exact PySem.W.handed_on rfl<|W2 q
theorem Br{K:PySem.W.Frag}(hq:PySem.W.excIn K D FW newId=G')(k:zQ K D):PySem.W.KitX K (.ref x) (.ref D) (λh=>PySem.W.InstAt h x ox D B'):=by
 obtain⟨W,b,cd,g,lk⟩:=DH hq;have J:PySem.W.clsIn K D=y' cd:=by unfold PySem.W.clsIn;rw[lk]
 refine#[λM h _ I=>I.type,λM h X _=>?_,λh tp dd ak n Y X a=>?_,λ {prog w A E Q s} X I q=>yi k J X I q]
 ·intro c z j S Z q;unfold isType loadHead;exact WZ<|wpAny_loadPart (Z _ _<|X _ _ lk)<|W2 q
 ·refine Bool.eq_false_iff.mpr λq=>?_
  have e:D=tp:=by have:=Xr q;cases this;rfl
  rw[<-e,X _ _ lk]at a;cases a
abbrev Cx.hand(X:Cx)(a:Addr)(o:Obj):Cx:={X with A:=X.A.mark (y' (.ref a)),calm:=J',pn:=[(a,o)],xe:=λ_ _=>False}
structure pS(X:Cx)(D a:Addr)(o:Obj):Prop where
 cls:o.cls= .ref D
 Qt:o.dict=B'
 dat:∃vs,o.data= .fields vs
section
variable{X:Cx}{σ:St}{H:Hp}{s:Shared}{D a:Addr}{o:Obj}
theorem Inv.hand(h:X.pn=[])(I:Inv X [] σ H s)(F:i9 X.s₀.heap.objs.size (.ref D) a H s.heap)(j:s.heap.get? a=y' o)(S:pS X D a o):Inv (X.hand a o) [] σ H s:=by
 obtain⟨U,hd⟩:=S.dat;refine#[#[I.ok.mod,I.ok.kind,I.ok.glob,I.ok.blt,I.ok.above,I.ok.inj,I.ok.has,I.ok.C0,(λz=>by cases z),I.ok.frames,I.ok.Ft,I.ok.Gd,I.ok.bs,I.ok.CZ,I.ok.oF,I.ok.qg,I.ok.iR,I.ok.DK],I.os,I.bare,I.base,I.loc,I.cell,I.free,I.cV,λp B=>?_,I.hok,I.len];have e:p=(a,o):=by simpa using B
 subst e;refine#[j,F.nH,λz=>?_,λz=>?_,λv q=>by rw[hd]at q;cases q]
 ·obtain⟨m,⟨w,es,Q,Z,Y,_⟩,_⟩:=I.loc;have z:a=X.env.locals:=z;rw[<-z,j]at Z;cases Z;rw[hd]at Y;cases Y
 ·obtain⟨_,w,g,J⟩:=I.ok.iR.mem z;have:=F.ge;have t:=Xe g;exact absurd (Xp t this)<|ZM _
theorem Inv.Kn(h:X.pn=[])(I:Inv (X.hand a o) [] σ H s)(J:X.calm=G'->X.A.handled=B'):Inv X [] σ H s:=
 #[#[I.ok.mod,I.ok.kind,I.ok.glob,I.ok.blt,I.ok.above,I.ok.inj,I.ok.has,I.ok.C0,J,I.ok.frames,I.ok.Ft,I.ok.Gd,I.ok.bs,I.ok.CZ,I.ok.oF,I.ok.qg,I.ok.iR,I.ok.DK],I.os,I.bare,I.base,I.loc,I.cell,I.free,I.cV,(λp B=>(by rw[h]at B;cases B)),I.hok,I.len]
theorem wD(I:Inv (X.hand a o) [] σ H s)(S:pS X D a o):PySem.W.InstAt s.heap a o D B':=by obtain⟨U,hd⟩:=S.dat;refine#[(I.pin (a,o)<|by simp).1,S.cls,by unfold PySem.W.notCls;rw[hd],?_];rw[S.Qt];trivial
end
def WX(X:Cx)(c:St)(XE:Value->Hp->Prop)(e:Value)(S:Shared):Prop:=∃j a cls,e= .ref a/\Inv X [] c j S/\i9 X.s₀.heap.objs.size cls a j S.heap/\XE cls j
def Pb(X:Cx)(st:Stmt)(t:TS):Prop:=∀(s:Shared)(O:St)(H:Hp)(D:Ends),Inv X [] O H s->t D O H->wpAny (model X.prog X.w) X.A (exec st X.env) (SP X [] D) X.xe s
def pP(X:Cx)(st:List Stmt)(t:TS):Prop:=∀(s:Shared)(O:St)(H:Hp)(D:Ends),Inv X [] O H s->t D O H->wpAny (model X.prog X.w) X.A (execs st X.env) (SP X [] D) X.xe s
theorem Jz{st:Stmt}(h:PS X st t):Pb X st t:=λs O H D=>h [] s O H D
theorem EV{st:List Stmt}(h:rG X st t):pP X st t:=λs O H D=>h [] s O H D
theorem yV{st:Stmt}(Z:Pb X st t)(Y:pP X rest u):pP X (st::rest) (Ov t u):=by
 intro s O H D I K;refine wpAny_execs_cons<|b9 (Z s O H {D with nx:=u D} I K) λf s1 z=>?_;cases f with
 |next=>obtain⟨M,P,F,S⟩:=z;exact Y s1 M P D F S
 |brk=>exact z
 |cont=>exact z
 |ret v=>exact z
section
variable{X:Cx}{σ:St}{H:Hp}{s:Shared}
theorem Inv.Ag(h:X.pn=[])(I:Inv X [] σ H s)(hn:h'.Ns X.env.locals m)(sb:Heap.SameBut X.env.locals s.heap h'):Inv X [] (List.replicate X.N.length B') H {s with heap:=h',toks:=tk}:=by
 have t:∀b o,X.s₀.heap.get? b=y' o->b≠X.env.locals:=λb o e=>Xz (Xp (Xe e) I.ok.above)
 have a:∀y c,X.env.cells.lookup y=y' c->c≠X.env.locals:=λy c e z=>by obtain⟨v,o,j,hd⟩:=I.cell y c e;obtain⟨m',⟨w,es,Q,Z,Y,_⟩,_⟩:=I.loc;rw[z,Z]at j;cases j;rw[hd]at Y;cases Y
 refine#[I.ok,I.os,I.bare,#[λb o e n L U=>(sb.2 b<|t b o e).trans<|I.base.keep b o e n L U,λb o e n L U=>?_,I.base.free,λb o e U=>?_,I.base.tups,I.base.frzs,I.base.tbls],#[m,hn,λi x v Z Y=>?_],λy c e=>?_,I.free,I.cV,λp B=>?_,?_,Y5]
 ·obtain⟨sl,q⟩:=I.base.slot b o e n L U;exact#[sl,(sb.2 b<|t b o e).trans q]
 ·obtain⟨w,q⟩:=I.base.there b o e U;exact#[w,(sb.2 b<|t b o e).trans q]
 ·rw[YV]at Y;split at Y<;>cases Y
 ·obtain⟨v,o,j,hd⟩:=I.cell y c e;exact#[v,o,(sb.2 c<|a y c e).trans j,hd]
 ·rw[h]at B;cases B
 ·intro b u e;refine(I.hok b u e).qX (λc v J q=>?_) (λ_ q=>q) λ_ _ q=>q
  refine(sb.2 c λz=>?_).trans q;subst z;rcases J with rfl|J
  ·rw[I.free]at e;cases e
  ·rw[I.free]at J;cases J
theorem RG:(Value.ref a)≠byPass:=by intro q;cases q
variable{ok:Addr->Prop}{t:Str}{c:Value}{tp mL:Pos}{jM:List Stmt}{b0:Stmt}
theorem Kk{D:Ends}(st:eU X)(hg:Gl X t)(E:X.mg t=y' c)(y:(t==("__debug__":Str))=J')
  (U:∀C,ok C->PySem.W.exmOne X.K (.ref C) c=y' G') (s:∀cls j,XE cls j->∃C,cls= .ref C/\ok C)
  (go:∀j a C s1,XE (.ref C) j->Inv X [] σ j s1->i9 X.s₀.heap.objs.size (.ref C) a j s1.heap->(∃T,dO s1.heap a T)->
   codeAny (model X.prog X.w) (X.A.mark<|y'<|.ref a) (.handlers (.ref a) [.ExceptHandler B' nm (b0::jM) mL] X.env) (λr i=>match r with
     |.ok f=>(match nm with
      |none=>Q f i
      |some n=>wpAny (model X.prog X.w) X.A (do bindName X.env n .none;unbindBehindTheSuite X.env n mL) (λ_ q=>Q f q) X.xe i)
     |.error x=>cameBackBy (model X.prog X.w) X.A X.env X.xe x i) s1)
    (w:WX X σ XE e s1):wpAny (model X.prog X.w) X.A (noteFrame e X.env) (λ_ i=>wpAny (model X.prog X.w) X.A (setFlight e B') (λ_ q=>wpAny (model X.prog X.w) X.A (handleBy e X.env [.ExceptHandler (y'<|.Name t tp) nm (b0::jM) mL]) Q X.xe q) X.xe i) X.xe s1:=by
 obtain⟨j,a,cls,rfl,F,g,hE⟩:=w;obtain⟨C,rfl,hok⟩:=s cls j hE;obtain⟨B,gE,p,L,e1,e2,l⟩:=st;have v:=F.ok.frames;have W:=F.stack;rw[e1]at v W;refine wu v W e2 l g (λb hb=>F.hok.fresh hb) λY x2 f2 k=>?_
 rw[<-e1]at x2;have I2:=F.KB B g x2;refine eY (fs:=fE X.stack) f2 k λu H m t3=>?_
 have z:=I2.KB B f2 H;obtain⟨o,vs,ho,⟨K,I⟩,hd,_⟩:=id m.obj;have S:pS X C a o:=#[K,I,vs,hd];have h:=z.hand B m ho S;have A:=wD h S;refine wpAny_handleBy_cons (codeAny_handlers_test<|jv (X:=X.hand a o) h hg E ?_ y) RG;exact(PySem.W.exm_one (M:=model X.prog X.w) z.lA A.type<|U C hok).here<|go j a C _ hE z m t3
end
section
variable{X:Cx}{E:XK}{tb:TS}{t:Str}{c:Value}{tp mL pos:Pos}{body jM:List Stmt}{b0:Stmt}{i:Nat}{n:Str}{D:Ends}
theorem FA(st:eU X)(Mb:X.calm=G'->X.A.handled=B')(hg:Gl X t)(hm:X.mg t=y' c)(y:(t==("__debug__":Str))=J')
  (hN:X.N.Nodup) (hi:X.N[i]?=y' n) (W:X.env.scope.names.lookup n=y' .local) (L:rG (X.eD<|n8 X E) body tb)
  (hh:∀cls j,E cls B' j->∃C,cls= .ref C/\PySem.W.exmOne X.K (.ref C) c=y' G'/\∀a o,pS X C a o->∃J,rG (X.hand a o) (b0::jM) J/\∀O,O[i]?=y' (y'<|.ref a)->O.length=X.N.length->J {nx:=λ_ _=>False,rt:=D.rt} O j)
   {O:St}  (I:Inv X [] O H s) (h:tb D O H):
  wpAny (model X.prog X.w) X.A (exec (.Try body [.ExceptHandler (y'<|.Name t tp) (y' n) (b0::jM) mL] [] [] pos) X.env) (SP X [] D) X.xe s:=by
 refine wpAny_Try_except<|aav (L [] s O H D (I.eD _) h) (λf s1 z=>?_) λe s1 w=>?_
 ·have g:=z.eQ;cases f with
  |next=>exact wpAny_execs_nil g
  |brk=>exact g
  |cont=>exact g
  |ret v=>exact g
 ·obtain⟨M,P,a1,Qs,e1,F,F1,E1⟩:=w;refine Kk (XE:=λcls j=>E cls B' j) (D:=D) st hg hm y (λC h=>h) (λcls j z=>?_) (λj a C p hE Y Q t2=>?_) #[P,a1,Qs,e1,F,F1,E1]
  ·obtain⟨C,e,k,_⟩:=hh cls j z;exact#[C,e,k]
  ·obtain⟨C',eC,_,Rj⟩:=hh _ j hE;cases eC;refine codeAny_handlers_suite_as<|eY (fs:=fE X.stack) Q t2 λh3 x3 m t3=>?_;have I3:=Y.KB st.pn Q x3;obtain⟨o,U,ho,⟨L9,wz⟩,hd,_⟩:=id m.obj;have S:pS X C a o:=#[L9,wz,U,hd];have O3:=I3.hand st.pn m ho S;refine jL (X:=X.hand a o) (v:=.ref a) O3 hN hi (.inl W) rfl (λs4 I4=>?_)<|.inr W;obtain⟨J,l,Rj⟩:=Rj a o S;have B:i<M.length:=by rw[F.len];exact(W6.mp hi).1
   refine aav (l [] _ _ j _ I4<|Rj _ (by simp[B])<|by rw[Y6];exact F.len) (λf Z z=>?_) λ_ _ z=>z.elim
   cases f with
   |next=>obtain⟨A,O0,I',q⟩:=z;exact q.elim
   |brk=>obtain⟨A,O0,I',q⟩:=z;exact q.elim
   |cont=>obtain⟨A,O0,I',q⟩:=z;exact q.elim
   |ret u=>obtain⟨v,A,O0,I',r,q⟩:=z;have K:=I'.Kn st.pn Mb;obtain⟨m5,x,_⟩:=id K.loc;have b:=K.ok.kind;refine wpAny_nameGoes W x (by rw[b];rfl) λh6 m6 hn6 sb6=>#[v,_,O0,K.Ag st.pn hn6 sb6,r,q]
theorem BO(S:pS X C a o)(K:PySem.W.excIn X.K C FW newId=G')(k:zQ X.K C)(l:Gl X "isinstance")(j:X.mg "isinstance"=B')(U:PE (X.hand a o) (.Name x p1) (i4 i))(hv:PE (X.hand a o) (.Name y p2) (tC v))(w:∀u,RelV v u->u=c)(e:PySem.W.kitOne X.K (.ref C) c=y' b):
  PE (X.hand a o) (.Call (.Name "isinstance" p) [.Name x p1,.Name y p2] [] pos) (λO H Q=>O[i]?=y' (y'<|.ref a)/\Q (.bl b) H):=by
 have J:cc (X.hand a o) (.builtin "isinstance") (λxs H Q=>xs=[.ref a,v]/\Q (.bl b) H):=by
  intro M s O H xs us Q I r #[e1,q];subst e1;obtain⟨h,u2,rfl,r1,r2⟩:=r.two;cases r1;have:=w _ r2;subst this;have g:=I.iq (pins':=[]) λp B=>by cases B
  exact Z6 (Br K k) I.lA (wD g S) e (by intro z;cases z) λtk=>#[.bl b,H,I.tok tk,rfl,q]
 intro M s O H Q I #[Z,Y];exact jF J l j PyProof.Rows.boot_isinstance (bJ U<|bJ hv fS) (by decide) (by decide) rfl rfl M s O H Q I #[_,Z,rfl,Y]
end
theorem HJ{K:PySem.W.Frag}{dV kV p pm Y ct oc:Value}
     (O:K.lookup f=y' #[oc,od,.func<|PySem.W.fnOf name qual params body scope dV kV p pm an Y ct,w5]) (g:PySem.W.codeIn K Y qual=G') (S:fG N ps scope)
  (len:∀U H Q E,sp U H Q E->U.length=ps.length)
  (m:∀(A:Around)(outer:List Env)(s:Shared)(H:Hp)(U:List V)(Q:VK)(E:XK),jb k (A.deeper<|envOfC qual scope s.heap.objs.size f Y)->sp U H Q E->
   ∃t,pP (mv CX P w K mg base N qual scope f Y A outer s H E) body t/\t {nx:=λ_ j=>Q .bj j,rt:=Q} (start N U) H):
  jS P w K mg base CX (k+1) f (PySem.W.fnOf name qual params body scope dV kV p pm an Y ct) ps sp:=by
 refine#[len,λA outer s H args c U Q E hr e0 L r M=>?_];have i:=e0.mod.IF.keeps λb o e=>(e0.bs b o e).1
 have h:∀y∈ps.zip c,scope.names.lookup y.1=y' .local\/(scope.names.lookup y.1=y' .cell/\((cellsFrom (s.heap.objs.size+1) scope.names []).lookup y.1).isSome=G'):=λ#[n,v]F=>by
  rcases S.par n (Zn F).1 with q|q
  ·exact .inl q
  ·exact .inr #[q,Z5 _ _ _<|.inl q]
 refine codeAny_call_function hr.depth (i _ _ O) rfl S.co S.gen rfl (PySem.W.codeRec_of i g)<|L _ _ _ _<|wpAny_newFunctionEnv_cells S.kind h λenv he s1 x=>?_;subst he;refine#[(e0.mod.nolimit.keeps λb o e=>(e0.bs b o e).1).keeps x.toInCall.keep,codeAny_func ?_];obtain⟨t,ht,hq⟩:=m A outer s H U Q E (hr.deeper _) M;have I:Inv (mv CX P w K mg base N qual scope f Y A outer s H E) [] (start N U) H s1:=yD S hr.hd e0 (len _ _ _ _ M) r x;refine aav (ht s1 (start N U) H _ I hq) (λa s' l=>?_) λe s' l=>l
 have fin:∀{σ':St}{j:Hp}{v:V}{u:Value},Inv (mv CX P w K mg base N qual scope f Y A outer s H E) [] σ' j s'->RelV v u->Q v j->CE outer P w H s Q u s':=
  λ {σ' j v u} J rv q=>#[v,j,J.os,J.bare,J.base,J.hok,rv,q]
 cases a with
 |ret u=>obtain⟨v,σ',j,J,rv,q⟩:=l;exact fin J rv q
 |next=>obtain⟨σ',j,J,q⟩:=l;exact fin (v:=V.bj) J rfl q
 |brk=>obtain⟨_,_,_,q⟩:=l;exact q.elim
 |cont=>obtain⟨_,_,_,q⟩:=l;exact q.elim
end L2
end
section
namespace Rx
open PySem PySem.W PySem.Spec PyProof.Rows L2 PySem.SeqAt
def KF(K:Frag)(mg:Str->Option Value)(C:Addr)(ts:List (Str×Bool)):Prop:=excIn K C Ho "ValueError.__new__"=G'/\zQ K C/\
 ∀t b,ts.lookup t=y' b->∃c,(mg t=y' c/\(∃D,c= .ref D)\/mg t=B'/\t="ValueError"/\c= .type "ValueError")/\kitOne K (.ref C) c=y' b/\(b=G'->exmOne K (.ref C) c=y' G')
structure HX(g:G)(xv:Nat->Value)(CX:oo)(k:Nat)(F:FT)(Φ:Fm)(X:Cx):Prop where
 K:Φ.K=X.K
 P:Φ.P=X.prog
 w:Φ.w=X.w
 fx:∃n,FX g xv CX X.prog X.w X.K X.mg X.base n k F
 room:jb k X.A
 cx:CX=uk X.prog X.w
 st:eU X
 xgx:∀e s',n8 X (vR Φ xv) e s'->X.xe e s'
 xk:∀k x ts,g.xs[k]?=y' (x,ts)->∃C,xv k= .ref C/\X.mg x=y' (.ref C)/\KF X.K X.mg C ts
theorem HX.pass(h:HX g xv CX k F Φ X):uw CX X (vR Φ xv):=λM O H s e S I c=>by have J:=h.cx;subst J;exact h.xgx e S<|CN I h.st.pn c
theorem bt(h:PE X e t)(hi:∀O H Q,t' O H Q->t O H Q):PE X e t':=λM s O H Q I q=>h M s O H Q I<|hi O H Q q
theorem vq(h:PT X e t)(hi:∀O H Q,t' O H Q->t O H Q):PT X e t':=λM s O H Q I q=>h M s O H Q I<|hi O H Q q
theorem B4(h:PW X e t)(hi:∀O H Q,t' O H Q->t O H Q):PW X e t':=λwh M s O H Q I q=>h wh M s O H Q I<|hi O H Q q
theorem BL(h:PA X e t)(hi:∀O H Q,t' O H Q->t O H Q):PA X e t':=λpos M s O H Q I q=>h pos M s O H Q I<|hi O H Q q
theorem qG(h:PI X tg e t)(hi:∀O H Q,t' O H Q->t O H Q):PI X tg e t':=λM s O H Q I q=>h M s O H Q I<|hi O H Q q
section
variable{Φ:Fm}{Γ:Gm}{fr:Nat->Bool}{o:Ow}{ρ:ah}{σ:L2.St}{H H':Hp}
theorem EO.sc(h:rE d=G'):EO Φ.K fr o c H d (qR d) H:=#[bc.refl,tP h,λ_=>tP h,λ_=>(tP h).one,λ_ ds e=>by subst e;simp[rE]at h]
theorem EO.uS(e:bc o.d H H1)(h:EO Φ.K fr o c H1 d v H')(A:fresh fr c=G'->∀ds,d= .lst ds->∀a,H1 a=B'->H a=B'):EO Φ.K fr o c H d v H':=
 #[e.trans h.ext,h.val,h.dJ,h.zd,λf ds K=>by
  obtain⟨a,xs,Z,Y,u⟩:=h.fE f ds K;exact#[a,xs,Z,A f ds K a Y,u]]
theorem AO(e:bc X H H1)(U:∀b,X b->∃y,H1 b=y' y)(h:H1 a=B'):H a=B':=by
 cases q:H a with
 |none=>rfl
 |some x=>obtain⟨y,z⟩:=e.al q<|U a;rw[h]at z;cases z
theorem ER.dW(s:ER Φ Γ o ρ S1 σ H1)(e:bc o.d H H1)(h:H1 a=B'):H a=B':=AO e (λb z=>s.al b<|s.da b z) h
theorem EO.keep(h:EO Φ.K fr o c H d v H1)(e:bc o.d H1 H2)(wa:∀b,o.wd b->o.A b):RV Φ.K o.wd H2 v d/\(lk c=0->RV Φ.K o.A H2 v d)/\(lk c<=1->fY Φ.K o.A H2 v d):=by
 have hd:∀b,o.d b->o.wd b:=λb z=>.inr z
 refine#[h.val.mono e hd λ_ z=>z,λl=>(h.dJ l).mono e (λb z=>wa b<|hd b z) λ_ z=>z,λl=>?_];refine(h.zd l).ext e (λb z=>wa b<|hd b z) λds a K ev z=>?_
 subst K ev;obtain⟨b,xs,q,_,n,_⟩:=h.val.lst_inv;cases q;exact n<|.inr z
theorem EO.pr(s:ER Φ Γ o ρ S1 σ H1)(e:bc o.d H H1)(M:ar Φ.K o.wd H1 xs ds)(Z:lk c<=1->pR Φ.K o.A H1 xs ds)(W:lk c=0\/lk c=2)
  (h:PR Φ.K f xs ds H1 d v H2) (A:fresh fr c=G'->f=G'):EO Φ.K fr o c H d v H2/\ER Φ Γ o ρ S1 σ H2:=by
 have g:lk c=0->RV Φ.K o.A H2 v d:=λl=>h.val o.A s.al (Z ⋯)
 refine#[#[e.trans<|bc.of_same h.same,h.val o.wd s.zU M.ones,g,λl=>(g ⋯).one,λb es K=>?_],s.grow h.same];obtain⟨a,k,k1,k2,k3,X⟩:=h.fE (A b) es K;exact#[a,k,k1,s.dW e k2,k3,X o.wd s.zU M.ones,λl=>X o.A s.al<|Z ⋯]
theorem jA{K:Frag}(h:RV K A H v d):RV K N0 H v d:=h.weak λ_ z=>z.elim
theorem IY{K:Frag}(h:ar K A H v d):ar K N0 H v d:=h.weak λ_ z=>z.elim
end
section
variable{X:Cx}{Φ:Fm}{Γ:Gm}{F:FT}{fr:Nat->Bool}
theorem tQ(hd:rE d=G')(h:PE X e (tC<|qR d)):PE X e (bR Φ Γ F fr<|.con d):=bt h λO H Q q=>by obtain⟨o,ρ,S,er,q⟩:=q;exact q _ _ (EO.sc hd) er
theorem kZ(h:mR Ek (aT ρ i) P):∃d,ρ[i]?=y' (y' d)/\P d:=by
 unfold aT at h;split at h
 ·exact#[_,by assumption,h]
 ·exact h.elim
theorem N3(h:PE X e (i4 i))(E:eR Γ i=J'):PE X e (bR Φ Γ F fr<|.var i):=bt h λO H Q q=>by obtain⟨o,ρ,S,er,q⟩:=q;rw[xA,ae]at q;obtain⟨d,hd,q⟩:=kZ q;obtain⟨v,Z,Y⟩:=er.val i d hd;rw[E,aae (by simp)]at Y;exact#[v,Z,q v H #[bc.refl,Y.weak er.gX,λ_=>Y,λ_=>Y.one,λz=>by cases z] er]
theorem NU(h:PE X e (i4 i))(E:eR Γ i=G')(c:Γ.κ≠y' i):PE X e (bR Φ Γ F fr<|.mvr i):=bt h λO H Q q=>by obtain⟨o,ρ,S,er,q⟩:=q;rw[qM,ae]at q;obtain⟨d,hd,q⟩:=kZ q;obtain⟨v,Z,Y⟩:=er.val i d hd;rw[E,aaf rfl]at Y;exact#[v,Z,q v H #[bc.refl,Y.val (er.nd hd c) er.wa er.da,λz=>(by cases z),λ_=>Y.one<|er.nd hd c,λz=>by cases z] er]
theorem lG{r:R Dt}(o:∀k,r≠ .ex k)(h:mR Ek r P):∃d,r= .ok d/\P d:=by
 cases r with
 |ok a=>exact#[a,rfl,h]
 |ex k=>exact absurd rfl<|o k
 |bad=>exact h.elim
theorem dy{r:R α}(h:∀k,r≠ .ex k):∀k,aa b r≠ .ex k:=by
 intro k;cases b
 ·intro z;cases z
 ·exact h k
theorem Jf(o)(d e):∀k,kI o d e≠ .ex k:=by intro k;unfold kI;split<;>first|(intro z;cases z;done)|(split<;>first|(intro z;cases z;done)|(exact dy (λk z=>by cases z) k))
theorem v7(o)(d e):∀k,ck o d e≠ .ex k:=by intro k;unfold ck;split<;>first|(intro z;cases z;done)|(exact dy (λk z=>by cases z) k)|(split<;>first|(intro z;cases z;done)|(exact dy (λk z=>by cases z) k))
theorem uE(ds)(i):∀k,zV ds i≠ .ex k:=by intro k;unfold zV;split<;>(intro z;cases z)
theorem D3(d e):∀k,cq d e≠ .ex k:=by
 intro k;unfold cq;split
 ·exact uE _ _ k
 ·exact uE _ _ k
 ·exact uE _ _ k
 ·intro z;cases z
theorem Fp(d)(lo hi):∀k,eJ d lo hi≠ .ex k:=by intro k;unfold eJ;split<;>first|(intro z;cases z;done)|(exact dy (λk z=>by cases z) k)
theorem Fz(d):∀k,cU d≠ .ex k:=by intro k;unfold cU;split<;>first|(intro z;cases z;done)|(exact dy (λk z=>by cases z) k)
theorem jz{r:R Bool}(o:∀k,r≠ .ex k)(h:mR Ek r P):∃d,r= .ok d/\P d:=by
 cases r with
 |ok a=>exact#[a,rfl,h]
 |ex k=>exact absurd rfl<|o k
 |bad=>exact h.elim
theorem vd:(lk (.bin op a b)=0\/lk (.bin op a b)=2)/\(lk (.bin op a b)<=1->lk a<=1/\lk b<=1):=by
 have e:lk (.bin op a b)=if lk a<=1/\lk b<=1 then 0 else 2:=rfl
 rw[e];split
 ·rename_i h;exact#[.inl rfl,λ_=>h]
 ·exact#[.inr rfl,λz=>⋯]
theorem NP(j:Φ.K=X.K)(m:PE X a (bR Φ Γ F fr a'))(L:PE X b (bR Φ Γ F fr b')):PE X (.BinOp a op b pos) (bR Φ Γ F fr<|.bin op a' b'):=bt (GA (Jh op) m L) λO H Q q=>by
 obtain⟨o,ρ,S,er,q⟩:=q;rw[qL,ae]at q;refine#[o,ρ,S,er,ag q λp _ q x P A s=>?_];rw[ae]at q;refine#[o,ρ,p.2,s,ag q λp2 _ q y n r Z=>?_];rw[ae]at q;obtain⟨z,g,q⟩:=lG (Jf _ _ _) q;obtain⟨k1,k2,k3⟩:=A.keep r.ext er.gX;refine#[p.1,p2.1,z,j▸jA k1,j▸jA r.val,g,λv K pr=>?_];rw[<-j]at pr;obtain⟨e1,e2⟩:=EO.pr Z (A.ext.trans r.ext) (ar.cons k1<|ar.cons r.val ar.nil) (λl=>#[k3 (vd.2 l).1,r.zd (vd.2 l).2,trivial]) vd.1 pr λ_=>rfl
 exact q v K e1 e2
theorem NQ(j:Φ.K=X.K)(J:X.A.units+150<cLine)(E:behindInMarks op b=J')(m:PE X a (bR Φ Γ F fr a'))(L:PE X b (bR Φ Γ F fr b')):PE X (.Compare a [op] [b] pos) (bR Φ Γ F fr<|.cmp op a' b'):=bt (xg (vj op J) m L E) λO H Q q=>by obtain⟨o,ρ,S,er,q⟩:=q;rw[E5,ae]at q;refine#[o,ρ,S,er,ag q λp _ q x P A s=>?_];rw[ae]at q;refine#[o,ρ,p.2,s,ag q λp2 _ q y n r Z=>?_];rw[ae]at q;obtain⟨z,g,q⟩:=jz (v7 _ _ _) q;obtain⟨k1,k2,k3⟩:=A.keep r.ext er.gX;refine#[p.1,p2.1,z,j▸jA k1,j▸jA r.val,g,q _ _ ?_ Z];have:=EO.sc (Φ:=Φ) (fr:=fr) (o:=o) (H:=n) (c:=.cmp op a' b') (d:=.bl z) rfl;exact this.uS (A.ext.trans r.ext) λf=>by cases f
theorem JU(j:Φ.K=X.K)(J:X.A.units+150<cLine)(E:behindInMarks op b=J')(m:PE X a (bR Φ Γ F fr a'))(L:PE X b (bR Φ Γ F fr b')):PT X (.Compare a [op] [b] pos) (gu Φ Γ F<|.cmp op a' b'):=vq (EX (vj op J) m L E) λO H Q q=>by obtain⟨o,ρ,S,er,q⟩:=q;rw[tE,ae]at q;refine#[o,ρ,S,er,ag q λp _ q x P A s=>?_];rw[ae]at q;refine#[o,ρ,p.2,s,ag q λp2 _ q y n r Z=>?_];rw[ae]at q;obtain⟨z,g,q⟩:=jz (v7 _ _ _) q;obtain⟨k1,k2,k3⟩:=A.keep r.ext er.gX;exact#[p.1,p2.1,z,j▸jA k1,j▸jA r.val,g,z,rfl,q _ (A.ext.trans r.ext) Z]
end
section
variable{X:Cx}{Φ:Fm}{Γ:Gm}{F:FT}{fr:Nat->Bool}
theorem ar.emp{K:Frag}(h:ar K A H xs ds):ds.isEmpty=xs.isEmpty:=by
 have:=h.length;cases xs with
 |nil=>cases ds with
  |nil=>rfl
  |cons=>simp at this
 |cons=>cases ds with
  |nil=>simp at this
  |cons=>rfl
theorem NV(m:PE X a (bR Φ Γ F fr a')):PE X (.UnaryOp .USub a pos) (bR Φ Γ F fr<|.neg a'):=bt (Nu Km m) λO H Q q=>by
 obtain⟨o,ρ,S,er,q⟩:=q;rw[E7,ae]at q;refine#[o,ρ,S,er,ag q λp _ q x P A s=>?_];split at q
 ·rename_i i hi;have:=A.val;rw[hi]at this;refine#[i,this.int_inv,q _ _ ?_ s];exact(EO.sc rfl).uS A.ext λf=>by cases f
 ·exact q.elim
theorem Sg(m:PE X a (bR Φ Γ F fr a')):PE X (.UnaryOp .Not a pos) (bR Φ Γ F fr<|.nt a'):=bt (BQ m) λO H Q q=>by
 obtain⟨o,ρ,S,er,q⟩:=q;rw[JI,ae]at q;refine#[o,ρ,S,er,ag q λp _ q x P A s=>?_];split at q
 ·rename_i i hi;have:=A.val;rw[hi]at this;refine#[i,this.bO,q _ _ ?_ s];exact(EO.sc rfl).uS A.ext λf=>by cases f
 ·exact q.elim
theorem NX(m:PT X a (gu Φ Γ F a')):PT X (.UnaryOp .Not a pos) (gu Φ Γ F<|.nt a'):=vq (JC m) λO H Q q=>by obtain⟨o,ρ,S,er,q⟩:=q;rw[E3,ae]at q;exact#[o,ρ,S,er,ag q λp _ q P e1 s=>q _ e1 s]
theorem NO(m:PE X a (bR Φ Γ F fr a'))(L:PE X (.BoolOp .And (b::rest) pos) (bR Φ Γ F fr b')):PE X (.BoolOp .And (a::b::rest) pos) (bR Φ Γ F fr<|.and a' b'):=bt (BN m L) λO H Q q=>by
 obtain⟨o,ρ,S,er,q⟩:=q;rw[E4,ae]at q;refine#[o,ρ,S,er,ag q λp _ q x P A s=>?_];have sc:∀(K:Hp)(t:Bool),bc o.d H K->EO Φ.K fr o (.and a' b') H (.bl t) (.bl t) K:=λK t l=>
  (EO.sc rfl).uS l λf=>by cases f
 split at q
 ·rename_i hi;have:=A.val;rw[hi]at this;refine#[G',this.bO,?_];rw[ae]at q;refine#[o,ρ,p.2,s,ag q λp2 _ q y n r Z=>?_];split at q
  ·rename_i c J;have Y:=r.val;rw[J]at Y;rw[Y.bO];exact q _ _ (sc n c<|A.ext.trans r.ext) Z
  ·exact q.elim
 ·rename_i hi;have:=A.val;rw[hi]at this;exact#[J',this.bO,q _ _ (sc P J' A.ext) s]
 ·exact q.elim
theorem Sh(m:PE X a (bR Φ Γ F fr a'))(L:PE X (.BoolOp .Or (b::rest) pos) (bR Φ Γ F fr b')):PE X (.BoolOp .Or (a::b::rest) pos) (bR Φ Γ F fr<|.or a' b'):=bt (GB m L) λO H Q q=>by
 obtain⟨o,ρ,S,er,q⟩:=q;rw[JJ,ae]at q;refine#[o,ρ,S,er,ag q λp _ q x P A s=>?_];have sc:∀(K:Hp)(t:Bool),bc o.d H K->EO Φ.K fr o (.or a' b') H (.bl t) (.bl t) K:=λK t l=>
  (EO.sc rfl).uS l λf=>by cases f
 split at q
 ·rename_i hi;have:=A.val;rw[hi]at this;refine#[J',this.bO,?_];rw[ae]at q;refine#[o,ρ,p.2,s,ag q λp2 _ q y n r Z=>?_];split at q
  ·rename_i c J;have Y:=r.val;rw[J]at Y;rw[Y.bO];exact q _ _ (sc n c<|A.ext.trans r.ext) Z
  ·exact q.elim
 ·rename_i hi;have:=A.val;rw[hi]at this;exact#[G',this.bO,q _ _ (sc P G' A.ext) s]
 ·exact q.elim
theorem JT(m:PT X a (gu Φ Γ F a'))(L:PW X (.BoolOp .And (b::rest) pos) (gu Φ Γ F b')):PW X (.BoolOp .And (a::b::rest) pos) (gu Φ Γ F<|.and a' b'):=B4 (JD m L) λO H Q q=>by
 obtain⟨o,ρ,S,er,q⟩:=q;rw[B5,ae]at q;refine#[o,ρ,S,er,ag q λp _ q P e1 s=>?_];cases B:p.1 with
 |true=>rw[B]at q;rw[aaf rfl];exact#[o,ρ,p.2,s,ag q λp2 _ q n e2 Z=>q _ (e1.trans e2) Z]
 |false=>rw[B]at q;rw[aae (by simp)];exact q _ e1 s
theorem NY(m:PT X a (gu Φ Γ F a'))(L:PW X (.BoolOp .Or (b::rest) pos) (gu Φ Γ F b')):PW X (.BoolOp .Or (a::b::rest) pos) (gu Φ Γ F<|.or a' b'):=B4 (Nz m L) λO H Q q=>by
 obtain⟨o,ρ,S,er,q⟩:=q;rw[lO,ae]at q;refine#[o,ρ,S,er,ag q λp _ q P e1 s=>?_];cases B:p.1 with
 |false=>rw[B]at q;rw[aae (by simp)];exact#[o,ρ,p.2,s,ag q λp2 _ q n e2 Z=>q _ (e1.trans e2) Z]
 |true=>rw[B]at q;rw[aaf rfl];exact q _ e1 s
theorem Bv:(lk (.idx a b)=0\/lk (.idx a b)=2)/\(lk (.idx a b)<=1->lk a<=1):=by
 have e:lk (.idx a b)=if lk a<=1 then 0 else 2:=rfl
 rw[e];split
 ·rename_i h;exact#[.inl rfl,λ_=>h]
 ·exact#[.inr rfl,λz=>⋯]
theorem NR(j:Φ.K=X.K)(hs:pQ b)(m:PE X a (bR Φ Γ F fr a'))(L:PE X b (bR Φ Γ F fr b')):PE X (.Subscript a b pos) (bR Φ Γ F fr<|.idx a' b'):=bt (Nt Iw m L hs) λO H Q q=>by
 obtain⟨o,ρ,S,er,q⟩:=q;rw[xy,ae]at q;refine#[o,ρ,S,er,ag q λp _ q x P bp s=>?_];rw[ae]at q;refine#[o,ρ,p.2,s,ag q λp2 _ q y n r Z=>?_];rw[ae]at q;obtain⟨z,g,q⟩:=lG (D3 _ _) q;obtain⟨k1,k2,k3⟩:=bp.keep r.ext er.gX;refine#[p.1,p2.1,z,j▸jA k1,j▸jA r.val,g,λv pr=>?_];rw[<-j]at pr;have k:∃i,p2.1= .int i:=by
  cases hd:p2.1 with
  |int i=>exact#[i,rfl]
  |_=>rw[hd]at g;unfold cq at g;split at g<;>first|(rename_i h;cases h;done)|(cases g;done)|contradiction
 obtain⟨i,hi⟩:=k;have c:∀A:Addr->Prop,fY Φ.K A n y p2.1:=λA=>by have:=r.val;rw[hi]at this ⊢;rw[this.int_inv];exact(RV.eh).one
 obtain⟨e1,e2⟩:=EO.pr Z (bp.ext.trans r.ext) (ar.cons k1<|ar.cons r.val ar.nil) (λl=>#[k3<|Bv.2 l,c _,trivial]) Bv.1 pr λz=>by cases z
 exact q v n e1 e2
theorem lN(j:Φ.K=X.K)(m:PE X a (bR Φ Γ F fr a'))(K:∀c,isTrue a X.env c=(do let v<-c;standAt a.pos;holding [v] (truthy v)))
  (w:∀ρ S,cg F a' ρ S=(ev F a' ρ S).bind λx=>(cU x.1).bind λb=>.ok (b,x.2)):PT X a (gu Φ Γ F a'):=vq (B3 m K) λO H Q q=>by
 obtain⟨o,ρ,S,er,q⟩:=q;rw[w,ae]at q;refine#[o,ρ,S,er,ag q λp _ q x P A s=>?_];rw[ae]at q;obtain⟨b,L,q⟩:=jz (Fz _) q;refine#[b,?_,q _ A.ext s];have M:=A.val;rw[j]at M;unfold cU at L;split at L
 ·rename_i hd;rw[hd]at M;cases L;rw[M.dR];rfl
 ·rename_i hd;rw[hd]at M;cases L;rw[M.bO];rfl
 ·rename_i hd;rw[hd]at M;cases L;rw[M.int_inv];rfl
 ·rename_i hd;rw[hd]at M;obtain⟨I,L⟩:=aP L;cases L;rw[M.str_inv];exact#[Xf (W5 I) gL,rfl]
 ·rename_i hd;rw[hd]at M;cases L;obtain⟨a,xs,rfl,Z,_,Y⟩:=M.lst_inv;refine .inl #[xs,cX.of Z,?_];rw[Y.emp]
 ·rename_i hd;rw[hd]at M;cases L;obtain⟨a,xs,rfl,Z,Y⟩:=M.au;refine .inr<|.inl #[xs,fD.of Z,?_];rw[Y.emp]
 ·rename_i hd;rw[hd]at M;cases L;obtain⟨a,rfl,Z⟩:=M.kv;refine .inl #[_,Z,?_];simp
 ·cases L
end
section
variable{X:Cx}{Φ:Fm}{Γ:Gm}{F:FT}{fr:Nat->Bool}
theorem II{a b:C}(J:lk c=if lk a<=1 then 0 else 2):(lk c=0\/lk c=2)/\(lk c<=1->lk a<=1):=by
 rw[J];split
 ·rename_i h;exact#[.inl rfl,λ_=>h]
 ·exact#[.inr rfl,λz=>⋯]
theorem wt{lo hi:Option Int}(j:Φ.K=X.K)(J:lk c=if lk a'<=1 then 0 else 2)(A:fresh fr c=G'->True)(er:ER Φ Γ o ρ S σ H2)(bp:EO Φ.K fr o a' H d x H1)(e:bc o.d H1 H2)
  (q:mR Φ.Ek (eJ d lo hi) λz=>∀v K,EO Φ.K fr o c H z v K->ER Φ Γ o ρ S σ K->Q v K):rS X.K x lo hi H2 Q:=by
 obtain⟨z,g,q⟩:=lG (Fp _ _ _) q;obtain⟨k1,k2,k3⟩:=bp.keep e er.gX;refine#[d,z,j▸jA k1,g,λv K pr=>?_];rw[<-j]at pr;have W:=II (b:=c) J;obtain⟨e1,e2⟩:=EO.pr er (bp.ext.trans e) (ar.cons k1 ar.nil) (λl=>#[k3<|W.2 l,trivial]) W.1 pr λ_=>rfl
 exact q v K e1 e2
theorem J1(j:Φ.K=X.K)(m:PE X a (bR Φ Γ F fr a'))(W:PE X l (bR Φ Γ F fr l')):PE X (.Subscript a (.Slice (y' l) B' B' p2) pos) (bR Φ Γ F fr<|.sliL a' l'):=bt (tm Co m (xo W) xm) λO H Q q=>by
 obtain⟨o,ρ,S,er,q⟩:=q;rw[Cb,ae]at q;refine#[o,ρ,S,er,ag q λp _ q x P A s=>?_];rw[ae]at q;refine#[o,ρ,p.2,s,ag q λp2 _ q y n r Z=>?_];split at q
 ·rename_i i hi;have M:=r.val;rw[hi]at M;refine#[i,M.int_inv,?_];rw[ae]at q;exact wt j (rfl) (λ_=>trivial) Z A r.ext<|ag q λz _ q v K e1 e2=>q v K e1 e2
 ·exact q.elim
theorem J0(j:Φ.K=X.K)(m:PE X a (bR Φ Γ F fr a'))(W:PE X l (bR Φ Γ F fr l')):PE X (.Subscript a (.Slice B' (y' l) B' p2) pos) (bR Φ Γ F fr<|.sliH a' l'):=bt (tm Co m xm<|xo W) λO H Q q=>by
 obtain⟨o,ρ,S,er,q⟩:=q;rw[Ca,ae]at q;refine#[o,ρ,S,er,ag q λp _ q x P A s=>?_];rw[ae]at q;refine#[o,ρ,p.2,s,ag q λp2 _ q y n r Z=>?_];split at q
 ·rename_i i hi;have M:=r.val;rw[hi]at M;refine#[i,M.int_inv,?_];rw[ae]at q;exact wt j (rfl) (λ_=>trivial) Z A r.ext<|ag q λz _ q v K e1 e2=>q v K e1 e2
 ·exact q.elim
theorem NW:PA X [] (nS Φ Γ F .nil):=BL fS λO H Q q=>by obtain⟨o,ρ,S,er,q⟩:=q;exact q _ _ #[bc.refl,ar.nil,λ_=>ar.nil,λ_=>trivial] er
theorem JV(hs:starEach (e::es) X.env=(J',eval e X.env)::starEach es X.env)(h:PE X e (bR Φ Γ F fr c))(w:PA X es (nS Φ Γ F cs)):PA X (e::es) (nS Φ Γ F<|.cons c cs):=BL (bJ h w hs) λO H Q q=>by obtain⟨o,ρ,S,er,q⟩:=q;rw[ko,ae]at q;refine#[o,ρ,S,er,ag q λp _ q x P A s=>?_];rw[ae]at q;refine#[o,ρ,p.2,s,ag q λp2 _ q xs n r Z=>?_];obtain⟨k1,k2,k3⟩:=A.keep r.ext er.gX;have t:rD (.cons c cs)=max (lk c) (rD cs):=rfl;exact q _ _ #[A.ext.trans r.ext,ar.cons k1 r.val,λl=>ar.cons (k2<|by omega)<|r.dJ<|by omega,λl=>#[k3<|by omega,r.zd<|by omega]] Z
theorem Gv(J:lk c=if rD cs=0 then 0 else 2):(lk c<=1->lk c=0)/\(lk c=0->rD cs=0):=by
 rw[J];split
 ·rename_i h;exact#[λ_=>rfl,λ_=>h]
 ·exact#[λz=>⋯,λz=>⋯]
theorem N2(h:PA X es (nS Φ Γ F cs)):PE X (.Tuple es x1 pos) (bR Φ Γ F fr<|.tup cs):=bt (Js h) λO H Q q=>by
 obtain⟨o,ρ,S,er,q⟩:=q;rw[E8,ae]at q;refine#[o,ρ,S,er,ag q λp _ q xs P A aG=>?_];obtain⟨I,q⟩:=aM q;refine#[by rw[A.val.length];exact Xf (W5 I) gL,λa m=>?_];have s:=Mx.dB m<|.tup xs;have W:=Gv (c:=.tup cs)<|rfl;have g:lk (.tup cs)=0->RV Φ.K o.A (upd P a<|.tup xs) (.ref a) (.tup p.1):=λl=>RV.iU aQ ((A.dJ<|W.2 l).same s)
 exact q _ _ #[A.ext.trans<|bc.of_same s,RV.iU aQ<|A.val.same s,g,λl=>(g<|W.1 l).one,λz=>by cases z]<|aG.grow s
theorem NT(h:PA X es (nS Φ Γ F cs)):PE X (.List es pos) (bR Φ Γ F fr<|.lst cs):=bt (BP h) λO H Q q=>by
 obtain⟨o,ρ,S,er,q⟩:=q;rw[E6,ae]at q;refine#[o,ρ,S,er,ag q λp _ q xs P A aG=>?_];obtain⟨I,q⟩:=aM q;refine#[by rw[A.val.length];exact Xf (W5 I) gL,λa m=>?_];have s:=Mx.dB m<|.lst xs;have W:=Gv (c:=.lst cs)<|rfl;have na:¬o.A a:=λz=>by obtain⟨y,hy⟩:=aG.al a z;rw[m]at hy;cases hy
 have g:lk (.lst cs)=0->RV Φ.K o.A (upd P a<|.lst xs) (.ref a) (.lst p.1):=λl=>RV.fR aQ na ((A.dJ<|W.2 l).same s)
 refine q _ _ #[A.ext.trans<|bc.of_same s,RV.fR aQ (λz=>na<|aG.gX a z)<|A.val.same s,g,λl=>(g<|W.1 l).one,λ_ ds e=>?_]<|aG.grow s;cases e;exact#[a,xs,rfl,aG.dW A.ext m,aQ,(A.val.avoid m).same s,λl=>((A.dJ<|W.2 l).avoid m).same s]
theorem Hh(b)(ds):∀k,cG b ds≠ .ex k:=by
 intro k;unfold cG;split<;>split
 all_goals first
  |(intro z;cases z;done)
  |(exact dy (λk z=>by cases z) k)
  |(split<;>first|(intro z;cases z;done)|(exact dy (λk z=>by cases z) k)|(split<;>first|(intro z;cases z;done)|(exact dy (λk z=>by cases z) k)))
  |(rename_i T d;unfold yE;split<;>(intro z;cases z))
theorem Gw:(lk (.bi b cs)=0\/lk (.bi b cs)=2)/\(lk (.bi b cs)<=1->rD cs<=1):=by
 have e:lk (.bi b cs)=if rD cs<=1 then 0 else 2:=rfl
 rw[e];split
 ·rename_i h;exact#[.inl rfl,λ_=>h]
 ·exact#[.inr rfl,λz=>⋯]
theorem AS(j:Φ.K=X.K)(q:bR Φ Γ F fr (.bi b cs) σ H Q):Sn (rP X.K G'<|cG b) (nS Φ Γ F cs) σ H Q:=by
 obtain⟨o,ρ,S,er,q⟩:=q;rw[qK,ae]at q;refine#[o,ρ,S,er,ag q λp _ q xs P A s=>?_];rw[ae]at q;obtain⟨z,g,q⟩:=lG (Hh _ _) q;refine#[p.1,z,j▸IY A.val,g,λv K pr=>?_];rw[<-j]at pr;obtain⟨e1,e2⟩:=EO.pr s A.ext A.val (λl=>A.zd<|Gw.2 l) Gw.1 pr λ_=>rfl
 exact q v K e1 e2
end
def Cs.len:Cs->Nat
 |.nil=>0
 |.cons _ cs=>cs.len+1
theorem qe:∀{w:Cs}{ρ:ah}{S:Sx}{p:List Dt×Sx},fK F w ρ S= .ok p->p.1.length=w.len
 |.nil,ρ,S,p,h=>by rw[tK]at h;cases h;rfl
 |.cons c w,ρ,S,p,h=>by
  rw[ko]at h;cases Z:ev F c ρ S with
  |ok x=>
   rw[Z]at h;simp only[R.ao]at h;cases Y:fK F w ρ x.2 with
   |ok y=>rw[Y]at h;cases h;simp[Cs.len,qe Y]
   |ex k=>rw[Y]at h;cases h
   |bad=>rw[Y]at h;cases h
  |ex k=>rw[Z]at h;cases h
  |bad=>rw[Z]at h;cases h
section
variable{X:Cx}{Φ:Fm}{Γ:Gm}{F:FT}{g:G}{xv:Nat->Value}{CX:oo}{k:Nat}
theorem rY(e:bc (λb=>(B':Option Addr)=y' b) H H'):bT H H':=λb o h=>e.kp b o h (by simp)
theorem vz{K:Frag}:∀{ds:List Dt},ds.all rE=G'->ar K A H (ds.map qR) ds
 |[],_=>ar.nil
 |d::ds,h=>by rw[YD,W3]at h;exact ar.cons (tP h.1)<|vz h.2
theorem s_call(r:HX g xv CX k F Φ X)(h:Gl X x)(qp:(x==("__debug__":Str))=J')(zA:sg x g.fns=y' (f,np,fJ,J'))(hj:j<=fJ.length)(I:cs.len+(fJ.drop j).length=np)
  (l:starEach (e::es) X.env=(J',eval e X.env)::starEach es X.env) (i:(backTo pos<|starEach es X.env).any (·.1)=J') (m:PA X (e::es) (nS Φ Γ F cs)):PE X (.Call (.Name x p) (e::es) [] pos) (bR Φ Γ F g.fr<|.call f cs<|fJ.drop j):=by
 obtain⟨n,fx⟩:=r.fx;obtain⟨fa,fd,ps,VH,c,Q6,hok,L,TN⟩:=fx.fn x f np fJ J' zA;obtain⟨wg,M,QV⟩:=L j hj;refine bt (xf hok r.room h c Q6 QV M r.pass m qp l i) λO H Q q=>?_
 obtain⟨o,ρ,S,er,q⟩:=q;rw[tF,ae]at q;refine#[o,ρ,S,er,ag q λp B q U P A s=>?_];have TQ:(fJ.drop j).all rE=G':=XF.mpr λd hd=>XF.mp TN d (List.mem_of_mem_drop hd)
 have t:lk (.call f cs<|fJ.drop j)=if rD cs=0 then 0 else 2:=rfl
 refine#[?_,?_]
 ·rw[Xk,A.val.length,Xd,qe B];exact I
 by_cases W:rD cs=0
 ·rw[aaf W]at t;refine#[o.A,B',p.1++fJ.drop j,B',U++(fJ.drop j).map qR,#[rfl,rfl,rfl],?_,s.al,?_]
  ·rw[<-r.K];exact(A.dJ W).append<|vz TQ
  ·cases w:F f (p.1++fJ.drop j) B' with
   |ok y=>rw[w]at q;intro v H' E;rw[<-r.K]at E;have sm:=rY E.ext;refine q v H' #[A.ext.trans<|bc.of_same sm,E.val.weak s.gX,λ_=>E.val,λ_=>E.val.one,λfc ds K=>?_]<|s.grow sm;obtain⟨a,xs,Z,Y,u,h4⟩:=E.fE fc ds K;exact#[a,xs,Z,s.dW A.ext Y,u,h4.weak λb z=>z.elim (λz=>.inl<|s.gX b z) .inr,λ_=>h4]
   |ex kk=>rw[w]at q;intro H' J;exact#[kk,rfl,q,s.ent.trans<|J.mono λb z=>by cases z]
   |bad=>rw[w]at q;exact q.elim
 ·rw[aae W]at t;refine#[o.wd,B',p.1++fJ.drop j,B',U++(fJ.drop j).map qR,#[rfl,rfl,rfl],?_,s.zU,?_]
  ·rw[<-r.K];exact A.val.append<|vz TQ
  ·cases w:F f (p.1++fJ.drop j) B' with
   |ok y=>rw[w]at q;intro v H' E;rw[<-r.K]at E;have sm:=rY E.ext;refine q v H' #[A.ext.trans<|bc.of_same sm,E.val,λz=>by rw[t]at z;lia,λz=>by rw[t]at z;lia,λfc ds K=>?_]<|s.grow sm;obtain⟨a,xs,Z,Y,u,h4⟩:=E.fE fc ds K;exact#[a,xs,Z,s.dW A.ext Y,u,h4,λz=>by rw[t]at z;lia]
   |ex kk=>rw[w]at q;intro H' J;exact#[kk,rfl,q,s.ent.trans<|J.mono λb z=>by cases z]
   |bad=>rw[w]at q;exact q.elim
theorem Fi(r:HX g xv CX k F Φ X)(hG:Gl X x)(qp:(x==("__debug__":Str))=J')(u:sg x g.fns=y' (f,np,fJ,G'))(t:Γ.δ=y' i)(I:cs.len+1=np)(W:rD cs=0)
  (hy:PE X (.Name y yp) (i4 i)) (l:starEach (.Name y yp::es) X.env=(J',eval (.Name y yp) X.env)::starEach es X.env) (oE:(backTo pos<|starEach es X.env).any (·.1)=J') (m:PA X es (nS Φ Γ F cs)):
  PE X (.Call (.Name x p) (.Name y yp::es) [] pos) (bR Φ Γ F g.fr<|.callD f cs):=by
 obtain⟨n,fx⟩:=r.fx;obtain⟨fa,fd,ps,VH,hmg,Q6,hok,L,TN⟩:=fx.fn x f np fJ G' u;obtain⟨wg,M,QV⟩:=L fJ.length<|W9 _;rw[List.drop_length]at M;have Q9:wg=[]:=by cases M;rfl
 subst Q9;refine bt (xf hok r.room hG hmg Q6 QV .nil r.pass (bJ hy m l) qp l oE) λO H Q q=>?_
 obtain⟨o,ρ,S,er,q⟩:=q;obtain⟨gS,q⟩:=aM q;rw[ae]at q;cases c:o.dr with
 |none=>have:=er.drn c;subst this;cases gS
 |some a=>
  refine#[.ref a,er.drs i a t c,o,ρ,S,er,ag q λp B q U P A s=>?_];obtain⟨ss,Z,Y⟩:=s.drw a c;rw[Z]at q;simp only at q;refine#[?_,o.A,y' a,p.1,y' ss,U,#[a,ss,by rw[XM],rfl,s.da a c,rfl,Y],r.K▸A.dJ W,s.al,?_]
  ·show ((V.ref a::U)++[]).length=np;rw[XM,Xm,A.val.length,qe B];exact I
  ·cases hr:F f p.1 (y' ss) with
   |ok y=>
    rw[hr]at q;intro v j E;rw[<-r.K]at E;have K:=E.ext.mono λb z=>by show o.dr=y' b;rw[c];exact z
    refine q v j #[A.ext.trans K,E.val.weak s.gX,λ_=>E.val,λ_=>E.val.one,λfc ds K=>?_]<|s.step K (λb L=>?_) λz=>by rw[c]at z;cases z
    ·obtain⟨a',zJ,yt,yu,HR,Ti⟩:=E.fE fc ds K;exact#[a',zJ,yt,s.dW A.ext yu,HR,Ti.weak λb z=>z.elim (λz=>.inl<|s.gX b z) .inr,λ_=>Ti]
    ·rw[c]at L;cases L;exact E.drw a rfl
   |ex kk=>
    rw[hr]at q;intro j J;refine#[kk,rfl,q,#[λb x h n=>?_,λb xs h=>J.tp _ _<|s.ent.tp b xs h]];refine J.kp _ _ (s.ent.kp b x h n) λz=>?_
    rcases s.dr0 b (c.trans z)with w|w
    ·exact n w
    ·rw[h]at w;cases w
   |bad=>rw[hr]at q;exact q.elim
theorem su:∀(ns:List Int),ns≠[]->ns[ns.length-1]?=y' (ns.getLastD 0)
 |[],h=>absurd rfl h
 |a::r,_=>by rw[List.getLastD_eq_getLast?,List.getLast?_eq_getElem?];simp
theorem JX(j:Φ.K=X.K)(t:Γ.δ=y' i)(hy:PE X (.Name y yp) (i4 i))(k:(apos.endLine==pos.line)=G'):PE X (.Call (.Attribute (.Name y yp) "pop" apos) [] [] pos) (bR Φ Γ F g.fr .popD):=by
 refine bt (vm PySem.F.plainAttrs_list PySem.F.slot_list_pop PySem.F.type_list_pop IX hy rfl k) λO H Q q=>?_
 obtain⟨o,ρ,S,er,q⟩:=q;cases c:o.dr with
 |none=>rw[er.drn c]at q;exact q.elim
 |some a=>
  obtain⟨ns,Z,Y⟩:=er.drw a c;subst Z;obtain⟨m,q⟩:=aM q;have cH:ns≠[]:=λe=>by rw[e]at m;cases m
  refine#[.ref a,er.drs i a t c,.inl #[rfl,_,cX.of Y],a,_,.int<|ns.getLastD 0,rfl,rfl,Y,?_,?_]
  ·rw[Xd,Xn,su ns cH];rfl
  have l:(ns.map V.int).dropLast=ns.dropLast.map V.int:=by rw[List.map_dropLast]
  rw[l];have e:bc o.d H (upd H a<|.lst<|ns.dropLast.map V.int):=#[λb x h n=>by rw[aN (λz=>n<|by rw[z];exact c)];exact h,λb xs h=>by rw[aN (λz=>by rw[z,Y]at h;cases h)];exact h];refine q _ _ ?_<|er.step e (λb L=>?_) λz=>by rw[c]at z;cases z
  ·exact(EO.sc rfl).uS e λf=>by cases f
  ·rw[c]at L;cases L;exact#[_,rfl,aQ]
theorem JW(t:Γ.δ=y' i)(h:Gl X "len")(E:X.mg "len"=B')(hy:PE X (.Name y yp) (i4 i)):PE X (.Call (.Name "len" p) [.Name y yp] [] pos) (bR Φ Γ F g.fr .lenD):=by
 refine bt (jF pZ h E PySem.boot_len<|bJ hy fS) λO H Q q=>?_
 obtain⟨o,ρ,S,er,q⟩:=q;cases c:o.dr with
 |none=>rw[er.drn c]at q;exact q.elim
 |some a=>obtain⟨ns,Z,Y⟩:=er.drw a c;subst Z;refine#[.ref a,er.drs i a t c,a,_,rfl,.inl<|cX.of Y,?_];rw[Xd];exact q _ _ (EO.sc rfl) er
theorem DA{T:String}(h:vJ t=y' T):bootBuiltins t=y' (.type T):=by
 unfold vJ at h;split at h
 ·rename_i e;cases h;rw[Xr e];exact PyProof.Rows.boot_str
 split at h
 ·rename_i e;cases h;rw[Xr e];exact PyProof.Rows.boot_int
 split at h
 ·rename_i e;cases h;rw[Xr e];exact PyProof.Rows.boot_bool
 split at h
 ·rename_i e;cases h;rw[Xr e];exact PyProof.Rows.boot_list
 split at h
 ·rename_i e;cases h;rw[Xr e];exact PyProof.Rows.boot_tuple
 ·cases h
theorem FD{T:String}(h:vJ t=y' T):T="str"\/T="int"\/T="bool"\/T="list"\/T="tuple":=by
 unfold vJ at h;split at h
 ·cases h;simp
 split at h
 ·cases h;simp
 split at h
 ·cases h;simp
 split at h
 ·cases h;simp
 split at h
 ·cases h;simp
 ·cases h
theorem Iv{K:Frag}{T:String}(i:T="str"\/T="int"\/T="bool"\/T="list"\/T="tuple")(U:RV K A H x d)(h:yE T d= .ok b):∃t,jd K H x t/\PySem.W.kitOne K t (.type T)=y' b:=by
 unfold yE at h;split at h
 ·cases h;rw[U.str_inv];refine#[_,.str _,?_];rcases i with rfl|rfl|rfl|rfl|rfl<;>rfl
 ·cases h;rw[U.int_inv];refine#[_,.int _,?_];rcases i with rfl|rfl|rfl|rfl|rfl<;>rfl
 ·cases h;rw[U.bO];refine#[_,.bl _,?_];rcases i with rfl|rfl|rfl|rfl|rfl<;>rfl
 ·cases h;obtain⟨a,xs,rfl,Z,_⟩:=U.lst_inv;refine#[_,.lst Z,?_];rcases i with rfl|rfl|rfl|rfl|rfl<;>rfl
 ·cases h;obtain⟨a,xs,rfl,Z,_⟩:=U.au;refine#[_,.tup Z,?_];rcases i with rfl|rfl|rfl|rfl|rfl<;>rfl
 ·cases h;rw[U.dR];refine#[_,.bj,?_];rcases i with rfl|rfl|rfl|rfl|rfl<;>rfl
 ·cases h;obtain⟨a,xs,rfl,Z,_⟩:=U.lJ;refine#[_,.dK Z,?_];rcases i with rfl|rfl|rfl|rfl|rfl<;>rfl
 ·cases h
theorem D8(T)(d):∀k,yE T d≠ .ex k:=by intro k;unfold yE;split<;>(intro z;cases z)
theorem NS{T:String}(j:Φ.K=X.K)(h:Gl X "isinstance")(E:X.mg "isinstance"=B')(c:Gl X t)(k:X.mg t=B')(i:vJ t=y' T)(I:t≠"__name__")(y:(t==("__debug__":Str))=J')
  (l:starEach (a::[.Name t tp]) X.env=(J',eval a X.env)::starEach [.Name t tp] X.env) (m:PE X a (bR Φ Γ F g.fr a')):PE X (.Call (.Name "isinstance" p) [a,.Name t tp] [] pos) (bR Φ Γ F g.fr<|.bi (.isi T)<|.cons a' .nil):=by
 refine bt (jF Mx.As h E PyProof.Rows.boot_isinstance (bJ m (bJ (xc (v:=.ty T) c k (DA i) rfl I y) fS) l) (by decide) (by decide) l) λO H Q q=>?_
 obtain⟨o,ρ,S,er,q⟩:=q;rw[qK]at q;simp only[ko,tK]at q;rw[ae,ae]at q;refine#[o,ρ,S,er,ag q λp B q x P A s=>?_];have q:mR Φ.Ek ((cG (.isi T) [p.1]).bind λd=>R.ok (d,p.2)) _:=q;unfold cG at q;rw[ae,ae]at q;obtain⟨b,L,q⟩:=jz (D8 _ _) q;obtain⟨ty,k1,k2⟩:=Iv (FD i) (j▸A.val) L;refine#[x,T,ty,b,rfl,k1,k2,q _ _ ?_ s];exact(EO.sc rfl).uS A.ext λf=>by cases f
end
def Rr(K:Frag)(b:TE):TI:=λO H R=>b O H λx P=>(∃a xs,x= .ref a/\cX K P a xs/\R (O4 K a) P)\/(∃a xs,x= .ref a/\fD K P a xs/\R (P8 K a) P)\/∃z,x= .str z/\R (Mx.O6 z) P
theorem Jv(W:PE X l tl):PI X tg l (Rr X.K tl):=by
 intro M s O H R I h;refine b9 (W M s O H _ I h) λv s1#[x,P,F,B,S]=>?_
 rcases S with ⟨a,xs,e,K,q⟩|⟨a,xs,e,K,q⟩|⟨z,e,q⟩
 ·subst e;cases B;obtain⟨E,rv,p,g⟩:=F.list K;refine aaz p.isList ?_;refine#[s1.heap.objs.size,[s1.heap.objs.size],_,_,P,rfl,F.kept λb o e=>W1 _ e,zh a _,#[_,Xb _ rfl,rfl,rfl],λb L=>?_,q];have e:b=s1.heap.objs.size:=by simpa using L
  subst e;exact F.qo (W9 _)<|F.hok.fresh<|W9 _
 ·subst e;cases B;obtain⟨E,rv,p,g⟩:=F.tuple K;refine aaA (p) ?_;refine#[s1.heap.objs.size,[s1.heap.objs.size],_,_,P,rfl,F.kept λb o e=>W1 _ e,vI a _,#[_,Xb _ rfl,rfl,rfl],λb L=>?_,q];have e:b=s1.heap.objs.size:=by simpa using L
  subst e;exact F.qo (W9 _)<|F.hok.fresh<|W9 _
 ·subst e;obtain⟨t,rfl⟩:=B;exact Mx.BV F q
section
variable{X:Cx}{Φ:Fm}{Γ:Gm}{F:FT}{g:G}{k:Nat}{K:Frag}
theorem xU(m:H a=y' (.lst xs))(I:¬Y a)(E:∀b,Y b->A b)(h:ar K A H xs ds):Wk K A Y (O4 K a) H ds where
 go:=λi P hi e=>#[xs,xs[i]'(by rw[h.length];exact hi),cX.of<|e.kp _ _ m I,by simp]
 stop:=λP e=>#[xs,cX.of<|e.kp _ _ m I,by rw[h.length];exact W9 _]
 yld:=λi x P n hi e y=>by obtain⟨rfl,y⟩:=y;obtain⟨d,Z,h2⟩:=h.get<|y xs<|cX.of<|e.kp _ _ m I;exact#[bT.refl _,d,Z,λB F=>(h2.cL (B:=λb=>A b\/B b) λb z=>z.elim .inl<|F b).mono e (λb z=>.inl<|E b z) λ_ z=>.inr z]
theorem vN(m:H a=y' (.tup xs))(E:∀b,Y b->A b)(h:ar K A H xs ds):Wk K A Y (P8 K a) H ds where
 go:=λi P hi e=>#[xs,xs[i]'(by rw[h.length];exact hi),fD.of<|e.tp _ _ m,by simp]
 stop:=λP e=>#[xs,fD.of<|e.tp _ _ m,by rw[h.length];exact W9 _]
 yld:=λi x P n hi e y=>by obtain⟨rfl,y⟩:=y;obtain⟨d,Z,h2⟩:=h.get<|y xs<|fD.of<|e.tp _ _ m;exact#[bT.refl _,d,Z,λB F=>(h2.cL (B:=λb=>A b\/B b) λb z=>z.elim .inl<|F b).mono e (λb z=>.inl<|E b z) λ_ z=>.inr z]
theorem vO:Wk K A Y (Mx.O6 z) H (z.cps.toList.map λc=>.str ⟨#[c]⟩) where
 go:=λi P hi e=>by rw[Xd,Xo]at hi;exact hi
 stop:=λP e=>by rw[Xd,Xo];exact W9 _
 yld:=λi x P n hi e y=>by obtain⟨rfl,c,Z,rfl⟩:=y;exact#[bT.refl _,.str ⟨#[c]⟩,by rw[Xn,Array.getElem?_toList,Z];rfl,λ_ _=>RV.qB]
theorem CK{ns:List Int}(ha:(Rd H a (.lst<|ns.map V.int)/\¬Y a)\/KL K a (ns.map V.int)):Wk K A Y (O4 K a) H (ns.map Dt.int):=by
 have sq:∀P,bc Y H P->cX K P a (ns.map V.int):=λP e=>by
  rcases ha with ⟨h,n⟩|h
  ·exact .inl<|JL e n h
  ·exact .inr h
 refine#[λi P hi e=>?_,λP e=>#[_,sq P e,by simp],λi x P H2 hi e y=>?_]
 ·rw[Xd]at hi;exact#[_,.int ns[i],sq P e,by simp[hi]]
 ·obtain⟨rfl,y⟩:=y;have:=y _<|sq _ e;rw[Xn]at this;obtain⟨m,Z,rfl⟩:=Xj.mp this;exact#[bT.refl _,.int m,by simp[Z],λ_ _=>RV.eh]
theorem vL{lo:Int}:Wk K A Y (O5 lo n) H (bu lo n) where
 go:=λi P hi e=>by unfold bu at hi;simp at hi;exact hi
 stop:=λP e=>by unfold bu;simp only[Xd,Y3];exact W9 _
 yld:=λi x P H2 hi e y=>by obtain⟨rfl,rfl⟩:=y;unfold bu at hi;simp at hi;exact#[bT.refl _,.int<|lo+i,by unfold bu;simp[hi],λ_ _=>RV.eh]
theorem NZ(j:Φ.K=X.K)(m:PE X a (bR Φ Γ F g.fr a')):PI X tg a (nR Φ Γ F<|.seq a'):=qG (Jv m) λO H Q q=>by
 obtain⟨o,ρ,S,er,q⟩:=q;rw[yW,ae]at q;refine#[o,ρ,S,er,ag q λp K q x P A s=>?_];have c:rB (.seq a')=lk a':=rfl;cases hd:p.1 with
 |lst ds=>
  rw[hd]at q;have M:=A.val;have h0:=A.dJ;have Z:=A.zd;rw[hd]at M h0 Z;obtain⟨b,xs,rfl,r,fn,f2⟩:=M.lst_inv;refine .inl #[b,xs,rfl,cX.of r,q _ _ #[A.ext,λl=>?_,λl=>?_,λl=>by unfold jV at l;rw[K]at l;simp only[hd]at l;cases l] s]
  ·rw[<-j];exact xU r (λz=>fn<|.inr z) s.da<|fY.dc (Z<|by rw[c]at l;exact l) r
  ·rw[<-j];have:=h0 (by rw[c]at l;exact l);obtain⟨i,B,J,I,h,W⟩:=this.lst_inv;cases J;exact xU I h (λ_ z=>z) W
 |tup ds=>
  rw[hd]at q;have M:=A.val;have h0:=A.dJ;have Z:=A.zd;rw[hd]at M h0 Z;obtain⟨b,xs,rfl,r,f2⟩:=M.au;refine .inr<|.inl #[b,xs,rfl,fD.of r,q _ _ #[A.ext,λl=>?_,λl=>?_,λl=>?_] s]
  ·rw[<-j];exact vN r s.da<|fY.a8 (Z<|by rw[c]at l;exact l) r
  ·rw[<-j];exact vN r (λ_ z=>z)<|fY.a8 (h0<|by rw[c]at l;exact l).one r
  ·rw[<-j];unfold jV at l;rw[K]at l;simp only[hd]at l;exact vN r (λ_ z=>z)<|fY.a8 (M.yL l:RV Φ.K o.A P (.ref b) (.tup ds)).one r
 |iZ ns=>
  rw[hd]at q;have M:=A.val;have h0:=A.dJ;rw[hd]at M h0;obtain⟨b,rfl,L⟩:=M.iB;have k:cX X.K P b (ns.map V.int):=by
   rw[<-j];rcases L with L|L
   ·exact .inl L.1
   ·exact .inr L
  refine .inl #[b,_,rfl,k,q _ _ #[A.ext,λl=>?_,λl=>?_,λl=>by unfold jV at l;rw[K]at l;simp only[hd]at l;cases l] s]
  ·rw[<-j];exact CK<|L.imp (λz=>#[z.1,λw=>z.2<|.inr w]) id
  ·rw[<-j];obtain⟨i,J,zu⟩:=(h0<|by rw[c]at l;exact l).iB;cases J;exact CK zu
 |str z=>rw[hd]at q;have M:=A.val;rw[hd]at M;exact .inr<|.inr #[z,M.str_inv,q _ _ #[A.ext,λ_=>vO,λ_=>vO,λ_=>vO] s]
 |_=>rw[hd]at q;exact q.elim
theorem JY(h:Gl X "range")(E:X.mg "range"=B')(l:starEach [a] X.env=[(J',eval a X.env)])(m:PE X a (bR Φ Γ F g.fr a')):PI X tg (.Call (.Name "range" p) [a] [] pos) (nR Φ Γ F<|.rng1 a'):=
 qG (yR h E (bJ m fS<|by rw[l];rfl) l) λO H Q q=>by
 obtain⟨o,ρ,S,er,q⟩:=q;rw[vv,ae]at q;refine#[o,ρ,S,er,ag q λp _ q x P A s=>?_];cases hd:p.1 with
 |int j=>rw[hd]at q;obtain⟨I,q⟩:=aM q;rw[W3]at I;have a1:=W5 I.1;have a2:=W5 I.2;have W:lim=1000000:=rfl;have M:=A.val;rw[hd]at M;exact#[j,by rw[M.int_inv],⋯,⋯,q _ _ #[A.ext,λ_=>vL,λ_=>vL,λ_=>vL] s]
 |_=>rw[hd]at q;exact q.elim
theorem vM{lo c:Int}:Wk K A Y (Mx.P7 lo c n) H (vD lo c n) where
 go:=λi P hi e=>by unfold vD at hi;simp at hi;exact hi
 stop:=λP e=>by unfold vD;simp only[Xd,Y3];exact W9 _
 yld:=λi x P H2 hi e y=>by obtain⟨rfl,rfl⟩:=y;unfold vD at hi;simp at hi;exact#[bT.refl _,.int<|lo+i*c,by unfold vD;simp[hi],λ_ _=>RV.eh]
theorem JZ(h:Gl X "range")(E:X.mg "range"=B')(l:starEach [a,b,d] X.env=[(J',eval a X.env),(J',eval b X.env),(J',eval d X.env)])(J:starEach [b,d] X.env=[(J',eval b X.env),(J',eval d X.env)])(c:starEach [d] X.env=[(J',eval d X.env)])
  (m:PE X a (bR Φ Γ F g.fr a')) (L:PE X b (bR Φ Γ F g.fr b')) (hd:PE X d (bR Φ Γ F g.fr d')):PI X tg (.Call (.Name "range" p) [a,b,d] [] pos) (nR Φ Γ F<|.rng3 a' b' d'):=
 qG (Mx.yS h E (bJ m (bJ L (bJ hd fS<|by rw[c];rfl)<|by rw[J,c])<|by rw[l,J]) l J) λO H Q q=>by
 obtain⟨o,ρ,S,er,q⟩:=q;rw[vw,ae]at q;refine#[o,ρ,S,er,ag q λp _ q x P A s=>?_];rw[ae]at q;refine#[o,ρ,p.2,s,ag q λp2 _ q y n r gi=>?_];rw[ae]at q;refine#[o,ρ,p2.2,gi,ag q λB _ q z K t v=>?_];split at q
 ·rename_i i j k Z Y u;obtain⟨I,q⟩:=aM q;simp only[W3,aac]at I;have M:=A.val;rw[Z]at M;have w:=r.val;rw[Y]at w;have U:=t.val;rw[u]at U;exact#[i,j,k,by rw[M.int_inv,w.int_inv,U.int_inv],#[I.1.1,I.1.2,I.2.1,I.2.2],q _ _ #[(A.ext.trans r.ext).trans t.ext,λ_=>vM,λ_=>vM,λ_=>vM] v]
 ·exact q.elim
theorem CL(Z:H l1=y' (Mx.uv b1 xs))(h2:H l2=y' (Mx.uv b2 ys))(n1:b1=J'->¬Y l1)(n2:b2=J'->¬Y l2)(E:∀b,Y b->A b)(I:ar K A H xs ds)(W:ar K A H ys es):Wk K A Y (Mx.P6 b1 b2 l1 l2) H (dH ds es):=by
 have k1:∀P,bc Y H P->P l1=y' (Mx.uv b1 xs):=λP e=>by
  cases b1 with
  |false=>exact e.kp _ _ Z<|n1 rfl
  |true=>exact e.tp _ _ Z
 have k2:∀P,bc Y H P->P l2=y' (Mx.uv b2 ys):=λP e=>by
  cases b2 with
  |false=>exact e.kp _ _ h2<|n2 rfl
  |true=>exact e.tp _ _ h2
 have g:(dH ds es).length=min xs.length ys.length:=by unfold dH;rw[List.length_zipWith,I.length,W.length]
 refine#[λi P hi e=>?_,λP e=>?_,λi x P n hi e y=>?_]
 ·rw[g]at hi;exact#[xs,ys,xs[i]'⋯,ys[i]'⋯,k1 P e,k2 P e,by simp,by simp]
 ·exact#[xs,ys,k1 P e,k2 P e,⋯]
 ·obtain⟨p,o,r,rfl,hp,rfl,q⟩:=y;obtain⟨S,q2⟩:=q xs ys (k1 P e)<|k2 P e;obtain⟨d,a1,a2⟩:=I.get S;obtain⟨c,c1,X⟩:=W.get q2;have s:=Mx.dB hp<|.tup [o,r];refine#[s,.tup [d,c],by unfold dH;rw[List.getElem?_zipWith,a1,c1],λB F=>RV.iU aQ ?_];have U:∀{v:V}{dd:Dt},RV K A H v dd->RV K B (upd P p<|.tup [o,r]) v dd:=λh=>((h.cL (B:=λb=>A b\/B b) λb z=>z.elim .inl<|F b).mono e (λb z=>.inl<|E b z) λ_ z=>.inr z).same s
  exact ar.cons (U a2)<|ar.cons (U X) ar.nil
theorem fu(h:cW d=y' ds)(M:RV K A H x d)(Z:fY K B H x d):∃b l xs,x= .ref l/\H l=y' (Mx.uv b xs)/\(b=J'->¬A l)/\ar K B H xs ds:=by
 unfold cW at h;split at h
 ·cases h;obtain⟨a,xs,rfl,r,fn,Q⟩:=M.lst_inv;exact#[J',a,xs,rfl,r,λ_=>fn,fY.dc Z r]
 ·cases h;obtain⟨a,xs,rfl,r,Q⟩:=M.au;exact#[G',a,xs,rfl,r,λz=>(by cases z),fY.a8 Z r]
 ·cases h
theorem N4(j:Φ.K=X.K)(h:Gl X "zip")(E:X.mg "zip"=B')(hs:starEach [a,b] X.env=[(J',eval a X.env),(J',eval b X.env)])(yB:starEach [b] X.env=[(J',eval b X.env)])(m:PE X a (bR Φ Γ F g.fr a'))(L:PE X b (bR Φ Γ F g.fr b')):
  PI X (.Tuple es kk tp) (.Call (.Name "zip" p) [a,b] [] pos) (nR Φ Γ F<|.zip a' b'):=
 qG (Mx.EJ h E (bJ m (bJ L fS<|by rw[yB];rfl)<|by rw[hs,yB]) hs yB) λO H Q q=>by
 obtain⟨o,ρ,S,er,q⟩:=q;rw[yX,ae]at q;refine#[o,ρ,S,er,ag q λp _ q x P A s=>?_];rw[ae]at q;refine#[o,ρ,p.2,s,ag q λp2 _ q y n r Z=>?_];have c:rB (.zip a' b')=max (lk a') (lk b'):=rfl;split at q
 ·rename_i ds es e1 e2;obtain⟨k1,k2,k3⟩:=A.keep r.ext er.gX;obtain⟨v,M,xs,rfl,f1,UO,f2⟩:=fu e1 k1 k1.one;obtain⟨c2,l2,k,rfl,I,UT,W⟩:=fu e2 r.val r.val.one;refine#[v,c2,M,l2,xs,k,rfl,f1,I,q _ _ #[A.ext.trans r.ext,λl=>?_,λl=>?_,λl=>by unfold jV at l;cases l] Z]
  ·rw[c]at l;obtain⟨K,VZ,B,J,t,_,QC⟩:=fu e1 k1<|k3 ⋯;obtain⟨U,V0,Y,u,i,_,QE⟩:=fu e2 r.val<|r.zd ⋯;cases J;cases u;have i1:v=K/\xs=B:=by rw[f1]at t;cases v<;>cases K<;>first|(cases t;exact#[rfl,rfl])|cases t
   have i2:c2=U/\k=Y:=by rw[I]at i;cases c2<;>cases U<;>first|(cases i;exact#[rfl,rfl])|cases i
   obtain⟨rfl,rfl⟩:=i1;obtain⟨rfl,rfl⟩:=i2;exact CL f1 I (λz w=>UO z<|.inr w) (λz w=>UT z<|.inr w) Z.da QC QE
  ·rw[c]at l;obtain⟨K,VZ,B,J,t,M5,QC⟩:=fu e1 (k2 ⋯) (k2 ⋯).one;obtain⟨U,V0,Y,u,i,IZ,QE⟩:=fu e2 (r.dJ ⋯) (r.dJ ⋯).one;cases J;cases u;have i1:v=K/\xs=B:=by rw[f1]at t;cases v<;>cases K<;>first|(cases t;exact#[rfl,rfl])|cases t
   have i2:c2=U/\k=Y:=by rw[I]at i;cases c2<;>cases U<;>first|(cases i;exact#[rfl,rfl])|cases i
   obtain⟨rfl,rfl⟩:=i1;obtain⟨rfl,rfl⟩:=i2;exact CL f1 I M5 IZ (λ_ z=>z) QC QE
 ·exact q.elim
end
def tW:List Nat->zo
 |[]=>HN
 |i::is=>AX (e9 i)<|tW is
def GT(K:Frag):Tg->TG
 |.nm i=>e9 i
 |.tp is=>Mx.sr K is.length<|tW is
section
variable{X:Cx}{Φ:Fm}{Γ:Gm}{g:G}{k:Nat}
theorem fz(h:fy Γ x=y' i):Ee (Γ.names.lookup x)=G'/\df x=G'/\Γ.N[i]?=y' x:=by
 unfold fy at h;split at h
 ·rename_i c;rw[W3]at c;exact#[c.1,c.2,lu h]
 ·cases h
theorem fU(h:slot Γ x=y' i):FE (Γ.names.lookup x)=G'/\df x=G'/\Γ.N[i]?=y' x:=by
 unfold slot at h;split at h
 ·rename_i c;rw[W3]at c;exact#[c.1,c.2,lu h]
 ·cases h
theorem jD(h:tf Γ e=y' i):∃x p,e= .Name x p/\fy Γ x=y' i/\plainS Γ i=G':=by
 unfold tf at h;split at h
 ·rename_i x p;obtain⟨j,Z,Y⟩:=W0.mp h;split at Y
  ·cases Y;exact#[x,p,rfl,Z,by assumption]
  ·cases Y
 ·cases h
theorem GI(w:GX g Γ X)(h:tf Γ e=y' i):PG X e (e9 i):=by obtain⟨x,p,rfl,Z,_⟩:=jD h;obtain⟨a,b,c⟩:=fz Z;obtain⟨M,m⟩:=w.loc x a;exact EH (w.N▸w.nd) (by rw[w.N];exact c) M m
theorem Cj(w:GX g Γ X):∀{es:List Expr}{is:List Nat},ka Γ es=y' is->KD X es (tW is)/\es.length=is.length/\∀e∈es,∃x p,e= .Name x p
 |[],is,h=>by cases h;exact#[EI,rfl,λe z=>by cases z]
 |e::es,is,h=>by
  obtain⟨i,Z,Y⟩:=W0.mp h;obtain⟨a,u,rfl⟩:=Xj.mp Y;obtain⟨k1,k2,k3⟩:=Cj w u;obtain⟨x,p,ex,_⟩:=jD Z;refine#[BS (GI w Z) k1<|by subst ex;rfl,by simp[k2],λJ z=>?_];rcases Xg.mp z with rfl|z
  ·exact#[x,p,ex]
  ·exact k3 J z
theorem iV:∀{es:List Expr},(∀e∈es,∃x p,e=Expr.Name x p)->(assignEach es env).length=es.length/\(assignEach es env).findIdx? (·.1)=B'
 |[],_=>#[rfl,rfl]
 |e::es,h=>by
  obtain⟨x,p,rfl⟩:=h e Xa;obtain⟨Z,Y⟩:=iV (env:=env) λJ z=>h J (W7 _ z)
  have q:assignEach (Expr.Name x p::es) env=(J',assign (.Name x p) env)::assignEach es env:=rfl;rw[q];refine#[by simp[Z],?_];rw[List.findIdx?_cons];simp[Y]
theorem vA(w:GX g Γ X)(h:rQ Γ e=y' t):PG X e (GT X.K t):=by
 unfold rQ at h;split at h
 ·obtain⟨i,Z,rfl⟩:=Xj.mp h;exact GI w Z
 ·obtain⟨is,Z,rfl⟩:=Xj.mp h;obtain⟨k1,k2,k3⟩:=Cj w Z;obtain⟨K,P⟩:=iV k3;exact Mx.xl w.calm k1 (by rw[K,k2]) P
 ·cases h
theorem fB(h:rQ Γ e=y' t):∀i∈a9 t,plainS Γ i=G'/\∃x,fy Γ x=y' i:=by
 have many:∀{es:List Expr}{is:List Nat},ka Γ es=y' is->∀i∈is,plainS Γ i=G'/\∃x,fy Γ x=y' i:=by
  intro es
  induction es with
  |nil=>intro is h i hi;cases h;cases hi
  |cons e es O=>
   intro is h i hi;obtain⟨j,Z,Y⟩:=W0.mp h;obtain⟨a,u,rfl⟩:=Xj.mp Y;rcases Xg.mp hi with rfl|hi
   ·obtain⟨x,p,_,k1,k2⟩:=jD Z;exact#[k2,x,k1]
   ·exact O u i hi
 unfold rQ at h;split at h
 ·obtain⟨j,Z,rfl⟩:=Xj.mp h;intro i hi;have:i=j:=by simpa [a9]using hi
  subst this;obtain⟨x,p,_,k1,k2⟩:=jD Z;exact#[k2,x,k1]
 ·obtain⟨is,Z,rfl⟩:=Xj.mp h;exact many Z
 ·cases h
theorem jG(h:plainS Γ i=G'):eR Γ i=J'/\Γ.δ≠y' i:=by unfold plainS at h;rw[W3]at h;refine#[by simpa using h.1,λe=>?_];rw[e]at h;simp at h
theorem ER.set(er:ER Φ Γ o ρ S σ H)(B:plainS Γ i=G')(h:RV Φ.K o.A H v d):ER Φ Γ o (ρ.set i<|y' d) S (σ.set i<|y' v) H where
 len:=by rw[Y6,Y6];exact er.len
 wa:=er.wa
 da:=er.da
 al:=er.al
 val:=λj e K=>by
  by_cases F:j=i
  ·subst F;rw[YW]at K;simp only[aag]at K;split at K
   ·rename_i t;cases K;refine#[v,by rw[XT (by rw[er.len];exact t)],?_];rw[(jG B).1,aae (by simp)];exact h
   ·cases K
  ·rw[Xl (ZX F)]at K;obtain⟨w,Z,Y⟩:=er.val j e K;exact#[w,by rw[Xl (ZX F)];exact Z,Y]
 inj:=λa b c e f m L Z Y u Q=>by
  have na:a≠i:=λz=>by rw[z,(jG B).1]at m;cases m
  have l:b≠i:=λz=>by rw[z,(jG B).1]at L;cases L
  rw[Xl (ZX na)]at Z u;rw[Xl (ZX l)]at Y Q;exact er.inj a b c e f m L Z Y u Q
 dk:=Dk.set er.dk h.nd
 drw:=er.drw
 drn:=er.drn
 drs:=λj a F m=>by rw[Xl (λz=>(jG B).2<|by rw[z];exact F)];exact er.drs j a F m
 dr0:=er.dr0
 ent:=er.ent
theorem jP:∀{is:List Nat}{ds:List Dt}{xs:List V}{ρ ρ1:ah}{O:L2.St},ER Φ Γ o ρ S O H->(∀i∈is,plainS Γ i=G')->ar Φ.K o.A H xs ds->f7 is ds ρ= .ok ρ1->(∀M,ER Φ Γ o ρ1 S M H->(∀k,k∉is->M[k]?=O[k]?/\ρ1[k]?=ρ[k]?)->Q M H)->tW is xs O H Q/\xs.length=is.length
 |[],ds,xs,ρ,ρ1,O,er,_,U,h,q=>by
  cases ds with
  |nil=>cases h;rw[U.nil_inv];exact#[#[rfl,q O er λ_ _=>#[rfl,rfl]],rfl]
  |cons=>cases h
 |i::is,ds,xs,ρ,ρ1,O,er,B,U,h,q=>by
  cases ds with
  |nil=>cases h
  |cons d ds=>
   obtain⟨x,r,rfl,Z,Y⟩:=U.cons_inv;obtain⟨k1,k2⟩:=jP (er.set (B i Xa) Z) (λj F=>B j<|W7 _ F) Y h λM s P=>q M s λk a=>by
    have K:k≠i:=λz=>a (by rw[z];exact Xa)
    obtain⟨a1,a2⟩:=P k λz=>a (W7 _ z)
    rw[Xl (ZX K)]at a1 a2;exact#[a1,a2]
   exact#[#[x,r,rfl,k1],by simp[k2]]
theorem CB(er:ER Φ Γ o ρ S σ H)(B:∀i∈a9 t,plainS Γ i=G')(U:RV Φ.K o.A H x d)(h:fv t d ρ= .ok ρ1)(q:∀M,ER Φ Γ o ρ1 S M H->(∀k,k∉a9 t->M[k]?=σ[k]?/\ρ1[k]?=ρ[k]?)->Q M H):GT Φ.K t x σ H Q:=by
 cases t with
 |nm i=>
  cases h;exact q _ (er.set (B i<|by simp[a9]) U) λk P=>by
   have K:k≠i:=λz=>P (by simp[a9,z])
   rw[Xl (ZX K),Xl (ZX K)];exact#[rfl,rfl]
 |tp is=>
  cases d with
  |tup ds=>obtain⟨a,xs,rfl,Z,Y⟩:=U.au;obtain⟨k1,k2⟩:=jP er B Y h q;exact#[a,xs,rfl,.inl<|fD.of Z,k2,k1]
  |lst ds=>obtain⟨a,xs,rfl,Z,_,Y⟩:=U.lst_inv;obtain⟨k1,k2⟩:=jP er B Y h q;exact#[a,xs,rfl,.inr<|cX.of Z,k2,k1]
  |_=>cases h
theorem gV:∀(is:List Nat)(ds:List Dt)(ρ:ah)(k:Nat),f7 is ds ρ≠ .ex k
 |[],[],_,_=>λz=>by cases z
 |[],_::_,_,_=>λz=>by cases z
 |_::_,[],_,_=>λz=>by cases z
 |_::is,_::ds,ρ,k=>gV is ds _ k
theorem tS(t)(d)(ρ):∀k,fv t d ρ≠ .ex k:=by
 intro k;cases t with
 |nm i=>intro z;cases z
 |tp is=>
  cases d with
  |tup ds=>exact gV is ds ρ k
  |lst ds=>exact gV is ds ρ k
  |_=>intro z;cases z
theorem Cm(is)(d)(ρ):∀k,xJ is d ρ≠ .ex k:=by
 intro k;cases d with
 |tup ds=>exact gV is ds ρ k
 |lst ds=>exact gV is ds ρ k
 |_=>intro z;cases z
theorem Fw(er:ER Φ Γ o ρ S σ H)(B:∀i∈is,plainS Γ i=G')(U:RV Φ.K o.A H x d)(h:xJ is d ρ= .ok ρ1)(q:∀M,ER Φ Γ o ρ1 S M H->(∀k,k∉is->M[k]?=σ[k]?/\ρ1[k]?=ρ[k]?)->Q M H):Mx.sr Φ.K is.length (tW is) x σ H Q:=by
 cases d with
 |tup ds=>obtain⟨a,xs,rfl,Z,Y⟩:=U.au;obtain⟨k1,k2⟩:=jP er B Y h q;exact#[a,xs,rfl,.inl<|fD.of Z,k2,k1]
 |lst ds=>obtain⟨a,xs,rfl,Z,_,Y⟩:=U.lst_inv;obtain⟨k1,k2⟩:=jP er B Y h q;exact#[a,xs,rfl,.inr<|cX.of Z,k2,k1]
 |_=>cases h
theorem N1(w:GX g Γ X)(h:ka Γ es=y' is):PG X (.Tuple es kk tp) (Mx.sr X.K is.length<|tW is):=by obtain⟨k1,k2,k3⟩:=Cj w h;obtain⟨K,P⟩:=iV k3;exact Mx.xl w.calm k1 (by rw[K,k2]) P
theorem mY{r:R α}{P:α->Prop}(o:∀k,r≠ .ex k)(h:mR Ek r P):∃d,r= .ok d/\P d:=by
 cases r with
 |ok a=>exact#[a,rfl,h]
 |ex k=>exact absurd rfl<|o k
 |bad=>exact h.elim
theorem uJ(w:GX g Γ X)(P:sc.kind= .function)(L:An sc.names Γ.names (bo Γ sc).1.N Γ.N (bo Γ sc).2=G'):gd X sc (bo Γ sc).1.N (bo Γ sc).2:=by
 unfold An at L;rw[W3,W3]at L;obtain⟨⟨Z,Y⟩,u⟩:=L;rw[XF]at Z u;refine#[P,λy hy=>?_,λy hy e=>?_,λj i F=>?_,by simpa using Y]
 ·have:=Z y hy;rw[W3]at this;exact Xr this.1
 ·have:=Z y hy;rw[W3,e]at this;have h:=this.2;simp at h;exact w.fre y.1 h
 ·have t:=(W6.mp F).1;have:=u j<|XU.mpr t;rw[F]at this;cases U:(bo Γ sc).1.N[j]? with
  |none=>rw[U]at this;cases this
  |some x=>rw[U]at this;simp only[W3]at this;exact#[x,rfl,by rw[w.N];exact Xr this.1,Xr this.2]
theorem fM{C:Addr}(w:GX g Γ X)(B:gd X sc (bo Γ sc).1.N (bo Γ sc).2)(y:(bo Γ sc).1.N.Nodup):GX g (bo Γ sc).1 (ji X sc (bo Γ sc).1.N C s H fp xe) where
 N:=rfl
 nd:=y
 vis:=λx h=>by
  have I:(bo Γ sc).1.names=sc.names:=rfl;rw[I]at h;cases W:sc.names.lookup x with
  |none=>rw[W]at h;cases h
  |some Z=>
   have q:=ba (env:=X.env) W;have P:=q;by_cases J:(Z==NameKind.free&&X.env.scope.kind== .function&&X.env.kindOf x==y' .cell)=G'
   ·rw[aaf J]at P;exact .inr<|.inl P
   ·rw[aae J]at P;rw[W]at h;cases Z with
    |«local»=>exact .inl P
    |cell=>exact .inr<|.inl P
    |free=>exact .inr<|.inr P
    |globalExplicit=>cases h
    |globalImplicit=>cases h
 loc:=λx h=>by
  have I:(bo Γ sc).1.names=sc.names:=rfl;rw[I]at h;cases W:sc.names.lookup x with
  |none=>rw[W]at h;cases h
  |some Z=>
   have q:=ba (env:=X.env) W;have P:=q;rw[W]at h;cases Z with
   |«local»=>exact#[.inl P,.inr P]
   |cell=>exact#[.inr P,.inl<|by show (sc.names.lookup x==y' .cell)=G';rw[W];rfl]
   |free=>cases h
   |globalExplicit=>cases h
   |globalImplicit=>cases h
 gl:=λx h=>by
  have I:(bo Γ sc).1.names=sc.names:=rfl;rw[I]at h;cases W:sc.names.lookup x with
  |none=>rw[W]at h;cases h
  |some Z=>
   have q:=ba (env:=X.env) W;have P:=q;rw[W]at h;cases Z with
   |globalImplicit=>exact P
   |«local»=>cases h
   |cell=>cases h
   |free=>cases h
   |globalExplicit=>cases h
 fre:=λx h=>by
  have I:(bo Γ sc).1.names=sc.names:=rfl;rcases h with W|W
  ·have q:=ba (env:=X.env) W;have P:=q;exact .inl P
  ·have q:=ba (env:=X.env) W;have P:=q;by_cases J:(NameKind.free==NameKind.free&&X.env.scope.kind== .function&&X.env.kindOf x==y' .cell)=G'
   ·rw[aaf J]at P;exact .inl P
   ·rw[aae J]at P;exact .inr P
 calm:=w.calm
 un:=w.un
 con:=w.con
 bl:=w.bl
end
theorem join_some{α:Type}{o:Option (Option α)}{a:α}(h:o.join=y' a):o=y' (y' a):=by
 cases o with
 |none=>cases h
 |some x=>cases x with
  |none=>cases h
  |some y=>simp at h;rw[h]
theorem gC{j:Nat}(h:(jg cap ρ)[j]?=y' (y' d)):∃i,cap[j]?=y' (y' i)/\ρ[i]?=y' (y' d):=by
 unfold jg at h;rw[Xn]at h;cases J:cap[j]? with
 |none=>rw[J]at h;cases h
 |some o=>
  rw[J]at h;cases o with
  |none=>cases h
  |some i=>refine#[i,rfl,join_some ?_];simpa using h
theorem eX{i j:Nat}(J:cap[j]?=y' (y' i))(h:σ[i]?=y' (y' v)):(dm cap σ)[j]?=y' (y' v):=by unfold dm;rw[Xn,J];simp[h]
theorem wJ:∀{cap:List (Option Nat)}{j:Nat},D9 δ cap=y' j->∃i,δ=y' i/\cap[j]?=y' (y' i)
 |[],j,h=>by simp[D9]at h
 |o::r,j,h=>by
  unfold D9 at h;split at h
  ·rename_i c;rw[W3]at c;cases h;cases δ with
   |none=>simp at c
   |some i=>exact#[i,rfl,by simp[Xr c.2]]
  ·obtain⟨k,Z,rfl⟩:=Xj.mp h;obtain⟨i,Y,u⟩:=wJ Z;exact#[i,Y,by simpa using u]
section
variable{X:Cx}{Φ:Fm}{Γ:Gm}{F:FT}{g:G}{k:Nat}{K:Frag}
def Ow.plus(o:Ow)(D:Addr):Ow:=#[o.W,λb=>o.A b\/b=D,o.dr]
theorem lh(J:(bo Γ sc).2[j]?=y' (y' i)):eR (bo Γ sc).1 j=eR Γ i:=by have e:(bo Γ sc).1.M=Hn (bo Γ sc).2 Γ.M:=rfl;unfold eR;rw[e];unfold Hn;rw[Xn,J];simp
theorem sS:∀{cap:List (Option Nat)}{j:Nat},cap[j]?=y' (y' i)->∃M,D9 (y' i) cap=y' M/\cap[M]?=y' (y' i)
 |[],j,h=>by cases h
 |o::r,j,h=>by
  unfold D9;by_cases e:o=y' i
  ·refine#[0,?_,by rw[e];rfl];rw[e];simp
  ·rw[aae (by simp[e])];cases j with
   |zero=>cases h;exact absurd rfl e
   |succ j=>obtain⟨M,Z,Y⟩:=sS (j:=j) h;exact#[M+1,by rw[Z];rfl,Y]
theorem ER.bo(er:ER Φ Γ o ρ S σ H)(B:gd X sc (bo Γ sc).1.N (bo Γ sc).2)(y:(Rx.bo Γ sc).1.N.Nodup)(O:H D=B'):
  ER Φ (Rx.bo Γ sc).1 (o.plus D) (jg (Rx.bo Γ sc).2 ρ) S (dm (Rx.bo Γ sc).2 σ) (upd H D<|.lst []):=by
 have s:=Mx.dB O<|.lst [];have av:∀b,(o.A b\/b=D)->o.A b\/H b=B':=λb z=>z.elim .inl λe=>.inr (by rw[e];exact O)
 refine#[?_,λa h=>.inl<|er.wa a h,λa h=>.inl<|er.da a h,λa h=>?_,λj d h=>?_,λj g vs h=>?_,λj M a d e E k Z Y u Q=>?_,λa h=>?_,er.drn,λj a F m=>?_,er.dr0,er.ent.trans<|bc.of_same s]
 ·unfold dm jg;rw[Xd,Xd]
 ·rcases h with h|h
  ·obtain⟨x,U⟩:=er.al a h;exact#[x,s _ _ U]
  ·subst h;exact#[_,aQ]
 ·obtain⟨i,J,w⟩:=gC h;obtain⟨v,Z,Y⟩:=er.val i d w;refine#[v,eX J Z,?_];rw[lh J];by_cases E:eR Γ i=G'
  ·rw[aaf E]at Y ⊢;cases d with
   |lst ds=>obtain⟨a,xs,e1,e2,l,e4,p,e6,e7⟩:=Y;exact#[a,xs,e1,s _ _ e2,.inl l,e4,p,e6,(e7.cL av).same s]
   |g9=>exact Y.elim
   |_=>exact RV.same (RV.cL av Y) s
  ·rw[aae E]at Y ⊢;exact(Y.cL av).same s
 ·obtain⟨i,J,w⟩:=gC h;have P:=er.dk i g vs w;obtain⟨M,k1,k2⟩:=sS J;obtain⟨x,K,n2,_⟩:=B.yd j i J;obtain⟨n,A,c,_⟩:=B.yd M i k2;rw[n2]at c;cases c;show D9 Γ.κ (Rx.bo Γ sc).2=y' j;rw[P,k1,jB y K A]
 ·obtain⟨i,J,w⟩:=gC Z;obtain⟨L,q,t⟩:=gC Y;rw[lh J]at E;rw[lh q]at k;obtain⟨v,k1,_⟩:=er.val i _ w;obtain⟨r,I,_⟩:=er.val L _ t;rw[eX J k1]at u;rw[eX q I]at Q;cases u;cases Q;have:=er.inj i L a d e E k w t k1 I;subst this;obtain⟨x,K,n2,_⟩:=B.yd j i J;obtain⟨n,A,c,_⟩:=B.yd M i q;rw[n2]at c;cases c;exact jB y K A
 ·obtain⟨ns,e1,e2⟩:=er.drw a h;exact#[ns,e1,s _ _ e2]
 ·obtain⟨i,Z,Y⟩:=wJ<|F;exact eX Y<|er.drs i a Z m
theorem Av(B:gd X sc (bo Γ sc).1.N (bo Γ sc).2)(h:fy (bo Γ sc).1 x=y' i):(bo Γ sc).2[i]?=y' B':=by
 obtain⟨a,b,c⟩:=fz h;have t:i<(bo Γ sc).2.length:=by rw[B.len];exact(W6.mp c).1
 cases J:(bo Γ sc).2[i]? with
 |none=>rw[List.getElem?_eq_none_iff]at J;lia
 |some o=>
  cases o with
  |none=>rfl
  |some j=>obtain⟨y,K,_,k⟩:=B.yd i j J;rw[c]at K;cases K;have I:(bo Γ sc).1.names=sc.names:=rfl;rw[I,k]at a;cases a
theorem uK{i:Nat}(h:cap[i]?=y' B'):(dm cap σ)[i]?=y' B':=by unfold dm;rw[Xn,h];rfl
theorem mH(h:∀i∈a9 t,σ0[i]?=y' B'):GL σ0 (GT K t):=by
 have many:∀{is:List Nat},(∀i∈is,σ0[i]?=y' B')->OZ σ0 (tW is):=by
  intro is
  induction is with
  |nil=>intro _;exact DN
  |cons i is ih=>intro l;exact A7 (l i Xa) (ih λj F=>l j<|W7 _ F)
 cases t with
 |nm i=>exact DM<|h i<|by simp[a9]
 |tp is=>intro x O H Q p q;obtain⟨a,xs,e,Z,Y,q⟩:=q;exact#[a,xs,e,Z,Y,many h xs O H Q p q]
theorem rd(B:gd X sc (bo Γ sc).1.N (bo Γ sc).2)(h:rQ (bo Γ sc).1 e=y' t):∀i∈a9 t,(dm (bo Γ sc).2 σ)[i]?=y' B':=λi hi=>by obtain⟨_,x,U⟩:=fB h i hi;exact uK<|Av B U
def GZ(b:Gm)(ρ:ah)(O:L2.St)(D:Addr):Prop:=∀(j:Nat)(d:List Dt),eR b j=G'->ρ[j]?=y' (y'<|.lst d)->O[j]?≠y' (y'<|.ref D)
theorem xT(O:H D=y' (.lst acc)):bc (λb=>b=D) H (upd H D<|.lst l6):=#[λb o h n=>by rw[aN n];exact h,Mx.tZ O]
theorem ER.emit(er:ER Φ Γ o ρ S σ H)(O:H D=y' (.lst acc))(I:GZ Γ ρ σ D)(oD:o.A D)(nd:o.dr≠y' D)(h0:∀x,Φ.H0 D=y' x->Φ.d0=y' D):ER Φ Γ o ρ S σ (upd H D<|.lst l6):=by
 have up:bc (λb=>b=D) H (upd H D<|.lst l6):=xT O;have uA:∀b,b=D->o.A b:=λb z=>by rw[z];exact oD
 refine#[er.len,er.wa,er.da,λa m=>?_,λj dd h=>?_,er.dk,er.inj,λa m=>?_,er.drn,er.drs,er.dr0,?_]
 ·obtain⟨x,U⟩:=er.al a m;exact up.al U λz=>#[_,by rw[z];exact aQ]
 ·obtain⟨w,Z,Y⟩:=er.val j dd h;refine#[w,Z,?_];by_cases E:eR Γ j=G'
  ·rw[aaf E]at Y ⊢;cases dd with
   |lst ds=>
    obtain⟨a,xs,e1,e2,l,e4,p,e6,u⟩:=Y;have c:a≠D:=λz=>I j ds E h (by rw[Z,e1,z])
    exact#[a,xs,e1,up.kp _ _ e2 c,l,e4,p,e6,u.mono up uA λ_ z=>z]
   |g9=>exact Y.elim
   |_=>exact RV.mono up uA (λ_ z=>z) Y
  ·rw[aae E]at Y ⊢;exact Y.mono up uA λ_ z=>z
 ·obtain⟨ns,e1,e2⟩:=er.drw a m;exact#[ns,e1,up.kp _ _ e2 λz=>nd<|by rw[<-z];exact m]
 ·refine#[λb x h n=>up.kp _ _ (er.ent.kp b x h n) λz=>?_,λb xs h=>up.tp _ _<|er.ent.tp b xs h];subst z;exact n<|h0 x h
theorem Wk.less(w:Wk K A Y J H ds)(h:∀b,Y' b->Y b):Wk K A Y' J H ds:=#[λi P hi e=>w.go i P hi<|e.mono h,λP e=>w.stop P<|e.mono h,λi x P n hi e y=>w.yld i x P n hi (e.mono h) y]
theorem IO.Ui(k:IO Φ.K o it nl H ds J H1)(er:ER Φ Γ o ρ S σ H1)(h:(decide (rB it<=1)||nl)=G'):Wk Φ.K o.A o.d J H1 ds:=by
 rcases Ya.mp h with h|h
 ·exact k.w1<|W5 h
 ·exact(k.w2 h).less er.da
theorem Wk.plus(w:Wk K A Y J H ds)(O:H D=B'):Wk K (λb=>A b\/b=D) (λb=>Y b\/b=D) J (upd H D<|.lst []) ds:=by
 have ex:∀P,bc (λb=>Y b\/b=D) (upd H D<|.lst []) P->bc Y H P:=λP e=>#[λb o h n=>by
   have l:b≠D:=λz=>by rw[z,O]at h;cases h
   exact e.kp b o (by rw[aN l];exact h) λz=>z.elim n l,λb xs h=>by
   have l:b≠D:=λz=>by rw[z,O]at h;cases h
   exact e.tp b xs<|by rw[aN l];exact h]
 refine#[λi P hi e=>w.go i P hi<|ex P e,λP e=>w.stop P<|ex P e,λi x P H2 hi e y=>?_];obtain⟨s,d,hd,M⟩:=w.yld i x P H2 hi (ex P e) y;refine#[s,d,hd,λB F=>M B λb L=>?_];rcases F b L with (z|z)|z
 ·exact .inl z
 ·exact .inr (by rw[z];exact O)
 ·by_cases l:b=D
  ·exact .inr (by rw[l];exact O)
  ·rw[aN l]at z;exact .inr z
structure C8(Φ:Fm)(Γ:Gm)(o:Ow)(D:Addr)(ρ:ah)(σ:L2.St)(S:Sx)(acc:List V)(es:List Dt)(H:Hp):Prop where
 at':H D=y' (.lst acc)
 rv:ar Φ.K o.A H acc es
 er:ER Φ Γ o ρ S σ H
structure OY(Φ:Fm)(o:Ow)(D:Addr):Prop where
 oD:o.A D
 nd:o.dr≠y' D
 h0:∀x,Φ.H0 D=y' x->Φ.d0=y' D
def Yd(o:Ow)(D:Addr):Addr->Prop:=λb=>o.d b\/b=D
theorem ER.back(fx:OY Φ o D)(I:GZ Γ ρ σ D)(er:ER Φ Γ o ρ S σ H)(L:ER Φ Γ o ρ' S' σ' H')(e:bc (Yd o D) H H')(g:∃W,H D=y' (.lst W)):ER Φ Γ o ρ S' σ H':=by
 have uA:∀b,Yd o D b->o.A b:=λb z=>z.elim (er.da b) λq=>by rw[q];exact fx.oD
 refine#[er.len,er.wa,er.da,L.al,λj dd h=>?_,er.dk,er.inj,L.drw,L.drn,er.drs,er.dr0,L.ent];obtain⟨w,Z,Y⟩:=er.val j dd h;refine#[w,Z,?_];by_cases E:eR Γ j=G'
 ·rw[aaf E]at Y ⊢;cases dd with
  |lst ds=>
   obtain⟨a,xs,e1,e2,l,e4,p,e6,u⟩:=Y;have c:a≠D:=λz=>I j ds E h (by rw[Z,e1,z])
   exact#[a,xs,e1,e.kp _ _ e2 λz=>z.elim p c,l,e4,p,e6,u.mono e uA λ_ z=>z]
  |g9=>exact Y.elim
  |_=>exact RV.mono e uA (λ_ z=>z) Y
 ·rw[aae E]at Y ⊢;exact Y.mono e uA λ_ z=>z
theorem vK(fx:OY Φ o D)(B:∀i∈a9 tg,plainS Γ i=G')(A:Wk Φ.K o.A (Yd o D) J H1 ds)(I:GZ Γ ρ σ D)
  (L:∀(ρ1:ah)(M:L2.St)(S:Sx)(W:List V)(es:List Dt)(n:Hp)(P:List Dt×Sx->Prop),GZ Γ ρ1 M D->(∀k,k∉a9 tg->M[k]?=σ[k]?/\ρ1[k]?=ρ[k]?)->C8 Φ Γ o D ρ1 M S W es n->bc (Yd o D) H1 n->W.length+m<=a0+ds.length*m->0<ds.length->mR Φ.Ek (fb ρ1 S) P->
   ∀Q:Hp->Prop,(∀l r h,P r->C8 Φ Γ o D ρ1 M r.2 h (es++r.1) l->bc (Yd o D) n l->h.length<=W.length+m->Q l)->tb M n Q)
      (c:C8 Φ Γ o D ρ σ S W es H1) (ha:W.length<=a0) (q:mR Φ.Ek (az (aF tg (aZ F ts) fb ρ) ds S) P) {Fn:Hp->Prop}
  (fin:∀l r h,P r->C8 Φ Γ o D ρ σ r.2 h (es++r.1) l->bc (Yd o D) H1 l->h.length<=a0+ds.length*m->Fn l):rH J (GT Φ.K tg) (pJ Φ Γ F ts) tb σ Fn H1:=by
 refine#[λi O n=>O=ds.length-i/\i<=ds.length/\∃S2 H s,C8 Φ Γ o D ρ σ S2 H (es++s) n/\bc (Yd o D) H1 n/\H.length<=a0+i*m/\mR Φ.Ek (az (aF tg (aZ F ts) fb ρ) (ds.drop i) S2) λr=>P (s++r.1,r.2),
  #[_,rfl,ZW _,S,W,[],by rw[XM];exact c,bc.refl,⋯,q],?_]
 rintro i O n ⟨rfl,hi,S2,H,s,X,u,gp,q⟩;by_cases t:i<ds.length
 ·refine .inr #[A.go i n t u,λx K y=>?_];obtain⟨g,d,hd,U⟩:=A.yld i x n K t u y;have a:=U o.A λb z=>.inl z
  have v:=X.er.grow g;have Qx:ds.drop i=d::ds.drop (i+1):=by rw[YJ t];congr 1;exact(W6.mp hd).2
  rw[Qx]at q;unfold az at q;rw[ae]at q;unfold aF at q;rw[ae]at q;obtain⟨ρ1,w,q⟩:=mY (tS _ _ _) q;refine CB v B a w λM QB hk=>?_
  rw[ae]at q;refine#[o,ρ1,S2,QB,ag q λb _ q H4 e4 Pl=>?_];have S8:bc (Yd o D) K H4:=e4.mono λb z=>.inl z
  have V5:GZ Γ ρ1 M D:=λj dd E Z Y=>by
   have nj:j∉a9 tg:=λz=>by rw[(jG<|B j z).1]at E;cases E
   obtain⟨k1,k2⟩:=hk j nj;rw[k1]at Y;rw[k2]at Z;exact I j dd E Z Y
  have uA:∀b,Yd o D b->o.A b:=λb z=>z.elim (v.da b) λq=>by rw[q];exact fx.oD
  have To:=e4.kp _ _ (g _ _ X.at') fx.nd;have TM:=(X.rv.same g).mono S8 uA λ_ z=>z
  have LH:=(bc.of_same g).trans S8;have hmul:ds.length*m=(ds.length-(i+1))*m+(i*m+m):=by
   rw[<-ZU i m,<-Nat.add_mul];congr 1
   lia
  have TC:(i+1)*m=i*m+m:=ZU i m;cases zu:b.1 with
  |false=>rw[zu]at q;refine MH ?_;refine#[ds.length-(i+1),⋯,rfl,t,b.2,H,s,#[To,TM,X.er.back fx I Pl LH #[_,X.at']],u.trans LH,⋯,?_];have q:mR Φ.Ek ((az (aF tg (aZ F ts) fb ρ) (ds.drop<|i+1) b.2).bind λq=>R.ok (([]:List Dt)++q.1,q.2)) _:=q;rw[ae]at q;exact ag q λr _ q=>q
  |true=>
   rw[zu]at q;refine MJ ?_;refine L ρ1 M b.2 H (es++s) H4 _ V5 hk #[To,TM,Pl] (u.trans LH) ⋯ ⋯ q _ λl r h q c5 p l5=>?_
   rw[ae]at q;refine#[ds.length-(i+1),⋯,rfl,t,r.2,h,s++r.1,#[c5.at',by rw[<-Xi];exact c5.rv,X.er.back fx I c5.er (LH.trans p) #[_,X.at']],(u.trans LH).trans p,⋯,ag q λr' _ q=>?_];rw[Xi];exact q
 ·have e:i=ds.length:=⋯
  subst e;refine .inl #[A.stop n u,?_];rw[List.drop_length]at q;have q:P (s++[],S2):=q;rw[XM]at q;exact fin n (s,S2) H q X u gp
theorem AK(fx:OY Φ o D)(I:GZ Γ ρ σ D)(w:C8 Φ Γ o D ρ σ S acc es H)(W:acc.length<sizeLine)
  (q:mR Φ.Ek ((ev F c ρ S).bind λy=>aa (cJ c y.1)<|.ok ([y.1],y.2)) P) (Q) (k:∀l r h,P r->C8 Φ Γ o D ρ σ r.2 h (es++r.1) l->bc (Yd o D) H l->h.length<=acc.length+1->Q l):xP D (bR Φ Γ F g.fr c) σ H Q:=by
 rw[ae]at q;refine#[o,ρ,S,w.er,ag q λy _ q v l a i=>?_];obtain⟨m,q⟩:=aM q;have p:bc (Yd o D) H l:=a.ext.mono λb z=>.inl z
 have j:=a.ext.kp _ _ w.at' fx.nd;have uA:∀b,Yd o D b->o.A b:=λb z=>z.elim (w.er.da b) λq=>by rw[q];exact fx.oD
 have M:RV Φ.K o.A l v y.1:=by
  unfold cJ at m;rw[XN]at m;rcases m with m|m
  ·exact a.dJ<|W5 m
  ·exact a.val.yL m
 have up:bc (λb=>b=D) l (upd l D<|.lst<|acc++[v]):=xT j;refine#[acc,j,W,k _ ([y.1],y.2) (acc++[v]) q #[aQ,?_,i.emit j I fx.oD fx.nd fx.h0] (p.trans<|up.mono λb z=>.inr z)<|by simp];exact((w.rv.mono p uA λ_ z=>z).append<|ar.cons M ar.nil).mono up (λb z=>by rw[z];exact fx.oD) λ_ z=>z
theorem xR:2*lim<sizeLine:=by rw[aap];decide
theorem oS(er:ER Φ Γ o ρ S σ H)(B:gd X sc (bo Γ sc).1.N (bo Γ sc).2)(kG:(Rx.bo Γ sc).1.N.Nodup)(O:H D=B'):
  OY Φ (o.plus D) D/\GZ (bo Γ sc).1 (jg (bo Γ sc).2 ρ) (dm (bo Γ sc).2 σ) D/\C8 Φ (bo Γ sc).1 (o.plus D) D (jg (bo Γ sc).2 ρ) (dm (bo Γ sc).2 σ) S [] [] (upd H D<|.lst []):=by
 refine#[#[.inr rfl,λz=>?_,λx U=>?_],λj d E Z Y=>?_,#[aQ,ar.nil,er.bo B kG O]]
 ·obtain⟨y,F⟩:=er.al D<|er.da D z;rw[O]at F;cases F
 ·by_cases g:Φ.d0=y' D
  ·exact g
  ·have:=er.ent.kp D x U g;rw[O]at this;cases this
 ·obtain⟨b,J,c⟩:=gC Z;obtain⟨n,k1,k2⟩:=er.val b _ c;rw[<-lh J,aaf E]at k2;obtain⟨l,zJ,a,u,_⟩:=k2;rw[eX J k1]at Y;cases Y;cases a;rw[O]at u;cases u
theorem vY(J:lk c=0)(k:bc o.d H H1)(s:ER Φ Γ o ρ S σ H1)(O:H1 D=B')(w:C8 Φ (bo Γ sc).1 (o.plus D) D ρ2 σ2 S2 acc ds H2)(ex:bc (Yd (o.plus D) D) (upd H1 D<|.lst []) H2):
  EO Φ.K g.fr o c H (.lst ds) (.ref D) H2/\ER Φ Γ o ρ S2 σ H2:=by
 have u:bc o.d H1 H2:=#[λb x h n=>by
   have l:b≠D:=λz=>by rw[z,O]at h;cases h
   exact ex.kp b x (by rw[aN l];exact h) λz=>z.elim n l,λb xs h=>by
   have l:b≠D:=λz=>by rw[z,O]at h;cases h
   exact ex.tp b xs<|by rw[aN l];exact h]
 have i:¬o.A D:=λz=>by obtain⟨y,F⟩:=s.al D z;rw[O]at F;cases F
 have j:=s.dW k O;have a:=RV.fR w.at' i<|w.rv.weak λb z=>.inl z;refine#[#[k.trans u,a.weak s.gX,λ_=>a,λ_=>a.one,λ_ E K=>?_],s.step u w.er.drw w.er.drn];cases K;exact#[D,acc,rfl,j,w.at',w.rv.weak λb z=>z.elim (λz=>.inl<|s.gX b z) .inr,λ_=>w.rv]
theorem Ci(j:Φ.K=X.K)(B:gd X sc (bo Γ sc).1.N (bo Γ sc).2)(y:(bo Γ sc).1.N.Nodup)(Z:rQ (bo Γ sc).1 tg=y' t)
  (q:bR Φ Γ F g.fr (.comp (bo Γ sc).2 it t ts c) σ H Q):q9 (bo Γ sc).2 (nR Φ Γ F it) (GT X.K t) (pJ Φ (bo Γ sc).1 F ts) (λD=>xP D<|bR Φ (bo Γ sc).1 F g.fr c) σ H Q:=by
 obtain⟨o,ρ,S,er,q⟩:=q;rw[tJ,ae]at q;refine#[o,ρ,S,er,ag q λp _ q J H1 k s D O=>#[mH<|rd B Z,?_]];obtain⟨g1,q⟩:=aM q;rw[W3]at g1;have cN:=W5 g1.1;have A:=(k.Ui s g1.2).plus O;rw[ae]at q;have u:=xR;obtain⟨fx,I,w⟩:=oS s B y O;rw[<-j];refine vK (a0:=0) fx (λi hi=>(fB Z i hi).1) A I (λρ1 M S1 acc es n P K hk v e1 W _ q Q fin=>AK fx K v ⋯ q Q fin) w (ZW _) q λl r h q x e5 L=>?_
 obtain⟨k1,k2⟩:=vY (c:=.comp (bo Γ sc).2 it t ts c) rfl k.ext s O x e5;exact q _ _ k1 k2
theorem xH(hK:Φ.K=X.K)(B:gd X sc (bo Γ sc).1.N (bo Γ sc).2)(kG:(bo Γ sc).1.N.Nodup)(Gn:rQ (bo Γ sc).1 tg=y' t)(Ms:rQ (bo Γ sc).1 jO=y' t2)(Mh:∀i∈a9 t2,i∉a9 t)
  (q:bR Φ Γ F g.fr (.gD (bo Γ sc).2 it t ts ib t2 FB c) σ H Q):q9 (bo Γ sc).2 (nR Φ Γ F it) (GT X.K t) (pJ Φ (bo Γ sc).1 F ts) (λD=>Ot (nR Φ (bo Γ sc).1 F ib) (GT X.K t2) (pJ Φ (bo Γ sc).1 F FB) (xP D (bR Φ (bo Γ sc).1 F g.fr c))) σ H Q:=by
 obtain⟨o,ρ,S,er,q⟩:=q;rw[pC]at q;rw[ae]at q;refine#[o,ρ,S,er,ag q λp _ q J H1 io aG D hD=>#[mH (rd B Gn),?_]];obtain⟨g1,q⟩:=aM q;rw[W3]at g1;have wk:=(io.Ui aG g1.2).plus hD;rw[ae]at q;have kP:=xR;obtain⟨fx,hn,cs⟩:=oS aG B kG hD;rw[<-hK];have hdiv:p.1.length*(lim/p.1.length)<=lim:=Nat.mul_div_le _ _;refine vK (m:=lim/p.1.length) (a0:=0) fx (λi hi=>(fB Gn i hi).1) wk hn (λρ1 σ1 S1 acc es H2 P n1 hk c1 e1 hl hp0 q Q fin=>?_) cs (ZW _) q λH5 r je q c5 e5 l5=>?_
 ·refine#[mH λi hi=>?_,?_]
  ·rw[(hk i (Mh i hi)).1];exact rd B Ms i hi
  ·rw[ae]at q;refine#[o.plus D,ρ1,S1,c1.er,ag q λx2 _ q J2 H3 io2 HB=>?_];obtain⟨g2,q⟩:=aM q;rw[W3]at g2;have gp:=W5 g2.1;have uA:∀b,Yd (o.plus D) D b->(o.plus D).A b:=λb z=>z.elim (HB.da b) λq=>.inr q
   have Wi:=(io2.w0 (W5 g2.2)).less uA;have e3:bc (Yd (o.plus D) D) H2 H3:=io2.ext.mono λb z=>.inl z
   have WO:=(Nat.le_div_iff_mul_le hp0).mpr (by rw[Nat.mul_comm];exact gp);refine vK fx (λi hi=>(fB Ms i hi).1) Wi n1 (λρ2 σ2 S2 uB DG H4 P2 n2 hk2 c2 e2 hl _ q Q fin=>AK fx n2 c2 ⋯ q Q fin) #[io2.ext.kp _ _ c1.at' fx.nd,c1.rv.mono e3 uA λ_ z=>z,HB] (W9 _) q λH5 r je q c5 e5 l5=>?_
   exact fin H5 r je q c5 (e3.trans e5) ⋯
 ·obtain⟨k1,k2⟩:=vY (c:=.gD (bo Γ sc).2 it t ts ib t2 FB c) rfl io.ext aG hD c5 e5;exact q _ _ k1 k2
end
def C4:Expr->Bool
 |.Starred ..=>J'
 |.Slice ..=>J'
 |.Set ..=>J'
 |.Call (.Name _ _) [] _ _=>J'
 |_=>G'
theorem D6(h:Ir Γ e=G'):∃x p i,e= .Name x p/\slot Γ x=y' i/\Γ.δ=y' i:=by
 unfold Ir at h;split at h
 ·rename_i x U;split at h
  ·rename_i i hi;exact#[x.1,x.2,i,m9 U,hi,Xr h]
  ·cases h
 ·cases h
theorem bY(h:C4 e=G')(es)(env):starEach (e::es) env=(J',eval e env)::starEach es env:=by cases e<;>first|rfl|(cases h)
theorem Mf(h:C4 e=G'):pQ e:=by intro o i;cases e<;>first|rfl|(cases h)
theorem DT(h:C4 e=G')(b):behindInMarks b e=J':=by cases e<;>first|rfl|(cases h)
theorem iS(h:C4 e=G')(env):∀x,foldedSetIterable e env x=pure x:=by intro x;cases e<;>first|rfl|(cases h)
theorem cC(h:∀ρ S,cg F c ρ S= .bad):PT X e (gu Φ Γ F c):=λM s O H Q I q=>by obtain⟨o,ρ,S,er,q⟩:=q;rw[h]at q;exact q.elim
section
variable{g:G}{xv:Nat->Value}{CX:oo}{k:Nat}{F:FT}
structure Ut(g:G)(F:FT)(n:Nat)(Γ:Gm)(X:Cx)(Φ:Fm):Prop where
 e:∀e c,cE n g Γ e=y' c->PE X e (bR Φ Γ F g.fr c)/\PT X e (gu Φ Γ F c)/\C4 e=G'
 es:∀es cs,n9 n g Γ es=y' cs->PA X es (nS Φ Γ F cs)/\cs.len=es.length/\∀e∈es,C4 e=G'
 ts:∀es cs,zq n g Γ es=y' cs->FI X es (pJ Φ Γ F cs)
 b:∀o es c pos,cB n g Γ o es=y' c->PE X (.BoolOp o es pos) (bR Φ Γ F g.fr c)/\PW X (.BoolOp o es pos) (gu Φ Γ F c)
 i:∀tg e it,cI n g Γ tg e=y' it->PI X tg e (nR Φ Γ F it)/\C4 e=G'
 c:∀f a as c p pos,oU n g Γ f a as=y' c->PE X (.Call (.Name f p) (a::as) [] pos) (bR Φ Γ F g.fr c)/\PT X (.Call (.Name f p) (a::as) [] pos) (gu Φ Γ F c)
theorem l7(h:∀e∈es,C4 e=G'):(backTo pos<|starEach es env).any (·.1)=J':=by
 induction es with
 |nil=>rfl
 |cons e es O=>rw[bY (h e Xa)];show (J'||(backTo pos<|starEach es env).any (·.1))=J';rw[O λJ z=>h J<|W7 _ z];rfl
theorem m8{x y:Str}(h:(x==y)=J'):x≠y:=λe=>by subst e;rw[Z9]at h;cases h
theorem bq(h:df x=G'):(x==("__debug__":Str))=J'/\(x==("__classdict__":Str))=J'/\x≠"__name__":=by unfold df at h;rw[W3,W3]at h;have Z:=h.1.1;have Y:=h.1.2;have u:=h.2;rw[X8]at Z Y u;exact#[Z,Y,m8 u]
def SC:C->Bool
 |.nt _|.and ..|.or ..|.cmp ..|.ch ..|.var _|.mvr _|.call ..|.callD ..|.bi ..|.idx ..=>G'
 |_=>J'
theorem bI(h:SC c=J'):cg F c ρ S= .bad:=by cases c<;>first|rfl|cases h
theorem boot_divmod:bootBuiltins "divmod"=y' (.builtin "divmod"):=by decide +kernel
theorem Ak:∀t∈Aj,JN t.2.2=G'/\bootBuiltins t.1=y' (KH t.2.2):=by
 intro t J;simp only[Aj,Xg,Xh,aan]at J;rcases J with rfl|rfl|rfl|rfl|rfl|rfl|rfl|rfl|rfl|rfl|rfl|rfl|rfl
 ·exact#[rfl,PySem.boot_len]
 ·exact#[rfl,PyProof.Rows.boot_abs]
 ·exact#[rfl,PyProof.Rows.boot_min]
 ·exact#[rfl,PyProof.Rows.boot_max]
 ·exact#[rfl,PyProof.Rows.boot_sum]
 ·exact#[rfl,PyProof.Rows.boot_any]
 ·exact#[rfl,PyProof.Rows.boot_all]
 ·exact#[rfl,PyProof.Rows.boot_min]
 ·exact#[rfl,PyProof.Rows.boot_max]
 ·exact#[rfl,PyProof.Rows.boot_sorted]
 ·exact#[rfl,PyProof.Rows.boot_tuple]
 ·exact#[rfl,PyProof.Rows.boot_list]
 ·exact#[rfl,boot_divmod]
theorem Ds(h:Dr x n=y' b):JN b=G'/\bootBuiltins x=y' (KH b):=by unfold Dr at h;obtain⟨t,Z,rfl⟩:=Xj.mp h;have E:=List.mem_of_find?_eq_some Z;have B:=List.find?_some Z;rw[W3]at B;rw[<-Xr B.1];exact Ak t E
theorem Hj(h:JN b=G'):(∃id,KH b= .builtin id)\/∃T,KH b= .type T:=by cases b<;>first|exact .inl #[_,rfl]|exact .inr #[_,rfl]|cases h
theorem iQ(h:g.bls.contains x=G'):x∈g.bls:=by simpa using h
theorem Sf(j:Φ.K=X.K)(w:GX g Γ X)(h:Gl X x)(E:X.mg x=B')(U:df x=G')(L:Dr x n=y' b)(l:starEach (a::as) X.env=(J',eval a X.env)::starEach as X.env)(i:(backTo pos<|starEach as X.env).any (·.1)=J')
  (m:PA X (a::as) (nS Φ Γ F cs)):PE X (.Call (.Name x p) (a::as) [] pos) (bR Φ Γ F g.fr<|.bi b cs):=by
 obtain⟨Z,Y⟩:=Ds L;obtain⟨K,P,k⟩:=bq U;have J:=Du (X:=X) b Z w.calm w.un;rcases Hj Z with ⟨id,e⟩|⟨T,e⟩
 ·rw[e]at Y J;exact bt (jF J h E Y m k K l i) λO H Q q=>AS j q
 ·rw[e]at Y J;exact bt (yQ J h E Y m k K l i) λO H Q q=>AS j q
theorem u5{C:Addr}(r:HX g xv CX k F Φ X):HX g xv CX k F Φ (ji X sc N' C s H fp<|zI X sc N' (vR Φ xv) C s H fp) where
 K:=r.K
 P:=r.P
 w:=r.w
 fx:=r.fx
 room:=r.room
 cx:=r.cx
 st:=qZ r.st
 xgx:=λe S h=>CM h
 xk:=r.xk
theorem jJ(n):∀(Γ:Gm)(X:Cx)(Φ:Fm),GX g Γ X->HX g xv CX k F Φ X->Ut g F n Γ X Φ:=by
 induction n with
 |zero=>intro Γ X Φ w hX;exact#[λe c h=>by simp[cE]at h,λe c h=>by simp[n9]at h,λe c h=>by simp[zq]at h,λo e c p h=>by simp[cB]at h,λo e c h=>by simp[cI]at h,λf a as c p q h=>by simp[oU]at h]
 |succ n ih=>
  intro Γ X Φ w hX;have I:=ih Γ X Φ w hX;have j:=hX.K;have hu:=w.un;refine#[λe c h=>?_,λes cs h=>?_,λes cs h=>?_,λo es c pos h=>?_,λtg e it h=>?_,λf a as c p pos h=>?_]
  ·
   unfold cE at h;cases e<;>first|(cases h;done)|dsimp only at h
   ·obtain⟨k1,k2⟩:=I.b _ _ _ _ h;exact#[k1,k2.pt,rfl]
   ·refine uG c h λa' Z b' Y=>?_
    exact#[NP j (I.e _ _ Z).1 (I.e _ _ Y).1,cC λρ S=>bI rfl,rfl]
   ·refine bx h λa' Z h9=>?_
    clear h;split at h9
    ·cases h9;exact#[NV (I.e _ _ Z).1,cC λρ S=>bI rfl,rfl]
    ·cases h9;exact#[Sg (I.e _ _ Z).1,NX (I.e _ _ Z).2.1,rfl]
    ·cases h9
   ·
    unfold Pf at h
    (try dsimp only at h)
    rename_i elt gens sc pos;split at h
    ·rename_i hk;split at h
     ·rename_i tg it ifs;refine bx h λlj Z h=>?_
      refine bx h λnT Y h=>?_
      refine bx h λrf h3 h=>?_
      refine bx h λe' h4 h=>?_
      split at h
      ·rename_i L;cases h;rw[W3]at L;have DX:sc.kind= .function:=Xr hk;have B:=uJ w DX L.1;have kG:(bo Γ sc).1.N.Nodup:=W5 L.2;have J:=λC s H v=>ih (bo Γ sc).1 (ji X sc (bo Γ sc).1.N C s H v<|zI X sc (bo Γ sc).1.N (vR Φ xv) C s H v) Φ (fM w B kG) (u5 hX)
       refine#[bt (tj (xb:=zI X sc (bo Γ sc).1.N<|vR Φ xv) (body:=λW env=>mB elt W env) w.calm B (lY hX.st hX.xgx) (I.i _ _ _ Z).1 (λrz W env=>t7 ..) (λC s H v=>vA (fM w B kG) Y) (λC s H v=>(J C s H v).ts _ _ h3) (λC s H v D=>lK ((J C s H v).e _ _ h4).1)<|iS (I.i _ _ _ Z).2 _) λO H Q q=>Ci j B kG Y q,cC λρ S=>bI rfl,rfl]
      ·cases h
     ·rename_i tg it ifs jO ib cZ;refine bx h λlj Z h=>?_
      refine bx h λnT Y h=>?_
      refine bx h λrf h3 h=>?_
      refine bx h λsN h5 h=>?_
      refine bx h λnU h6 h=>?_
      refine bx h λtY h7 h=>?_
      refine bx h λe' h4 h=>?_
      split at h
      ·rename_i L;cases h;rw[W3,W3]at L;have DX:sc.kind= .function:=Xr hk;have B:=uJ w DX L.1.1;have kG:(bo Γ sc).1.N.Nodup:=W5 L.1.2;have Mh:∀i∈a9 nU,i∉a9 nT:=λi hi z=>by have:=XF.mp L.2 i hi;simp[z]at this
       have J:=λC s H v=>ih (bo Γ sc).1 (ji X sc (bo Γ sc).1.N C s H v<|zI X sc (bo Γ sc).1.N (vR Φ xv) C s H v) Φ (fM w B kG) (u5 hX)
       refine#[bt (tj (xb:=zI X sc (bo Γ sc).1.N<|vR Φ xv) (body:=λW env=>nextOf (.ListComp elt [#[tg,it,ifs,0],#[jO,ib,cZ,0]] sc pos) 1 ib W env) w.calm B (lY hX.st hX.xgx) (I.i _ _ _ Z).1 (λrz W env=>t9 ..) (λC s H v=>vA (fM w B kG) Y) (λC s H v=>(J C s H v).ts _ _ h3)
        (λC s H v D=>xa w.calm (w6 hX.st) ((J C s H v).i _ _ _ h5).1 (vA (fM w B kG) h6) ((J C s H v).ts _ _ h7) (lK ((J C s H v).e _ _ h4).1)<|iS ((J C s H v).i _ _ _ h5).2 _) (iS (I.i _ _ _ Z).2 _)) λO H Q q=>xH j B kG Y h6 Mh q,cC λρ S=>bI rfl,rfl]
      ·cases h
     ·cases h
    ·cases h
   ·unfold Lm at h
    (try dsimp only at h)
    split at h
    ·refine uG c h λa' Z b' Y=>?_
     have E:=DT (I.e _ _ Y).2.2;exact#[NQ j hu (E _) (I.e _ _ Z).1 (I.e _ _ Y).1,JU j hu (E _) (I.e _ _ Z).1 (I.e _ _ Y).1,rfl]
    ·cases h
   ·unfold SZ at h
    (try dsimp only at h)
    split at h
    ·split at h
     ·rename_i A;obtain rfl:=jW A rfl;split at h
      ·obtain⟨k1,k2⟩:=I.c _ _ _ _ _ _ h;exact#[k1,k2,rfl]
      ·cases h
     ·rename_i o m ap A;obtain rfl:=jW A rfl;unfold SY at h;split at h
      ·
       split at h
       ·rename_i E;rw[W3]at E;have em:=Xr E.1;subst em;refine bx h ?_;clear h;intro x U h;obtain rfl:=m9 U;split at h
        ·rename_i i hi;split at h
         ·rename_i hδ;cases h;obtain⟨v1,v2,v3⟩:=fU hi;obtain⟨n1,n2,n3⟩:=bq v2;exact#[JX j (Xr hδ) (kf (by rw[w.N];exact v3) (w.vis _ v1) n1 n2) E.2,cC λρ S=>bI rfl,rfl]
         ·cases h
        ·cases h
       ·cases h
      ·cases h
     ·cases h
    ·cases h
   ·split at h
    ·cases h;exact#[tQ rfl Jp,cC λρ S=>bI rfl,rfl]
    ·cases h;exact#[tQ rfl Jr,cC λρ S=>bI rfl,rfl]
    ·cases h;exact#[tQ rfl Gz,cC λρ S=>bI rfl,rfl]
    ·cases h;exact#[tQ rfl Jq,cC λρ S=>bI rfl,rfl]
    ·cases h
   ·unfold Lu at h
    (try dsimp only at h)
    split at h
    ·refine uG c h λa' Z b' Y=>?_
     exact#[J1 j (I.e _ _ Z).1 (I.e _ _ Y).1,cC λρ S=>bI rfl,rfl]
    ·refine uG c h λa' Z b' Y=>?_
     exact#[J0 j (I.e _ _ Z).1 (I.e _ _ Y).1,cC λρ S=>bI rfl,rfl]
    ·refine uG c h λa' Z b' Y=>?_
     have k1:=λpos=>NR (pos:=pos) j (Mf (I.e _ _ Y).2.2) (I.e _ _ Z).1 (I.e _ _ Y).1
     refine#[k1 _,lN j (k1 _) (λ_=>rfl) λρ S=>?_,rfl];rw[B6,xy];cases ev F a' ρ S with
     |ok x=>
      simp only[R.ao];cases ev F b' ρ x.2 with
      |ok y=>simp only[R.ao];cases cq x.1 y.1<;>rfl
      |ex k=>rfl
      |bad=>rfl
     |ex k=>rfl
     |bad=>rfl
   ·
    unfold S4 at h;rename_i x p;split at h
    ·rename_i i hi;obtain⟨v1,v2,v3⟩:=fU hi;obtain⟨n1,n2,n3⟩:=bq v2;have hv:PE X (.Name x p) (i4 i):=kf (by rw[w.N];exact v3) (w.vis x v1) n1 n2;split at h
     ·cases h
     rename_i hδκ;split at h
     ·rename_i E;cases h;have:=NU (Φ:=Φ) (F:=F) (fr:=g.fr) hv E λz=>hδκ (by simp[z])
      exact#[this,lN j this (λ_=>rfl) λρ S=>by rw[B7,qM];cases aT ρ i<;>rfl,rfl]
     ·rename_i E;cases h;have:=N3 (Φ:=Φ) (F:=F) (fr:=g.fr) hv (by simpa using E);exact#[this,lN j this (λ_=>rfl) λρ S=>by rw[B8,xA];cases aT ρ i<;>rfl,rfl]
    ·split at h
     ·rename_i hg;rw[W3]at hg;obtain⟨d,Z,rfl⟩:=Xj.mp h;obtain⟨u,k1,k2,k3⟩:=w.con x d Z;exact#[tQ k1<|xh (w.gl x hg.1) k2 k3 (bq hg.2).1,cC λρ S=>bI rfl,rfl]
     ·cases h
   ·refine zp c h λiO Z=>?_
    exact#[NT (I.es _ _ Z).1,cC λρ S=>bI rfl,rfl]
   ·refine zp c h λiO Z=>?_
    exact#[N2 (I.es _ _ Z).1,cC λρ S=>bI rfl,rfl]
  ·
   unfold n9 at h;split at h
   ·cases h;exact#[NW,rfl,λe z=>by cases z]
   ·refine uG cs h λe' Z iO Y=>?_
    obtain⟨k1,k2,k3⟩:=I.es _ _ Y;refine#[JV (bY (I.e _ _ Z).2.2 _ _) (I.e _ _ Z).1 k1,by simp[Cs.len,k2],λe z=>?_];rcases Xg.mp z with rfl|z
    ·exact(I.e _ _ Z).2.2
    ·exact k3 e z
  ·
   unfold zq at h;split at h
   ·cases h;exact λM s O H Q I q=>EY M s O H Q I (by obtain⟨o,ρ,S,er,q⟩:=q;rw[kn]at q;exact q _ bc.refl er)
   ·refine zp cs h λe' Z=>?_
    refine λM s O H Q I' q=>EZ (I.e _ _ Z).2.1 M s O H Q I' ?_
    obtain⟨o,ρ,S,er,q⟩:=q;rw[kK]at q;exact#[o,ρ,S,er,q]
   ·cases h
  ·
   unfold cB at h;split at h
   ·rename_i e;have k1:=(I.e _ _ h).1;have k2:=(I.e _ _ h).2.1;refine#[BR k1,?_];cases o with
    |And=>exact E0 k2
    |Or=>exact JE k2
   ·rename_i e es cH;refine uG c h λe' Z iO Y=>?_
    cases es with
    |nil=>exact(cH rfl).elim
    |cons b rest=>
     obtain⟨k1,k2⟩:=I.b o _ _ pos Y;cases o with
     |And=>exact#[NO (I.e _ _ Z).1 k1,JT (I.e _ _ Z).2.1 k2]
     |Or=>exact#[Sh (I.e _ _ Z).1 k1,NY (I.e _ _ Z).2.1 k2]
   ·cases h
  ·
   unfold cI at h;have sq:∀{it},((cE n g Γ e).bind λc=>y'<|nZ.seq c)=y' it->_:=λ {it} h=>zp (P:=λit=>PI X tg e (nR Φ Γ F it)/\C4 e=G') it h λc Z=>#[NZ j (I.e _ _ Z).1,(I.e _ _ Z).2.2]
   split at h
   ·rename_i h0 as q Bb;obtain rfl:=Ax Bb;split at h
    ·rename_i x U;obtain rfl:=m9 U;obtain⟨f,p⟩:=x;dsimp only at h;unfold Ls at h;split at h
     ·split at h
      ·rename_i A;have ef:=Xr A;subst ef;split at h
       ·rename_i hg;rw[W3]at hg;refine zp it h λa' Z=>?_
        exact#[JY (w.gl _ hg.1) (w.bl _<|iQ hg.2) (bY (I.e _ _ Z).2.2 [] _) (I.e _ _ Z).1,rfl]
       ·cases h
      ·exact sq h
     ·split at h
      ·rename_i A;have ef:=Xr A;subst ef;split at h
       ·cases h
       ·cases h
      split at h
      ·rename_i A;have ef:=Xr A;subst ef;split at h
       ·rename_i hg;rw[W3,W3]at hg;obtain⟨⟨Q2,hg⟩,Vq⟩:=hg;obtain⟨_,_,_,rfl⟩:=D7 Q2
        replace hg:=And.intro hg Vq
        ·refine uG it h λa' Z b' Y=>?_
         have e2:=bY (I.e _ _ Y).2.2 [] X.env;exact#[N4 j (w.gl _ hg.1) (w.bl _<|iQ hg.2) (by rw[bY (I.e _ _ Z).2.2,e2];rfl) e2 (I.e _ _ Z).1 (I.e _ _ Y).1,rfl]
       ·cases h
      ·exact sq h
     ·rename_i a b d;split at h
      ·rename_i A;have ef:=Xr A;subst ef;split at h
       ·rename_i hg;rw[W3]at hg;refine SX it h λa' Z b' Y d' h3=>?_
        have l:=bY (I.e _ _ h3).2.2 [] X.env;have e2:starEach [b,d] X.env=[(J',eval b X.env),(J',eval d X.env)]:=by rw[bY (I.e _ _ Y).2.2,l];rfl
        exact#[JZ (w.gl _ hg.1) (w.bl _<|iQ hg.2) (by rw[bY (I.e _ _ Z).2.2,e2]) e2 l (I.e _ _ Z).1 (I.e _ _ Y).1 (I.e _ _ h3).1,rfl]
       ·cases h
      ·exact sq h
     ·exact sq h
    ·exact sq h
   ·exact sq h
  ·
   have tr:∀{c:C},(∀ρ S,cg F c ρ S=(ev F c ρ S).bind λx=>(cU x.1).bind λb=>.ok (b,x.2))->PE X (.Call (.Name f p) (a::as) [] pos) (bR Φ Γ F g.fr c)->PE X (.Call (.Name f p) (a::as) [] pos) (bR Φ Γ F g.fr c)/\PT X (.Call (.Name f p) (a::as) [] pos) (gu Φ Γ F c):=λK h=>#[h,lN j h (λ_=>rfl) K]
   have S9:∀(b:BI)(cs:Cs)ρ S,cg F (.bi b cs) ρ S=(ev F (.bi b cs) ρ S).bind λx=>(cU x.1).bind λb=>.ok (b,x.2):=λb cs ρ S=>by
    rw[xx,qK];cases fK F cs ρ S with
    |ok x=>simp only[R.ao];cases cG b x.1<;>rfl
    |ex k=>rfl
    |bad=>rfl
   have UK:∀(f:Nat)(cs:Cs)(ds:List Dt)ρ S,cg F (.call f cs ds) ρ S=(ev F (.call f cs ds) ρ S).bind λx=>(cU x.1).bind λb=>.ok (b,x.2):=λf cs ds ρ S=>by
    rw[yY,tF];cases fK F cs ρ S with
    |ok x=>simp only[R.ao];cases F f (x.1++ds) B'<;>rfl
    |ex k=>rfl
    |bad=>rfl
   have UJ:∀(f:Nat)(cs:Cs)ρ S,cg F (.callD f cs) ρ S=(ev F (.callD f cs) ρ S).bind λx=>(cU x.1).bind λb=>.ok (b,x.2):=λf cs ρ S=>by
    rw[vx,pB];cases S.isSome with
    |false=>rfl
    |true=>
     simp only[guard_true];cases fK F cs ρ S with
     |ok x=>
      simp only[R.ao];cases x.2 with
      |none=>rfl
      |some s=>rfl
     |ex k=>rfl
     |bad=>rfl
   unfold oU at h;split at h
   ·rename_i hg;rw[W3]at hg;have LU:=w.gl f hg.1;obtain⟨n1,n2,n3⟩:=bq hg.2;split at h
    ·rename_i kk np fJ bw zA;split at h
     ·
      rename_i hdp;have:bw=G':=hdp;subst this;unfold Ln at h;refine bx h ?_;clear h;intro y hy h;obtain rfl:=m9 hy;refine bx h λi hi h=>?_
      split at h
      ·rename_i hδ;rw[W3]at hδ;refine bx h λes Z h=>?_
       split at h
       ·rename_i zC;cases h;obtain⟨v1,v2,v3⟩:=fU hi;obtain⟨m1,m2,m3⟩:=bq v2;obtain⟨k1,k2,k3⟩:=I.es _ _ Z;exact tr (UJ _ _)<|Fi hX LU n1 zA (Xr hδ.1) (by rw[k2];exact Xr hδ.2) (Xr zC) (kf (by rw[w.N];exact v3) (w.vis _ v1) m1 m2) rfl (l7 k3) k1
       ·cases h
      ·cases h
     ·rename_i hdp;have:bw=J':=by simpa using hdp
      subst this;split at h
      ·rename_i hn;rw[W3]at hn;have a1:=W5 hn.1;have a2:=W5 hn.2;refine zp c h λes Z=>?_
       obtain⟨k1,k2,k3⟩:=I.es _ _ Z;refine tr (UK _ _ _)<|s_call hX LU n1 zA (Nat.sub_le _ _) ?_ (bY (k3 a Xa) _ _) (l7 λe z=>k3 e<|W7 _ z) k1;rw[k2,Y1,Xm];omega
      ·cases h
    ·split at h
     ·rename_i hbl;have E:=w.bl f<|iQ hbl;split at h
      ·rename_i hlen;rw[W3,W3]at hlen;have ef:=Xr hlen.1.1;subst ef;obtain⟨y,yp,i,rfl,hi,hδ⟩:=D6 hlen.1.2;have UH:as=[]:=by simpa using hlen.2
       subst UH;cases h;obtain⟨v1,v2,v3⟩:=fU hi;obtain⟨m1,m2,m3⟩:=bq v2;exact#[JW hδ LU E<|kf (by rw[w.N];exact v3) (w.vis y v1) m1 m2,cC λρ S=>bI rfl]
      split at h
      ·rename_i hisi;have ef:=Xr hisi;subst ef;unfold Lo at h
       (try dsimp only at h)
       split at h
       ·refine bx h ?_;clear h;intro t ht h;obtain rfl:=m9 ht;obtain⟨t,tp⟩:=t;dsimp only at h;split at h
        ·rename_i hg2;rw[W3]at hg2;refine uG c h λT Z a' Y=>?_
         have tn:t≠"__name__"/\(t==("__debug__":Str))=J':=by
          unfold vJ at Z;split at Z
          ·rename_i e;rw[Xr e];exact#[by decide,by decide]
          split at Z
          ·rename_i e;rw[Xr e];exact#[by decide,by decide]
          split at Z
          ·rename_i e;rw[Xr e];exact#[by decide,by decide]
          split at Z
          ·rename_i e;rw[Xr e];exact#[by decide,by decide]
          split at Z
          ·rename_i e;rw[Xr e];exact#[by decide,by decide]
          ·cases Z
         exact tr (S9 _ _)<|NS j LU E (w.gl t hg2.1) (w.bl t<|iQ hg2.2) Z tn.1 tn.2 (bY (I.e _ _ Y).2.2 _ _) (I.e _ _ Y).1
        ·cases h
       ·cases h
      ·have regular:∀{c:C},rO (λ_=>n9 n) n g Γ f a as=y' c->PE X (.Call (.Name f p) (a::as) [] pos) (bR Φ Γ F g.fr c)/\PT X (.Call (.Name f p) (a::as) [] pos) (gu Φ Γ F c):=λ {c} h=>by
        refine uG c h λb Z es Y=>?_
        obtain⟨k1,k2,k3⟩:=I.es _ _ Y;exact tr (S9 _ _) (Sf j w LU E hg.2 Z (bY (k3 a Xa) _ _) (l7 λe z=>k3 e<|W7 _ z) k1)
       unfold Lp at h
       (try dsimp only at h)
       split at h
       ·split at h
        ·rename_i h0 xs ip Bb;obtain rfl:=Ax Bb;split at h
         ·rename_i r rp A;obtain rfl:=jW A rfl;split at h
          ·split at h
           ·cases h
           split at h
           ·cases h
           ·exact regular h
          ·split at h
           ·cases h
           ·exact regular h
          ·exact regular h
         ·exact regular h
         ·exact regular h
        ·exact regular h
       ·exact regular h
     ·cases h
   ·cases h
end
structure OI(Φ:Fm)(W:Addr->Prop)(o:Ow):Prop where
 w:o.W=W
 d:∀a,Φ.d0=y' a->o.dr=y' a
structure SO(Φ:Fm)(Γ:Gm)(W:Addr->Prop)(o:Ow)(H:Hp)(ρ':ah)(S':Sx)(σ':L2.St)(H':Hp):Prop where
 ex:∃o',OI Φ W o'/\ER Φ Γ o' ρ' S' σ' H'/\∀b,o'.A b->o.A b\/H b=B'
 ext:bc o.A H H'
 al:∀b x,H b=y' x->∃y,H' b=y' y
structure RO(Φ:Fm)(W:Addr->Prop)(fF:Bool)(d:Dt)(S':Sx)(v:V)(H':Hp):Prop where
 val:RV Φ.K W H' v d
 ent:bc (λb=>Φ.d0=y' b) Φ.H0 H'
 drw:∀a,Φ.d0=y' a->∃ns:List Int,S'=y' ns/\H' a=y' (.lst<|ns.map V.int)
 fE:fF=G'->∀ds,d= .lst ds->∃a xs,v= .ref a/\Φ.H0 a=B'/\H' a=y' (.lst xs)/\ar Φ.K (λb=>W b\/b=a) H' xs ds
def dF(Φ:Fm)(Γ:Gm)(W:Addr->Prop)(fF:Bool)(o:Ow)(H:Hp)(D:Ends)(p:Fl×ah×Sx):Prop:=match p.1 with
 |.next=>∀σ' H',SO Φ Γ W o H p.2.1 p.2.2 σ' H'->D.nx σ' H'
 |.brk=>∀σ' H',SO Φ Γ W o H p.2.1 p.2.2 σ' H'->D.bk σ' H'
 |.cnt=>∀σ' H',SO Φ Γ W o H p.2.1 p.2.2 σ' H'->D.ct σ' H'
 |.ret d=>∀v H',RO Φ W fF d p.2.2 v H'->D.rt v H'
inductive jN(Φ:Fm)(Γ:Gm)(F:FT)(W:Addr->Prop)(fF:Bool)(t:T)(D:Ends)(σ:L2.St)(H:Hp):Prop
 |mk (o:Ow) (ρ:ah) (S:Sx) (i:OI Φ W o) (e:ER Φ Γ o ρ S σ H) (m:mR Φ.Ek (ex F t ρ S) (dF Φ Γ W fF o H D)):jN Φ Γ F W fF t D σ H
inductive kT(Φ:Fm)(Γ:Gm)(F:FT)(W:Addr->Prop)(fF:Bool)(t:Ts)(D:Ends)(σ:L2.St)(H:Hp):Prop
 |mk (o:Ow) (ρ:ah) (S:Sx) (i:OI Φ W o) (e:ER Φ Γ o ρ S σ H) (m:mR Φ.Ek (bf F t ρ S) (dF Φ Γ W fF o H D)):kT Φ Γ F W fF t D σ H
theorem bC(h:PS X e t)(hi:∀D O H,t' D O H->t D O H):PS X e t':=λM s O H D I q=>h M s O H D I<|hi D O H q
theorem xq(h:rG X e t)(hi:∀D O H,t' D O H->t D O H):rG X e t':=λM s O H D I q=>h M s O H D I<|hi D O H q
section
variable{X:Cx}{Φ:Fm}{Γ:Gm}{F:FT}{g:G}{W:Addr->Prop}{fF:Bool}{o:Ow}{ρ:ah}{S:Sx}{σ:L2.St}{H H':Hp}
theorem ER.dA(er:ER Φ Γ o ρ S σ H)(e:bc o.d H H1):bc o.A H H1:=e.mono er.da
theorem ER.F7(s:ER Φ Γ o ρ1 S1 σ1 H1)(e:bc o.d H H1):∀b x,H b=y' x->∃y,H1 b=y' y:=λb x h=>e.al h λz=>s.al b<|s.da b z
theorem SO.fT(r:OI Φ W o)(er:ER Φ Γ o ρ' S' σ' H')(e:bc o.d H H'):SO Φ Γ W o H ρ' S' σ' H':=#[#[o,r,er,λb z=>.inl z],e.mono er.da,er.F7 e]
theorem SO.go(e:bc o.A H H1)(X:∀b,o'.A b->o.A b\/H b=B')(i:∀b x,H b=y' x->∃y,H1 b=y' y)(h:SO Φ Γ W o' H1 ρ2 S2 σ2 H2):SO Φ Γ W o H ρ2 S2 σ2 H2:=by
 obtain⟨⟨o2,a,Z,Q⟩,e2,a2⟩:=h;refine#[#[o2,a,Z,λb z=>?_],#[λb x h n=>?_,λb xs h=>e2.tp _ _<|e.tp _ _ h],λb x h=>?_]
 ·rcases Q b z with q|q
  ·exact X b q
  ·refine .inr ?_;cases L:H b with
   |none=>rfl
   |some x=>obtain⟨y,F⟩:=i b x L;rw[q]at F;cases F
 ·refine e2.kp _ _ (e.kp _ _ h n) λz=>?_
  rcases X b z with q|q
  ·exact n q
  ·rw[h]at q;cases q
 ·obtain⟨y,F⟩:=i b x h;exact a2 b y F
theorem lV(h:cJ c d=G')(I:EO Φ.K fr o c H d v H1):RV Φ.K o.A H1 v d:=by
 unfold cJ at h;rw[XN]at h;rcases h with h|h
 ·exact I.dJ<|W5 h
 ·exact I.val.yL h
theorem GU{st:Stmt}(B:plainS Γ i=G')(h:PS X st (oJ (bR Φ Γ F g.fr c)<|e9 i)):PS X st (jN Φ Γ F W fF<|.asg i c):=bC h λD O H q=>by obtain⟨o,ρ,S,r,er,q⟩:=q;rw[qN,ae]at q;refine#[o,ρ,S,er,ag q λp _ q v P I s=>?_];obtain⟨m,q⟩:=aM q;exact q _ _<|SO.fT r (s.set B<|lV m I) I.ext
theorem OL{st:Stmt}(B:plainS Γ i=G')(h:PS X st (Ol i (bR Φ Γ F g.fr c)<|TZ λi j=>i+j)):PS X st (jN Φ Γ F W fF<|.aug i c):=bC h λD O H q=>by
 obtain⟨o,ρ,S,r,er,q⟩:=q;rw[Fb,ae]at q;obtain⟨d,w,q⟩:=kZ q;rw[ae]at q;obtain⟨v,Z,Y⟩:=er.val i _ w;unfold plainS at B;have m:eR Γ i=J':=by rw[W3]at B;simpa using B.1
 rw[aae (by rw[m];simp)]at Y;refine#[v,Z,o,ρ,S,er,ag q λp _ q y P I s=>?_];cases d with
 |int a=>
  cases hd:p.1 with
  |int b=>rw[hd]at q;have M:=I.val;rw[hd]at M;exact#[a,b,Y.int_inv,M.int_inv,q _ _<|SO.fT r (s.set B RV.eh) I.ext]
  |_=>rw[hd]at q;exact q.elim
 |_=>exact q.elim
theorem Kt{st:Stmt}(B:plainS Γ i=G')(A:fresh g.fr c=G')(h:PS X st (oJ (bR Φ Γ F g.fr c)<|e9 i)):PS X st (jN Φ Γ F W fF<|.asgM i c):=bC h λD O H q=>by
 obtain⟨o,ρ,S,r,er,q⟩:=q;rw[nG,ae]at q;refine#[o,ρ,S,er,ag q λp _ q v P I s=>?_];obtain⟨m,q⟩:=aM q;have M:RV Φ.K o.A P v p.1:=by
  by_cases hd:∃ds,p.1= .lst ds
  ·obtain⟨ds,hd⟩:=hd;obtain⟨a,xs,rfl,Z,Y,u,Q⟩:=I.fE A ds hd;have na:¬o.A a:=λz=>by obtain⟨x,U⟩:=er.al a z;rw[Z]at U;cases U
   rw[hd]at m ⊢;refine RV.fR Y na ?_;rcases Ya.mp m with z|z
   ·exact(Q<|W5 z).weak λb w=>.inl w
   ·exact u.nh z
  ·refine lV ?_ I;cases K:p.1 with
   |lst ds=>exact absurd #[ds,K] hd
   |_=>rw[K]at m;exact m
 exact q _ _<|SO.fT r (s.set B M) I.ext
theorem ER.own(r:OI Φ W o)(er:ER Φ Γ o ρ S σ H)(s:ER Φ Γ o ρ S1 σ H1)(E:eR Γ i=G')(hδ:Γ.δ≠y' i)(A:fresh fr c=G')(hl:xM c d=G')(I:EO Φ.K fr o c H d v H1):
  ∃o',OI Φ W o'/\ER Φ Γ o' (ρ.set i<|y' d) S1 (σ.set i<|y' v) H1/\∀b,o'.A b->o.A b\/H b=B':=by
 by_cases hd:∃ds,d= .lst ds
 ·obtain⟨ds,rfl⟩:=hd;obtain⟨a,xs,rfl,Z,Y,u,Q⟩:=I.fE A ds rfl;have Q:ar Φ.K (λb=>o.A b\/b=a) H1 xs ds:=by
   rcases Ya.mp hl with l|l
   ·exact Q<|W5 l
   ·exact u.nh l
  have nA:¬o.A a:=λz=>by obtain⟨y,hy⟩:=er.al a z;rw[Z]at hy;cases hy
  have h0:Φ.H0 a=B':=by
   cases q:Φ.H0 a with
   |none=>rfl
   |some x=>
    by_cases uX:Φ.d0=y' a
    ·exact absurd (er.da a<|r.d a uX) nA
    ·rw[er.ent.kp a x q uX]at Z;cases Z
  have U:∀b,(o.A b\/b=a)->o.A b\/H b=B':=λb z=>z.elim .inl λe=>.inr (by rw[e];exact Z)
  have dA:∀b,o.d b->(o.A b\/b=a):=λb z=>.inl (er.da b z)
  refine#[#[o.W,λb=>o.A b\/b=a,o.dr],#[r.w,r.d],#[?_,λb z=>.inl<|er.wa b z,λb z=>.inl<|er.da b z,λb z=>?_,λj e K=>?_,Dk.set er.dk rfl,λj j' b e J m B k1 k2 k3 X=>?_,s.drw,s.drn,λj b F L=>?_,s.dr0,s.ent],U]
  ·rw[Y6,Y6];exact er.len
  ·rcases z with z|z
   ·exact s.al b z
   ·rw[z];exact#[_,Y]
  ·by_cases F:j=i
   ·subst F;rw[YW]at K;simp only[aag]at K;split at K
    ·rename_i t;cases K;refine#[.ref a,by rw[XT (by rw[er.len];exact t)],?_];rw[aaf E];exact#[a,xs,rfl,Y,.inr rfl,λz=>nA<|er.wa a z,λz=>nA<|er.da a z,h0,Q]
    ·cases K
   ·rw[Xl (ZX F)]at K;obtain⟨w,k1,k2⟩:=er.val j e K;refine#[w,by rw[Xl (ZX F)];exact k1,?_];by_cases O:eR Γ j=G'
    ·rw[aaf O]at k2 ⊢;cases e with
     |lst es=>obtain⟨b,k,e1,e2,e3,e4,p,e6,e7⟩:=k2;exact#[b,k,e1,I.ext.kp _ _ e2 p,.inl e3,e4,p,e6,(e7.cL U).mono I.ext dA λ_ z=>z]
     |g9=>exact k2.elim
     |_=>exact(RV.cL U k2).mono I.ext dA λ_ z=>z
    ·rw[aae O]at k2 ⊢;exact(k2.cL U).mono I.ext dA λ_ z=>z
  ·
   have g:∀{j:Nat}{e:List Dt}{b:Addr},j≠i->eR Γ j=G'->(ρ.set i<|y'<|.lst ds)[j]?=y' (y'<|.lst e)->(σ.set i<|y'<|.ref a)[j]?=y' (y'<|.ref b)->b≠a/\ρ[j]?=y' (y'<|.lst e)/\σ[j]?=y' (y'<|.ref b):=λ {j e b} F m k1 k3=>by rw[Xl (ZX F)]at k1 k3;obtain⟨w,n1,P⟩:=er.val j _ k1;rw[aaf m]at P;obtain⟨b',k,e1,e2,_⟩:=P;rw[k3]at n1;cases n1;cases e1;refine#[λz=>?_,k1,k3];rw[z,Z]at e2;cases e2
   by_cases F:j=i
   ·by_cases sF:j'=i
    ·rw[F,sF]
    ·obtain⟨n,_,_⟩:=g sF B k2 X;subst F;have t:j<σ.length:=by have:=(W6.mp k3).1;rw[Y6]at this;exact this
     rw[XT t]at k3;cases k3;exact absurd rfl n
   ·obtain⟨n,p1,p2⟩:=g F m k1 k3;by_cases sF:j'=i
    ·subst sF;have t:j'<σ.length:=by have:=(W6.mp X).1;rw[Y6]at this;exact this
     rw[XT t]at X;cases X;exact absurd rfl n
    ·obtain⟨_,p3,p4⟩:=g sF B k2 X;exact er.inj j j' b e J m B p1 p3 p2 p4
  ·rw[Xl (λz=>hδ<|by rw[z];exact F)];exact s.drs j b F L
 ·
  have h:∀e,d≠ .lst e:=λe z=>hd #[e,z]
  have M:RV Φ.K o.A H1 v d:=by
   rcases Ya.mp hl with l|l
   ·exact I.dJ<|W5 l
   ·cases d with
    |lst ds=>exact absurd rfl<|h ds
    |_=>exact I.val.yL l
  refine#[o,r,#[?_,s.wa,s.da,s.al,λj e K=>?_,Dk.set s.dk M.nd,λj j' b e J m B k1 k2 k3 X=>?_,s.drw,s.drn,λj b F L=>?_,s.dr0,s.ent],λb z=>.inl z]
  ·rw[Y6,Y6];exact er.len
  ·by_cases F:j=i
   ·subst F;rw[YW]at K;simp only[aag]at K;split at K
    ·rename_i t;cases K;refine#[v,by rw[XT (by rw[er.len];exact t)],?_];rw[aaf E];cases d with
     |lst ds=>exact absurd rfl<|h ds
     |g9=>cases M.nd
     |_=>exact M
    ·cases K
   ·rw[Xl (ZX F)]at K;obtain⟨w,k1,k2⟩:=s.val j e K;exact#[w,by rw[Xl (ZX F)];exact k1,k2]
  ·have g:∀{j:Nat}{e:List Dt},(ρ.set i<|y' d)[j]?=y' (y'<|.lst e)->j≠i:=λ {j e} k1 z=>by
    subst z;rw[YW]at k1;simp only[aag]at k1;split at k1
    ·cases k1;exact h e rfl
    ·cases k1
   have n1:=g k1;have P:=g k2;rw[Xl (ZX n1)]at k1 k3;rw[Xl (ZX P)]at k2 X;exact s.inj j j' b e J m B k1 k2 k3 X
  ·rw[Xl (λz=>hδ<|by rw[z];exact F)];exact s.drs j b F L
theorem Ks{st:Stmt}(E:eR Γ i=G')(t:Γ.δ≠y' i)(A:fresh g.fr c=G')(h:PS X st (oJ (bR Φ Γ F g.fr c)<|e9 i)):PS X st (jN Φ Γ F W fF<|.asgM i c):=bC h λD O H q=>by obtain⟨o,ρ,S,r,er,q⟩:=q;rw[nG,ae]at q;refine#[o,ρ,S,er,ag q λp _ q v P I s=>?_];obtain⟨m,q⟩:=aM q;exact q _ _ #[ER.own r er s E t A m I,er.dA I.ext,s.F7 I.ext]
theorem Kr{st:Stmt}(uX:Φ.d0=B')(t:Γ.δ=y' i)(E:eR Γ i=J')(A:fresh g.fr c=G')(h:PS X st (oJ (bR Φ Γ F g.fr c)<|e9 i)):PS X st (jN Φ Γ F W fF<|.asgD i c):=bC h λD O H q=>by
 obtain⟨o,ρ,S,r,er,q⟩:=q;rw[tL,ae]at q;refine#[o,ρ,S,er,ag q λp _ q v P I s=>?_];cases hd:p.1 with
 |lst ds=>
  rw[hd]at q I;simp only at q;cases n:intsOf ds with
  |none=>rw[n]at q;exact q.elim
  |some ns=>
   rw[n]at q;obtain⟨gs,q⟩:=aM q;rw[W3]at gs;obtain⟨a,xs,rfl,Z,Y,u,Q⟩:=I.fE A ds rfl;rw[d7 u n]at Y;have h0:Φ.H0 a=B':=by
    cases q:Φ.H0 a with
    |none=>rfl
    |some x=>rw[er.ent.kp a x q (by rw[uX];simp)]at Z;cases Z
   have U:∀b,(o.A b\/b=a)->o.A b\/H b=B':=λb z=>z.elim .inl λe=>.inr (by rw[e];exact Z)
   have dA:∀b,o.d b->(o.A b\/b=a):=λb z=>.inl (er.da b z)
   refine q _ _ #[#[#[o.W,λb=>o.A b\/b=a,y' a],#[r.w,λb L=>by rw[uX]at L;cases L],#[?_,λb z=>.inl<|er.wa b z,(λb z=>.inr<|by cases z;rfl),λb z=>?_,λj e K=>?_,Dk.none er.dk,λj M b e J m B k1 k2 k3 k4=>?_,λb L=>?_,(λz=>by cases z),λj b hj L=>?_,λb L=>?_,s.ent],U],er.dA I.ext,s.F7 I.ext]
   ·rw[Y6,Y6];exact er.len
   ·rcases z with z|z
    ·exact s.al b z
    ·rw[z];exact#[_,Y]
   ·have hj:j≠i:=λz=>by subst z;rw[YW]at K;simp only[aag]at K;split at K<;>cases K
    rw[Xl (ZX hj)]at K;obtain⟨w,k1,k2⟩:=er.val j e K;refine#[w,by rw[Xl (ZX hj)];exact k1,?_];by_cases hmj:eR Γ j=G'
    ·rw[aaf hmj]at k2 ⊢;cases e with
     |lst es=>obtain⟨b,k,e1,e2,l,e4,e5,e6,e7⟩:=k2;refine#[b,k,e1,I.ext.kp _ _ e2 e5,.inl l,e4,λz=>?_,e6,(e7.cL U).mono I.ext dA λ_ z=>z];cases z;rw[Z]at e2;cases e2
     |g9=>exact k2.elim
     |_=>exact(RV.cL U k2).mono I.ext dA λ_ z=>z
    ·rw[aae hmj]at k2 ⊢;exact(k2.cL U).mono I.ext dA λ_ z=>z
   ·have n1:j≠i:=λz=>by rw[z,E]at m;cases m
    have n2:M≠i:=λz=>by rw[z,E]at B;cases B
    rw[Xl (ZX n1)]at k1 k3;rw[Xl (ZX n2)]at k2 k4;exact er.inj j M b e J m B k1 k2 k3 k4
   ·cases L;exact#[ns,rfl,Y]
   ·rw[t]at hj;cases hj;cases L;have hi:i<O.length:=by rw[er.len];exact W5 gs.2
    rw[XT hi]
   ·cases L;exact .inr h0
 |_=>rw[hd]at q;exact q.elim
end
section
variable{X:Cx}{Φ:Fm}{Γ:Gm}{F:FT}{g:G}{W:Addr->Prop}{fF:Bool}{o:Ow}{ρ:ah}{S:Sx}{σ:L2.St}{H H':Hp}
theorem lE(h:mR Ek (j9 ρ i) P):∃ds,ρ[i]?=y' (y'<|.lst ds)/\P ds:=by
 unfold j9 at h;split at h
 ·exact#[_,by assumption,h]
 ·exact h.elim
theorem CI:∀b x,H b=y' x->∃y,upd H a u b=y' y:=λb x h=>by
 by_cases z:b=a
 ·subst z;exact#[_,aQ]
 ·exact#[x,by rw[aN z];exact h]
theorem wH(h:isLE ρ i=G'):∃ds,ρ[i]?=y' (y'<|.lst ds):=by
 unfold isLE at h;split at h
 ·exact#[_,by assumption]
 ·cases h
theorem ER.chg(er:ER Φ Γ o ρ S σ H)(E:eR Γ i=G')(hr:ρ[i]?=y' (y'<|.lst ds))(l:σ[i]?=y' (y'<|.ref a))(U:H a=y' (.lst xs))(hy:ar Φ.K o.A H ys es):
  ER Φ Γ o (ρ.set i<|y'<|.lst es) S σ (upd H a<|.lst ys)/\bc o.A H (upd H a<|.lst ys)/\∀b x,H b=y' x->∃y,upd H a (.lst ys) b=y' y:=by
 obtain⟨v,Z,Y⟩:=er.val i _ hr;rw[aaf E]at Y;rw[l]at Z;cases Z;obtain⟨b,t,e1,e2,e3,e4,e5,e6,u⟩:=Y;cases e1;have up:bc (λb=>b=a) H (upd H a<|.lst ys):=#[λb o h n=>by rw[aN n];exact h,Mx.tZ U];have sub:∀b,b=a->o.A b:=λb z=>by rw[z];exact e3
 refine#[#[by rw[Y6];exact er.len,er.wa,er.da,λb L=>?_,λj d hd=>?_,Dk.set er.dk rfl,λj M b d p m B k1 k2 k3 X=>?_,λb L=>?_,er.drn,er.drs,er.dr0,?_],up.mono sub,CI]
 ·obtain⟨x,U⟩:=er.al b L;exact CI b x U
 ·by_cases F:j=i
  ·subst F;rw[YW]at hd;simp only[aag]at hd;split at hd
   ·cases hd;refine#[.ref a,l,?_];rw[aaf E];exact#[a,ys,rfl,aQ,e3,e4,e5,e6,hy.mono up sub λ_ z=>z]
   ·cases hd
  ·rw[Xl (ZX F)]at hd;obtain⟨w,k1,k2⟩:=er.val j d hd;refine#[w,k1,?_];by_cases O:eR Γ j=G'
   ·rw[aaf O]at k2 ⊢;cases d with
    |lst dl=>obtain⟨b,J,K,P,k,s,I,g,c⟩:=k2;refine#[b,J,K,up.kp _ _ P λz=>?_,k,s,I,g,c.mono up sub λ_ z=>z];subst K z;exact F<|er.inj j i b dl ds O E hd hr k1 l
    |g9=>exact k2.elim
    |_=>exact RV.mono up sub (λ_ z=>z) k2
   ·rw[aae O]at k2 ⊢;exact k2.mono up sub λ_ z=>z
 ·have same:∀{j:Nat}{d:List Dt},(ρ.set i<|y'<|.lst es)[j]?=y' (y'<|.lst d)->∃p,ρ[j]?=y' (y'<|.lst p):=λ {j d} q=>by
   by_cases F:j=i
   ·subst F;exact#[ds,hr]
   ·rw[Xl (ZX F)]at q;exact#[d,q]
  obtain⟨r,q1⟩:=same k1;obtain⟨W,A⟩:=same k2;exact er.inj j M b r W m B q1 A k3 X
 ·obtain⟨ns,K,P⟩:=er.drw b L;exact#[ns,K,up.kp _ _ P λz=>e5<|by rw[<-z];exact L]
 ·refine#[λb x h n=>up.kp _ _ (er.ent.kp b x h n) λz=>?_,λb xs h=>up.tp _ _<|er.ent.tp b xs h];subst z;rw[h]at e6;cases e6
theorem kc(er:ER Φ Γ o ρ S σ H)(E:eR Γ i=G')(w:ρ[i]?=y' (y'<|.lst ds)):∃a xs,σ[i]?=y' (y'<|.ref a)/\H a=y' (.lst xs)/\ar Φ.K o.A H xs ds:=by obtain⟨v,Z,Y⟩:=er.val i _ w;rw[aaf E]at Y;obtain⟨a,xs,e1,e2,l,e4,p,e6,u⟩:=Y;subst e1;exact#[a,xs,Z,e2,u]
theorem OK{st:Stmt}(E:eR Γ i=G')(h:PS X st (tV<|Ue X.K "list" xD (i4 i)<|GO (bR Φ Γ F g.fr c) Oq)):PS X st (jN Φ Γ F W fF<|.app i c):=bC h λD O H q=>by obtain⟨o,ρ,S,r,er,q⟩:=q;obtain⟨gl,q⟩:=aM q;obtain⟨ds,w⟩:=wH gl;obtain⟨a,xs,Z,Y,u⟩:=kc er E w;rw[ae]at q;refine#[.ref a,Z,.inl #[rfl,_,cX.of Y],o,ρ,S,er,ag q λp _ q v P I s=>?_];obtain⟨m,q⟩:=aM q;rw[ae]at q;obtain⟨yh,e1,q⟩:=lE q;rw[w]at e1;cases e1;obtain⟨gl,q⟩:=aM q;obtain⟨l,B,t,L,A⟩:=kc s E w;rw[Z]at t;cases t;have U:=aap;have j:lim=1000000:=rfl;have k:=W5 gl;refine#[a,B,v,rfl,rfl,L,by rw[A.length];lia,?_];obtain⟨k1,k2,k3⟩:=s.chg E w Z L<|A.append<|ar.cons (lV m I) ar.nil;exact q _ _<|SO.go (er.dA I.ext) (λb z=>.inl z) (s.F7 I.ext) #[#[o,r,k1,λb z=>.inl z],k2,k3]
theorem ON{st:Stmt}(E:eR Γ i=G')(h:PS X st (tV<|Ke X.K "list" Cd<|i4 i)):PS X st (jN Φ Γ F W fF<|.clr i):=bC h λD O H q=>by obtain⟨o,ρ,S,r,er,q⟩:=q;rw[xB,ae]at q;obtain⟨ds,w,q⟩:=lE q;obtain⟨a,xs,Z,Y,u⟩:=kc er E w;obtain⟨k1,k2,k3⟩:=er.chg E w Z Y<|ar.nil;exact#[.ref a,Z,.inl #[rfl,_,cX.of Y],a,xs,rfl,rfl,Y,q _ _ #[#[o,r,k1,λb z=>.inl z],k2,k3]]
theorem OT{st:Stmt}(E:eR Γ i=G')(h:PS X st (tV<|Ke X.K "list" tN<|i4 i)):PS X st (jN Φ Γ F W fF<|.rvs i):=bC h λD O H q=>by obtain⟨o,ρ,S,r,er,q⟩:=q;rw[xC,ae]at q;obtain⟨ds,w,q⟩:=lE q;obtain⟨a,xs,Z,Y,u⟩:=kc er E w;obtain⟨k1,k2,k3⟩:=er.chg E w Z Y u.reverse;exact#[.ref a,Z,.inl #[rfl,_,cX.of Y],a,xs,rfl,rfl,Y,q _ _ #[#[o,r,k1,λb z=>.inl z],k2,k3]]
theorem Ky{st:Stmt}(E:eR Γ i=G')(h:PS X st (oJ (bR Φ Γ F g.fr v)<|LI (i4 i) (bR Φ Γ F g.fr k) GG)):PS X st (jN Φ Γ F W fF<|.tR i k v):=bC h λD O H q=>by
 obtain⟨o,ρ,S,oi,er,q⟩:=q;obtain⟨gl,q⟩:=aM q;obtain⟨ds,w⟩:=wH gl;obtain⟨a,xs,Z,Y,u⟩:=kc er E w;rw[ae]at q;refine#[o,ρ,S,er,ag q λp _ q x P I s=>?_];rw[ae]at q;refine#[.ref a,Z,o,ρ,p.2,s,ag q λp2 _ q y H2 r gi=>?_];obtain⟨m,q⟩:=aM q;rw[ae]at q;obtain⟨yh,e1,q⟩:=lE q;rw[w]at e1;cases e1;obtain⟨l,B,t,L,A⟩:=kc gi E w;rw[Z]at t;cases t;cases hd:p2.1 with
 |int n=>
  rw[hd]at q r;simp only at q;cases hj:rA ds.length n with
  |none=>rw[hj]at q;exact q.elim
  |some j=>
   rw[hj]at q;have U:RV Φ.K o.A H2 x p.1:=by
    unfold cJ at m;rw[XN]at m;obtain⟨k1,k2,k3⟩:=I.keep r.ext er.gX;rcases m with m|m
    ·exact k2<|W5 m
    ·exact k1.yL m
   refine#[a,B,n,j,rfl,r.val.int_inv,L,by rw[A.length];exact hj,?_];obtain⟨k1,k2,k3⟩:=gi.chg E w Z L<|A.set j U;exact q _ _<|SO.go (er.dA<|I.ext.trans r.ext) (λb z=>.inl z) (gi.F7<|I.ext.trans r.ext) #[#[o,oi,k1,λb z=>.inl z],k2,k3]
 |_=>rw[hd]at q;exact q.elim
theorem OP{st:Stmt}(h:PS X st (tV<|bR Φ Γ F g.fr c)):PS X st (jN Φ Γ F W fF<|.DF c):=bC h λD O H q=>by obtain⟨o,ρ,S,r,er,q⟩:=q;rw[lQ,ae]at q;exact#[o,ρ,S,er,ag q λp _ q v P I s=>q _ _<|SO.fT r s I.ext]
theorem Ku{st:Stmt}(j:Φ.K=X.K)(B:∀i∈is,plainS Γ i=G')(h:PS X st (oJ (bR Φ Γ F g.fr c)<|Mx.sr X.K is.length<|tW is)):PS X st (jN Φ Γ F W fF<|.asgT is c):=bC h λD O H q=>by obtain⟨o,ρ,S,r,er,q⟩:=q;rw[tM,ae]at q;refine#[o,ρ,S,er,ag q λp _ q v P I s=>?_];obtain⟨m,q⟩:=aM q;rw[ae]at q;obtain⟨ρ1,w,q⟩:=mY (Cm _ _ _) q;rw[<-j];exact Fw s B (lV m I) w λM Z _=>q _ _<|SO.fT r Z I.ext
theorem ER.h0(r:OI Φ W o)(er:ER Φ Γ o ρ S σ H)(h:H a=B'):Φ.H0 a=B':=by
 cases q:Φ.H0 a with
 |none=>rfl
 |some x=>
  by_cases v:Φ.d0=y' a
  ·obtain⟨y,F⟩:=er.al a<|er.da a<|r.d a v;rw[h]at F;cases F
  ·rw[er.ent.kp a x q v]at h;cases h
theorem GV{st:Stmt}(A:fF=G'->fresh g.fr c=G')(h:PS X st (Kg<|bR Φ Γ F g.fr c)):PS X st (jN Φ Γ F W fF<|.ret c):=bC h λD O H q=>by
 obtain⟨o,ρ,S,r,er,q⟩:=q;rw[lR,ae]at q;refine#[o,ρ,S,er,ag q λp w q v P I s=>?_];have B:∀b,W b->o.wd b:=λb z=>.inl (by rw[r.w];exact z)
 refine q _ _ #[I.val.weak B,s.ent,λa m=>s.drw a<|r.d a m,λj ds K=>?_];obtain⟨a,xs,Z,Y,u,Q,_⟩:=I.fE (A j) ds K;exact#[a,xs,Z,er.h0 r Y,u,Q.weak λb z=>z.imp (B b) id]
theorem Kw{st:Stmt}(E:eR Γ i=G')(c:Γ.κ≠y' i)(h:PS X st (Kg<|i4 i)):PS X st (jN Φ Γ F W fF<|.ret<|.mvr i):=bC h λD O H q=>by
 obtain⟨o,ρ,S,r,er,q⟩:=q;rw[lR,qM,ae,ae]at q;obtain⟨d,hd,q⟩:=kZ q;obtain⟨v,k1,k2⟩:=er.val i d hd;rw[aaf E]at k2;have B:∀b,W b->o.wd b:=λb z=>.inl (by rw[r.w];exact z)
 have g:∀b,W b->o.A b:=λb z=>er.wa b (by rw[r.w];exact z)
 refine#[v,k1,q _ _ #[(k2.val (er.nd hd c) er.wa er.da).weak B,er.ent,λa m=>er.drw a<|r.d a m,λj ds K=>?_]];subst K;obtain⟨a,xs,e1,e2,l,e4,p,e6,u⟩:=k2;exact#[a,xs,e1,e6,e2,u.weak λb z=>z.elim (g b) λy=>by rw[y];exact l]
theorem Kx{st:Stmt}(h:PS X st GR):PS X st (jN Φ Γ F W fF .retN):=bC h λD O H q=>by obtain⟨o,ρ,S,r,er,q⟩:=q;exact q _ _ #[RV.qA,er.ent,λa m=>er.drw a<|r.d a m,λ_ ds K=>by cases K]
theorem Kv{st:Stmt}(h:PS X st Cz):PS X st (jN Φ Γ F W fF .zE):=bC h λD O H q=>by obtain⟨o,ρ,S,r,er,q⟩:=q;exact q _ _<|SO.fT r er bc.refl
theorem OM{st:Stmt}(h:PS X st Cv):PS X st (jN Φ Γ F W fF .brk):=bC h λD O H q=>by obtain⟨o,ρ,S,r,er,q⟩:=q;exact q _ _<|SO.fT r er bc.refl
theorem OO{st:Stmt}(h:PS X st GQ):PS X st (jN Φ Γ F W fF .cnt):=bC h λD O H q=>by obtain⟨o,ρ,S,r,er,q⟩:=q;exact q _ _<|SO.fT r er bc.refl
theorem dF.go(e:bc o.A H H1)(X:∀b,o'.A b->o.A b\/H b=B')(i:∀b x,H b=y' x->∃y,H1 b=y' y)
  (I:∀A j,D.nx A j->D'.nx A j) (L:∀A j,D.bk A j->D'.bk A j) (J:∀A j,D.ct A j->D'.ct A j) (w:∀v j,D.rt v j->D'.rt v j) (h:dF Φ Γ W fF o H D p):dF Φ Γ W fF o' H1 D' p:=by
 unfold dF at h ⊢;cases B:p.1 with
 |next=>rw[B]at h;exact λA j E=>I _ _<|h A j<|SO.go e X i E
 |brk=>rw[B]at h;exact λA j E=>L _ _<|h A j<|SO.go e X i E
 |cnt=>rw[B]at h;exact λA j E=>J _ _<|h A j<|SO.go e X i E
 |ret d=>rw[B]at h;exact λv j u=>w _ _<|h v j u
theorem CQ:rG X [] (kT Φ Γ F W fF .nil):=xq EW λD O H q=>by obtain⟨o,ρ,S,r,er,q⟩:=q;exact q _ _<|SO.fT r er bc.refl
theorem FG{st:Stmt}(Z:PS X st (jN Φ Γ F W fF t))(Y:rG X om (kT Φ Γ F W fF ts)):rG X (st::om) (kT Φ Γ F W fF<|.cons t ts):=xq (tD Z Y) λD O H q=>by
 obtain⟨o,ρ,S,r,er,q⟩:=q;rw[bF,ae]at q;refine#[o,ρ,S,r,er,ag q λp _ q=>?_];unfold dF;cases B:p.1 with
 |next=>rw[B]at q;intro M P E;obtain⟨⟨o1,b,s,a⟩,e1,a1⟩:=E;exact#[o1,p.2.1,p.2.2,b,s,ag q λp2 _ q=>dF.go e1 a a1 (λ_ _ z=>z) (λ_ _ z=>z) (λ_ _ z=>z) (λ_ _ z=>z) q]
 |brk=>rw[B]at q;exact q
 |cnt=>rw[B]at q;exact q
 |ret d=>rw[B]at q;exact q
theorem OR{st:Stmt}(h:PS X st (Oo (gu Φ Γ F t) (kT Φ Γ F W fF a)<|kT Φ Γ F W fF b)):PS X st (jN Φ Γ F W fF<|.ifs t a b):=bC h λD O H q=>by
 obtain⟨o,ρ,S,r,er,q⟩:=q;rw[qO,ae]at q;refine#[o,ρ,S,er,ag q λp _ q P e1 s=>?_];have go:∀{ts:Ts},mR Φ.Ek (bf F ts ρ p.2) (dF Φ Γ W fF o H D)->kT Φ Γ F W fF ts D O P:=λq=>#[o,ρ,p.2,r,s,ag q λp2 _ q=>dF.go (er.dA e1) (λb z=>.inl z) (s.F7 e1) (λ_ _ z=>z) (λ_ _ z=>z) (λ_ _ z=>z) (λ_ _ z=>z) q]
 cases B:p.1 with
 |true=>rw[B]at q;exact MJ<|go q
 |false=>rw[B]at q;exact MH<|go q
theorem OQ{st:Stmt}(j:Φ.K=X.K)(B:∀i∈a9 tg,plainS Γ i=G')(h:PS X st (On (nR Φ Γ F it) (GT X.K tg)<|kT Φ Γ F W fF b)):PS X st (jN Φ Γ F W fF<|.fr tg it b):=bC h λD O H q=>by
 obtain⟨o,ρ,S,r,er,q⟩:=q;rw[kr,ae]at q;refine#[o,ρ,S,er,ag q λp _ q J P k s=>?_];obtain⟨gs,q⟩:=aM q;have wk:=(Ya.mp gs).elim (λz=>k.w0<|W5 z) k.w2;refine#[λi m u n=>m=p.1.length-i/\i<=p.1.length/\∃o2 a S2,OI Φ W o2/\ER Φ Γ o2 a S2 u n/\bc o.A P n/\(∀b,o2.A b->o.A b\/P b=B')/\(∀b x,P b=y' x->∃y,n b=y' y)/\mR Φ.Ek (forL tg (bf F b) (p.1.drop i) a S2) (dF Φ Γ W fF o H D),
  #[_,rfl,ZW _,o,ρ,p.2,r,s,bc.refl,λb z=>.inl z,λb x U=>#[x,U],q],?_]
 rintro i m u n ⟨rfl,hi,o2,a,S2,PJ,Z,e2,Q,SU,q⟩;have eH:=(er.dA k.ext).trans e2;have aH:∀b x,H b=y' x->∃y,n b=y' y:=λb x U=>by obtain⟨y,hy⟩:=s.F7 k.ext b x U;exact SU b y hy
 have A1:∀b,o2.A b->o.A b\/H b=B':=λb z=>(Q b z).imp id λq=>by
  cases L:H b with
  |none=>rfl
  |some x=>obtain⟨y,hy⟩:=s.F7 k.ext b x L;rw[q]at hy;cases hy
 by_cases t:i<p.1.length
 ·refine .inr #[wk.go i n t e2,?_];have hd:∃d,p.1[i]?=y' d:=#[p.1[i],by simp[t]];obtain⟨d0,v⟩:=hd;have Qx:p.1.drop i=d0::p.1.drop (i+1):=by rw[YJ t];congr 1;exact(W6.mp v).2
  rw[Qx]at q;unfold forL at q;rw[ae]at q;obtain⟨I,w,q⟩:=mY (tS _ _ _) q;rw[ae]at q;refine#[λσ3 K=>i+1<=p.1.length/\∃M I S3,OI Φ W M/\ER Φ Γ M I S3 σ3 K/\bc o.A P K/\(∀b,M.A b->o.A b\/P b=B')/\(∀b x,P b=y' x->∃y,K b=y' y)/\mR Φ.Ek (forL tg (bf F b) (p.1.drop<|i+1) I S3) (dF Φ Γ W fF o H D),λσ3 K z=>#[p.1.length-(i+1),by omega,rfl,z],λx K y=>?_];obtain⟨g,d,hd,U⟩:=wk.yld i x n K t e2 y;rw[v]at hd;cases hd;have Bn:=U o2.A Q;rw[<-j];refine CB (Z.grow g) B Bn w λσ4 QB _=>?_
  refine#[o2,I,S2,PJ,QB,ag q λp2 _ q=>?_];have c:∀{A:L2.St}{l:Hp},SO Φ Γ W o2 K p2.2.1 p2.2.2 A l->mR Φ.Ek (forL tg (bf F b) (p.1.drop<|i+1) p2.2.1 p2.2.2) (dF Φ Γ W fF o H D)->i+1<=p.1.length/\∃M I S3,OI Φ W M/\ER Φ Γ M I S3 A l/\bc o.A P l/\(∀b,M.A b->o.A b\/P b=B')/\(∀b x,P b=y' x->∃y,l b=y' y)/\mR Φ.Ek (forL tg (bf F b) (p.1.drop<|i+1) I S3) (dF Φ Γ W fF o H D):=λ {A l} E q=>by have Wb:=SO.go (e2.trans<|bc.of_same g) Q (λb x U=>by obtain⟨y,hy⟩:=SU b x U;exact#[y,g _ _ hy]) E;obtain⟨⟨o5,V6,Pl,UZ⟩,e5,a5⟩:=Wb;exact#[t,o5,_,_,V6,Pl,e5,UZ,a5,q]
  unfold dF;cases Y:p2.1 with
  |next=>rw[Y]at q;exact λA l E=>c E q
  |cnt=>rw[Y]at q;exact λA l E=>c E q
  |brk=>rw[Y]at q;intro A l E;exact q A l<|SO.go (eH.trans<|bc.of_same g) A1 (λb x U=>by obtain⟨y,hy⟩:=aH b x U;exact#[y,g _ _ hy]) E
  |ret d=>rw[Y]at q;exact q
 ·have e:i=p.1.length:=by omega
  subst e;rw[List.drop_length]at q;exact .inl #[wk.stop n e2,q _ _ #[#[o2,PJ,Z,A1],eH,aH]]
end
def mP(g:G)(Γ:Gm):Expr->Option (List Nat)
 |.Constant (.str x) _ _=>if x.length<=1000 then y' [] else B'
 |.FormattedValue (.Name x _) (-1) B' _=>if df x then(match slot Γ x with
  |some i=>y' [i]
  |none=>if yo (Γ.names.lookup x) then(match g.cons.lookup x with
   |some (.int n)=>if 0<=n/\n<10^19 then y' [] else B'
   |_=>B') else B') else B'
 |_=>B'
def RE(g:G)(Γ:Gm):List Expr->Option (List Nat)
 |[]=>y' []
 |e::es=>(mP g Γ e).bind λa=>(RE g Γ es).bind λb=>y'<|a++b
def mS(g:G)(Γ:Gm):Expr->Option (List Nat)
 |.Constant (.str _) _ _=>y' []
 |.JoinedStr (e1::e2::es) _=>if (e1::e2::es).length<=100 then RE g Γ (e1::e2::es) else B'
 |_=>B'
def pV(U:List Nat)(O:L2.St):Prop:=∀i∈U,∃n:Nat,O[i]?=y' (y'<|.int n)/\n<10^19
section
variable{g:G}{xv:Nat->Value}{CX:oo}{k:Nat}{F:FT}{X:Cx}{Φ:Fm}{Γ:Gm}{W:Addr->Prop}{fF:Bool}
theorem Eh(h:mS g Γ e=y' vs)(env):starEach [e] env=[(J',eval e env)]:=by unfold mS at h;split at h<;>first|rfl|cases h
theorem Jy(w:GX g Γ X)(h:mP g Γ e=y' U)(l:∀i∈U,i∈us):K2 X e (pV us):=by
 unfold mP at h;split at h
 ·split at h
  ·rename_i W;exact EL W
  ·cases h
 ·split at h
  ·rename_i j;obtain⟨K,P,k⟩:=bq j;split at h
   ·rename_i i hi;cases h;obtain⟨a,c,b⟩:=fU hi;intro M s O H Q I B q;exact EM (by rw[w.N];exact b) (w.vis _ a) K P M s O H Q I (B i<|l i<|by simp) q
   ·split at h
    ·rename_i t;split at h
     ·rename_i n J;split at h
      ·rename_i hn;obtain⟨u,_,Y,h3⟩:=w.con _ _ J;obtain⟨m,rfl⟩:=Int.eq_ofNat_of_zero_le hn.1;exact BW (w.gl _ t) Y h3 ⋯ K
      ·cases h
     ·cases h
    ·cases h
  ·cases h
 ·cases h
theorem BY(w:GX g Γ X):∀{es:List Expr}{U:List Nat},RE g Γ es=y' U->(∀i∈U,i∈us)->K3 X es (pV us)
 |[],U,_,_=>EN
 |e::es,U,h,l=>by obtain⟨a,Z,h⟩:=W0.mp h;obtain⟨b,Y,h⟩:=W0.mp h;cases h;refine BX (Jy w Z λi hi=>l i<|Ze _ hi) (BY w Y λi hi=>l i<|XA _ hi) ?_;unfold mP at Z;split at Z<;>first|rfl|cases Z
theorem Nw(w:GX g Γ X)(h:mS g Γ e=y' vs):PM X e (pV vs):=by
 unfold mS at h;split at h
 ·exact Jx
 ·split at h
  ·rename_i W;exact yT (BY w h λi hi=>hi) W
  ·cases h
 ·cases h
theorem KA(h:Bp c (g.xs.map (·.1))=y' k0):∃ts,g.xs[k0]?=y' (c,ts):=by have:=lu h;rw[Xn]at this;obtain⟨⟨a,ts⟩,Z,Y⟩:=Xj.mp this;cases Y;exact#[ts,Z]
theorem SL(r:HX g xv CX k F Φ X)(w:GX g Γ X)(U:g.xs[k0]?=y' (c,ts))(t:Gl X c)(y:(c==("__debug__":Str))=J')(K:PM X arg (pV vs))(p:starEach [arg] X.env=[(J',eval arg X.env)]):
  PS X (.Raise (y'<|.Call (.Name c np) [arg] [] eM) B' pos) (jN Φ Γ F W fF<|.rs k0 vs):=by
 intro M s O H D I q;obtain⟨o,ρ,S,oi,er,q⟩:=q;obtain⟨E,q⟩:=aM q;obtain⟨C,e1,e2,l,_⟩:=r.xk _ _ _ U;refine B2 (I.ok.hd w.calm) r.st.pn t e2 l r.xgx K p y M s O H D I #[λi hi=>?_,k0,e1.symm,q,er.ent];have:=XF.mp E i hi;unfold M0 at this;split at this
 ·rename_i n hn;rw[W3]at this;obtain⟨m,rfl⟩:=Int.eq_ofNat_of_zero_le<|W5 this.1;obtain⟨v,Z,Y⟩:=er.val i _ hn;have u:RV Φ.K o.A H v (.int (m:Int)):=by split at Y<;>exact Y
  rw[u.int_inv]at Z;exact#[m,Z,by have:=W5 this.2;omega]
 ·cases this
end
def Iq:Expr->Bool
 |.Tuple ..=>G'
 |.List ..=>G'
 |_=>J'
def mQ:Expr->Bool
 |.ListComp ..=>G'
 |.SetComp ..=>G'
 |.DictComp ..=>G'
 |_=>J'
def Hs(n:Nat)(g:G)(Γ:Gm)(i:Nat)(e:Expr):Option T:=match e with
 |.Name y p=>match slot Γ y with
  |some j=>if eR Γ j then B' else(cE n g Γ<|.Name y p).bind λc=>y'<|.asg i c
  |none=>(cE n g Γ<|.Name y p).bind λc=>y'<|.asg i c
 |e=>(cE n g Γ e).bind λc=>y'<|if fresh g.fr c&&lk c != 0 then .asgM i c else .asg i c
def Hu(n:Nat)(g:G)(Γ:Gm)(fF:Bool)(e:Expr):Option T:=match e with
 |.Name y p=>match slot Γ y with
  |some j=>if eR Γ j then(if Γ.δ==y' j||Γ.κ==y' j then B' else y' (.ret<|.mvr j)) else(cE n g Γ<|.Name y p).bind λc=>if fF then B' else y' (.ret c)
  |none=>(cE n g Γ<|.Name y p).bind λc=>if fF then B' else y' (.ret c)
 |e=>(cE n g Γ e).bind λc=>if !fF||fresh g.fr c then y' (.ret c) else B'
def NK(n:Nat)(g:G)(Γ:Gm)(dp:Bool)(Sz:List Expr)(e:Expr):Option T:=match Sz with
   |[.Name x _]=>(fy Γ x).bind λi=>
     if Γ.δ==y' i then(if dp then B' else(cE n g Γ e).bind λc=>if fresh g.fr c&& !eR Γ i then y' (.asgD i c) else B')
     else if eR Γ i then(if Γ.κ==y' i then B' else(cE n g Γ e).bind λc=>if fresh g.fr c then y' (.asgM i c) else B')
     else Hs n g Γ i e
   |[.Tuple es _ _]=>if Iq e then B' else(ka Γ es).bind λis=>(cE n g Γ e).bind λc=>y'<|.asgT is c
   |[.Subscript (.Name x _) k _]=>(slot Γ x).bind λi=>if eR Γ i then(cE n g Γ e).bind λv'=>(cE n g Γ k).bind λk'=>if Γ.κ==y' i then B' else y' (.tR i k' v') else B'
   |_=>B'
def NL(n:Nat)(g:G)(Γ:Gm)(t:Expr)(o:Operator)(e:Expr):Option T:=match t,o with
   |.Name x _,.Add=>if mQ e then B' else(fy Γ x).bind λi=>if plainS Γ i then(cE n g Γ e).bind λc=>y' (.aug i c) else B'
   |_,_=>B'
def NM(n:Nat)(g:G)(Γ:Gm)(ex:Expr):Option T:=match ex with
   |.Call (.Attribute (.Name x _) m ap) [a] [] cp=>(slot Γ x).bind λi=>if eR Γ i&&ap.endLine==cp.line then(cE n g Γ a).bind λa'=>
     (if m==("append":Str) then y' (.app i a') else B') else B'
   |.Call (.Attribute (.Name x _) m ap) [] [] cp=>(slot Γ x).bind λi=>if eR Γ i&&ap.endLine==cp.line&&m==("clear":Str) then y' (.clr i) else if eR Γ i&&ap.endLine==cp.line&&m==("reverse":Str) then y' (.rvs i) else B'
   |e=>if mQ e then B' else(cE n g Γ e).bind λc=>y'<|.DF c
inductive Pd where
 |ret (v:Option Expr) (p:Pos)|asg (ts:List Expr) (e:Expr) (p:Pos)|aug (t:Expr) (o:Operator) (e:Expr) (p:Pos)
 |fr (tg it:Expr) (b uu:List Stmt) (p:Pos)|wh (t:Expr) (b uu:List Stmt) (p:Pos)|ifs (t:Expr) (a b:List Stmt) (p:Pos)
 |rs (a b:Option Expr) (p:Pos)|tr (b:List Stmt) (hs:List ExceptHandler) (uu fin:List Stmt) (p:Pos)|ex (e:Expr) (p:Pos)
 |zE (p:Pos)|brk (p:Pos)|cnt (p:Pos)|oth
def Pd.st:Pd->Option Stmt
 |.ret v p=>y'<|.Return v p
 |.asg ts e p=>y'<|.Assign ts e p
 |.aug t o e p=>y'<|.AugAssign t o e p
 |.fr tg it b uu p=>y'<|.For tg it b uu p
 |.wh t b uu p=>y'<|.While t b uu p
 |.ifs t a b p=>y'<|.If t a b p
 |.rs a b p=>y'<|.Raise a b p
 |.tr b hs uu fin p=>y'<|.Try b hs uu fin p
 |.ex e p=>y'<|.Expr e p
 |.zE p=>y'<|.Pass p
 |.brk p=>y'<|.Break p
 |.cnt p=>y'<|.Continue p
 |.oth=>B'
def Fs:Stmt->Pd
 |.Return v p=>.ret v p
 |.Assign ts e p=>.asg ts e p
 |.AugAssign t o e p=>.aug t o e p
 |.For tg it b uu p=>.fr tg it b uu p
 |.While t b uu p=>.wh t b uu p
 |.If t a b p=>.ifs t a b p
 |.Raise a b p=>.rs a b p
 |.Try b hs uu fin p=>.tr b hs uu fin p
 |.Expr e p=>.ex e p
 |.Pass p=>.zE p
 |.Break p=>.brk p
 |.Continue p=>.cnt p
 |_=>.oth
theorem Ka(st):(Fs st).st=B'\/(Fs st).st=y' st:=by cases st<;>first|exact .inr rfl|exact .inl rfl
theorem nN{st s:Stmt}(h:Fs st=v)(e:v.st=y' s):st=s:=by rw[<-h]at e;exact(Ka st).elim (λk=>by rw[k]at e;cases e) λk=>ZY<|k.symm.trans e
mutual
noncomputable def cS:Nat->G->Gm->Bool->Bool->Stmt->Option T
 |0,_,_,_,_,_=>B'
 |n+1,g,Γ,dp,fF,st=>match Fs st with
  |.asg Sz e _=>NK n g Γ dp Sz e
  |.aug t o e _=>NL n g Γ t o e
  |.ex ex _=>NM n g Γ ex
  |.ret v _=>match v with
   |some e=>Hu n g Γ fF e
   |none=>y' .retN
  |.ifs t a b _=>(cE n g Γ t).bind λt'=>(FZ n g Γ dp fF a).bind λa'=>(FZ n g Γ dp fF b).bind λb'=>y'<|.ifs t' a' b'
  |.fr tg it b uu _=>match uu with
   |[]=>(cI n g Γ tg it).bind λlj=>(rQ Γ tg).bind λnT=>(FZ n g Γ dp fF b).bind λb'=>y'<|.fr nT lj b'
   |_=>B'
  |.wh _ _ _ _=>B'
  |.rs ra rb _=>match ra,rb with
   |some (.Call (.Name c _) [arg] [] _),B'=>if yo (Γ.names.lookup c)&&df c then(Bp c (g.xs.map (·.1))).bind λk=>(mS g Γ arg).bind λvs=>y' (.rs k vs) else B'
   |_,_=>B'
  |.brk _=>y' .brk
  |.cnt _=>y' .cnt
  |.zE _=>y' .zE
  |.tr _ _ _ _ _=>B'
  |.oth=>B'
noncomputable def FZ:Nat->G->Gm->Bool->Bool->List Stmt->Option Ts
 |0,_,_,_,_,_=>B'
 |n+1,g,Γ,dp,fF,om=>match om with
  |[]=>y' .nil
  |st::om=>(cS n g Γ dp fF st).bind λt=>(FZ n g Γ dp fF om).bind λts=>y'<|.cons t ts
end
section
variable{g:G}{xv:Nat->Value}{CX:oo}{k:Nat}{F:FT}{X:Cx}{Φ:Fm}{Γ:Gm}{W:Addr->Prop}
theorem nQ(h:mQ e=J')(t)(l)(env):swapsWith e t l env=pure J':=by cases e<;>first|rfl|(cases h)
theorem pI(J:∀x p,t≠ .Name x p)(l)(env):swapsWith e (y' t) l env=pure J':=by cases e<;>first|rfl|(cases t<;>first|rfl|exact absurd rfl<|J _ _)
theorem AA(h:cE (n+1) g Γ (.ListComp elt gens sc eM)=y' c):sc.kind= .function/\An sc.names Γ.names (bo Γ sc).1.N Γ.N (bo Γ sc).2=G'/\(bo Γ sc).1.N.Nodup/\
  ((∃tg it b p I K J,gens=[#[tg,it,b,0]]/\cI n g Γ tg it=y' p/\rQ (bo Γ sc).1 tg=y' I/\zq n g (bo Γ sc).1 b=y' K/\cE n g (bo Γ sc).1 elt=y' J/\c= .comp (bo Γ sc).2 p I K J)\/
   (∃tg it b k E o p I K a U l J,gens=[#[tg,it,b,0],#[k,E,o,0]]/\cI n g Γ tg it=y' p/\rQ (bo Γ sc).1 tg=y' I/\zq n g (bo Γ sc).1 b=y' K/\cI n g (bo Γ sc).1 k E=y' a/\rQ (bo Γ sc).1 k=y' U/\zq n g (bo Γ sc).1 o=y' l/\cE n g (bo Γ sc).1 elt=y' J/\
   (∀i∈a9 U,i∉a9 I)/\c= .gD (bo Γ sc).2 p I K a U l J)):=by
 replace h:Pf (λ_=>cE n) (λ_=>cI n) (λ_=>zq n) n g Γ elt gens sc=y' c:=h
 unfold Pf at h
 (try dsimp only at h)
 split at h
 ·rename_i P;split at h
  ·rename_i tg it b;refine bx h λp Z h=>?_
   refine bx h λI Y h=>?_
   refine bx h λK u h=>?_
   refine bx h λJ Q h=>?_
   split at h
   ·rename_i L;cases h;rw[W3]at L;exact#[Xr P,L.1,W5 L.2,.inl #[tg,it,b,p,I,K,J,rfl,Z,Y,u,Q,rfl]]
   ·cases h
  ·rename_i tg it b k E o;refine bx h λp Z h=>?_
   refine bx h λI Y h=>?_
   refine bx h λK u h=>?_
   refine bx h λa A h=>?_
   refine bx h λU j h=>?_
   refine bx h λl X h=>?_
   refine bx h λJ Q h=>?_
   split at h
   ·rename_i L;cases h;rw[W3,W3]at L;refine#[Xr P,L.1.1,W5 L.1.2,.inr #[tg,it,b,k,E,o,p,I,K,a,U,l,J,rfl,Z,Y,u,A,j,X,Q,λi hi z=>?_,rfl]];have:=XF.mp L.2 i hi;simp[z]at this
   ·cases h
  ·cases h
 ·cases h
theorem gR(w:GX g Γ X)(r:HX g xv CX k F Φ X)(l:fy Γ x=y' i)(h:cE n g Γ e=y' c):PS X (.Assign [.Name x pos'] e pos) (oJ (bR Φ Γ F g.fr c)<|e9 i):=by
 have S:=jJ n Γ X Φ w r;obtain⟨a1,a2,a3⟩:=fz l;obtain⟨M,m⟩:=w.loc x a1;have t:=w.N▸w.nd;have hi:X.N[i]?=y' x:=by rw[w.N];exact a3
 by_cases hc:mQ e=G'
 ·cases n with
  |zero=>simp[cE]at h
  |succ n=>
   cases e with
   |ListComp elt gens sc eM=>
    have Vb:=(S.e _ _ h).1;obtain⟨P,L,y,Mc⟩:=AA h;cases z:(X.env.blockKind== .function&&X.env.kindOf x==y' .local&&pos'.line==(Expr.ListComp elt gens sc eM).pos.line&& !(sc.names.any λ(n,k)=>n==x&&(k== .local||k== .cell))) with
    |false=>exact vo t hi M Vb (by show pure (X.env.blockKind== .function&&X.env.kindOf x==y' .local&&pos'.line==(Expr.ListComp elt gens sc eM).pos.line&& !(sc.names.any λ(n,k)=>n==x&&(k== .local||k== .cell)))=_;rw[z]) m
    |true=>
     have W:X.env.kindOf x=y' .local:=by rw[W3,W3,W3]at z;exact Xr z.1.1.2
     have B:=uJ w P L;have S1:=jJ n Γ X Φ w r;have J:=λC s H v=>jJ n (bo Γ sc).1 (ji X sc (bo Γ sc).1.N C s H v<|zI X sc (bo Γ sc).1.N (vR Φ xv) C s H v) Φ (fM w B y) (u5 r)
     rcases Mc with ⟨tg,it,b,p,I,K,e',rfl,Z,Y,u,Q,rfl⟩|⟨tg,it,b,jO,E,o,p,I,K,sN,U,tY,e',rfl,Z,Y,u,A,j,h7,Q,Mh,rfl⟩
     ·refine bC (kJ w.calm t hi W B (lY r.st r.xgx) (S1.i _ _ _ Z).1 (λa acc env=>t7 ..) (λC s H v=>vA (fM w B y) Y) (λC s H v=>(J C s H v).ts _ _ u) (λC s H v D=>lK ((J C s H v).e _ _ Q).1) (iS (S1.i _ _ _ Z).2 _) ?_) λD O H q=>Ci r.K B y Y q
      show pure (X.env.blockKind== .function&&X.env.kindOf x==y' .local&&pos'.line==(Expr.ListComp elt [#[tg,it,b,0]] sc eM).pos.line&& !(sc.names.any λ(n,k)=>n==x&&(k== .local||k== .cell)))=_;rw[z]
     ·refine bC (kJ w.calm t hi W B (lY r.st r.xgx) (S1.i _ _ _ Z).1 (λa acc env=>t9 ..) (λC s H v=>vA (fM w B y) Y) (λC s H v=>(J C s H v).ts _ _ u)
       (λC s H v D=>xa w.calm (w6 r.st) ((J C s H v).i _ _ _ A).1 (vA (fM w B y) j) ((J C s H v).ts _ _ h7) (lK ((J C s H v).e _ _ Q).1)<|iS ((J C s H v).i _ _ _ A).2 _) (iS (S1.i _ _ _ Z).2 _) ?_) λD O H q=>xH r.K B y Y j Mh q
      show pure (X.env.blockKind== .function&&X.env.kindOf x==y' .local&&pos'.line==(Expr.ListComp elt [#[tg,it,b,0],#[jO,E,o,0]] sc eM).pos.line&& !(sc.names.any λ(n,k)=>n==x&&(k== .local||k== .cell)))=_;rw[z]
   |SetComp=>cases n<;>cases h
   |DictComp=>cases n<;>cases h
   |_=>cases hc
 ·exact vo t hi M (S.e _ _ h).1 (nQ (by simpa using hc) _ _ _) m
structure Qc(g:G)(F:FT)(n:Nat)(Γ:Gm)(X:Cx)(Φ:Fm)(W:Addr->Prop)(dp fF:Bool):Prop where
 s:∀st t,cS n g Γ dp fF st=y' t->PS X st (jN Φ Γ F W fF t)
 ss:∀om ts,FZ n g Γ dp fF om=y' ts->rG X om (kT Φ Γ F W fF ts)
theorem nY(w:GX g Γ X)(h:slot Γ x=y' i):PE X (.Name x p) (i4 i):=by obtain⟨a,c,b⟩:=fU h;obtain⟨K,P,k⟩:=bq c;exact kf (by rw[w.N];exact b) (w.vis x a) K P
theorem G9(w:GX g Γ X)(r:HX g xv CX k F Φ X)(l:fy Γ x=y' i)(B:plainS Γ i=G')(h:Hs n g Γ i e=y' t):PS X (.Assign [.Name x pos'] e pos) (jN Φ Γ F W fF t):=by
 have JN:∀{e:Expr}{t:T},((cE n g Γ e).bind λc=>y'<|T.asg i c)=y' t->PS X (.Assign [.Name x pos'] e pos) (jN Φ Γ F W fF t):=λ {e t} h=>by
  refine zp t h λc Z=>?_
  exact GU B (gR w r l Z)
 unfold Hs at h;split at h
 ·rename_i y p;split at h
  ·rename_i j hj;split at h
   ·cases h
   ·exact JN h
  ·exact JN h
 ·refine zp t h λc Z=>?_
  split
  ·rename_i A;rw[W3]at A;exact Kt B A.1<|gR w r l Z
  ·exact GU B<|gR w r l Z
theorem JO(w:GX g Γ X)(r:HX g xv CX k F Φ X)(h:Hu n g Γ fF e=y' t):PS X (.Return (y' e) pos) (jN Φ Γ F W fF t):=by
 have S:=jJ n Γ X Φ w r;have a:∀{e:Expr}{t:T},((cE n g Γ e).bind λc=>if fF then B' else y' (T.ret c))=y' t->PS X (.Return (y' e) pos) (jN Φ Γ F W fF t):=λ {e t} h=>by
  refine bx h λc Z h=>?_
  split at h
  ·cases h
  ·rename_i A;cases h;exact GV (λz=>absurd z A) (nF (S.e _ _ Z).1)
 unfold Hu at h;split at h
 ·rename_i y p;split at h
  ·rename_i j hj;split at h
   ·rename_i E;split at h
    ·cases h
    ·rename_i P;cases h;exact Kw E (λz=>P<|by simp[z])<|nF<|nY w hj
   ·exact a h
  ·exact a h
 ·refine bx h λc Z h=>?_
  split at h
  ·rename_i A;cases h;refine GV (λz=>?_)<|nF (S.e _ _ Z).1;rw[z]at A;simpa using A
  ·cases h
theorem tT{dp H:Bool}(n):∀(b:Gm)(X:Cx)(Φ:Fm),GX g b X->HX g xv CX k F Φ X->(dp=J'->Φ.d0=B')->PassesOwn (model X.prog X.w) X.A X.env X.xe->Qc g F n b X Φ W dp H:=by
 induction n with
 |zero=>intro b X Φ w r hd j;exact#[λst t h=>by simp[cS]at h,λst t h=>by simp[FZ]at h]
 |succ n O=>
  intro b X Φ w r hd j;have I:=O b X Φ w r hd j;have S:=jJ n b X Φ w r;have hK:=r.K;refine#[λst t h=>?_,λom ts h=>?_]
  ·unfold cS at h;generalize M:Fs st=v at h;cases v<;>first|(cases h;done)|(obtain rfl:=nN M rfl;clear M;dsimp only at h)
   ·split at h
    ·exact JO w r h
    ·cases h;exact Kx EU
   ·unfold NK at h;split at h
    ·rename_i e pos x xp;refine bx h λi l h=>?_
     split at h
     ·rename_i hδ;split at h
      ·cases h
      ·rename_i q;refine bx h λc Z h=>?_
       split at h
       ·rename_i A;rw[W3]at A;cases h;exact Kr (hd<|by simpa using q) (Xr hδ) (by simpa using A.2) A.1<|gR w r l Z
       ·cases h
     ·rename_i hδ;have s:b.δ≠y' i:=λz=>hδ (by rw[z];exact Z9 _)
      split at h
      ·rename_i E;split at h
       ·cases h
       refine bx h λc Z h=>?_
       split at h
       ·rename_i A;cases h;exact Ks E s A<|gR w r l Z
       ·cases h
      ·rename_i E;refine G9 w r l ?_ h;unfold plainS;rw[W3];exact#[by simpa using E,by simpa using s]
    ·rename_i e pos tg0 es kk tp;split at h
     ·cases h
     ·rename_i hdisp;refine uG t h λis Z c Y=>?_
      have Gn:rQ b (.Tuple es kk tp)=y' (.tp is):=by rw[rQ,Z];rfl
      refine Ku hK (λi hi=>(fB Gn i hi).1)<|B0 (S.e _ _ Y).1 (N1 w Z) (pI (t:=Expr.Tuple es kk tp) (λx p z=>by cases z) pos.line X.env) ?_;cases e<;>first|rfl|(exact absurd rfl hdisp)
    ·rename_i v pos tg0 x xp kx sp;refine bx h λi l h=>?_
     split at h
     ·rename_i E;refine bx h λv' Z h=>?_
      refine bx h λk' Y h=>?_
      have Vw:=(S.e _ _ Y).2.2;split at h
      ·cases h
      ·cases h;refine Ky E<|B0 (S.e _ _ Z).1 (Jt (nY w l) (S.e _ _ Y).1 set_list<|by intro _;cases kx<;>first|rfl|(cases Vw)) (pI (t:=Expr.Subscript (Expr.Name x xp) kx sp) (λx p z=>by cases z) pos.line X.env) ?_;cases v<;>rfl
     ·cases h
    ·cases h
   ·rename_i t o e pos;unfold NL at h;split at h
    ·rename_i x xp;split at h
     ·cases h
     ·rename_i J;refine bx h λi l h=>?_
      split at h
      ·rename_i B;refine zp t h λc Z=>?_
       obtain⟨a1,a2,a3⟩:=fz l;obtain⟨l1,l2⟩:=w.loc x a1;exact OL B<|JA (w.N▸w.nd) (by rw[w.N];exact a3) l1 (S.e _ _ Z).1 Ip l2
      ·cases h
    ·cases h
   ·split at h
    ·refine bx h λlj Z h=>?_
     refine bx h λnT Y h=>?_
     refine zp t h λb' u=>?_
     exact OQ hK (λi hi=>(fB Y i hi).1)<|JB j w.calm (S.i _ _ _ Z).1 (vA w Y) (I.ss _ _ u)<|iS (S.i _ _ _ Z).2 _
    ·cases h
   ·refine SX t h λt' Z a' Y b' u=>?_
    exact OR<|Nx (S.e _ _ Z).2.1 (I.ss _ _ Y)<|I.ss _ _ u
   ·split at h
    ·split at h
     ·rename_i hg;rw[W3]at hg;refine uG t h λk0 Z U Y=>?_
      obtain⟨ts,u⟩:=KA Z;obtain⟨K,P,n3⟩:=bq hg.2;exact SL r w u (w.gl _ hg.1) K (Nw w Y)<|Eh Y _
     ·cases h
    ·cases h
   ·unfold NM at h;split at h
    ·rename_i pos x xp m y a cp;refine bx h λi l h=>?_
     split at h
     ·rename_i E;rw[W3]at E;refine bx h λa' Z L=>?_
      have kO:=bY (S.e _ _ Z).2.2 [] X.env;split at L
      ·rename_i hma;have Q:=Xr hma;subst Q;cases L;exact OK E.1<|lM<|Nr PySem.F.plainAttrs_list PySem.F.slot_list_append PySem.F.type_list_append pj (nY w l) (bJ (S.e _ _ Z).1 fS kO) rfl (by rw[kO];rfl) E.2 kO rfl
      ·cases L
     ·cases h
    ·rename_i pos x xp m y cp;refine bx h λi l L=>?_
     split at L
     ·rename_i E;rw[W3,W3]at E;have Q:=Xr E.2;subst Q;cases L;exact ON E.1.1 (lM<|vm PySem.F.plainAttrs_list PySem.F.slot_list_clear PySem.F.type_list_clear Bx (nY w l) rfl E.1.2)
     split at L
     ·rename_i E;rw[W3,W3]at E;have Q:=Xr E.2;subst Q;cases L;exact OT E.1.1<|lM<|vm PySem.F.plainAttrs_list PySem.F.slot_list_reverse PySem.F.type_list_reverse vg (nY w l) rfl E.1.2
     ·cases L
    ·split at h
     ·cases h
     ·rename_i J;refine zp t h λc Z=>?_
      exact OP<|lM (S.e _ _ Z).1<|nQ (by simpa using J) _ _ _
   ·cases h;exact Kv ET
   ·cases h;exact OM B1
   ·cases h;exact OO tw
  ·unfold FZ at h;split at h
   ·cases h;exact CQ
   ·refine uG ts h λt Z rf Y=>?_
    exact FG (I.s _ _ Z)<|I.ss _ _ Y
end
inductive HV where
 |b (x:Bool)|l (xs:List Bool)
def HV.Kj:HV->Option Bool
 |.b x=>y' x
 |.l _=>B'
def HV.MV:HV->Option (List Bool)
 |.l x=>y' x
 |.b _=>B'
mutual
noncomputable def hE:Nat->G->Gm->Nat->List (Str×Bool)->Option (Nat×HV)->Expr->Option HV
 |0,_,_,_,_,_,_=>B'
 |n+1,g,Γ,i,ts,vb,e=>match e with
  |.Call fe as ks _=>match fe,as,ks with
   |.Name f _,[.Name x _,.Name t _],[]=>if f==("isinstance":Str)&&yo (Γ.names.lookup f)&&g.bls.contains f&&slot Γ x==y' i&&yo (Γ.names.lookup t)&&df t then(ts.lookup t).map .b else B'
   |_,_,_=>B'
  |.Name x _=>vb.bind λv=>if slot Γ x==y' v.1 then y' v.2 else B'
  |.Constant c _ _=>match c with
   |.bool b=>y'<|.b b
   |_=>B'
  |.List es _=>if es.length<=1000 then(LQ n g Γ i ts vb es).map .l else B'
  |.BinOp a o b _=>match o with
   |.Add=>((hE n g Γ i ts vb a).bind HV.MV).bind λx=>((hE n g Γ i ts vb b).bind HV.MV).bind λy=>if x.length+y.length<=1000 then y' (.l<|x++y) else B'
   |_=>B'
  |.Compare a os bs _=>match os,bs with
   |[.Eq],[b]=>((hE n g Γ i ts vb a).bind HV.MV).bind λx=>((hE n g Γ i ts vb b).bind HV.MV).bind λy=>match ck .Eq (.lst<|x.map Dt.bl) (.lst<|y.map Dt.bl) with
    |.ok z=>y'<|.b z
    |_=>B'
   |_,_=>B'
  |.UnaryOp o a _=>match o with
   |.Not=>((hE n g Γ i ts vb a).bind HV.Kj).bind λb=>y'<|.b !b
   |_=>B'
  |.BoolOp o es p=>match es with
   |[a]=>hE n g Γ i ts vb a
   |a::b::es=>((hE n g Γ i ts vb a).bind HV.Kj).bind λx=>((hE n g Γ i ts vb<|.BoolOp o (b::es) p).bind HV.Kj).bind λy=>y'<|.b<|match o with|.And=>x&&y|.Or=>x||y
   |[]=>B'
  |_=>B'
noncomputable def LQ:Nat->G->Gm->Nat->List (Str×Bool)->Option (Nat×HV)->List Expr->Option (List Bool)
 |0,_,_,_,_,_,_=>B'
 |n+1,g,Γ,i,ts,vb,es=>match es with
  |[]=>y' []
  |e::es=>if C4 e then((hE n g Γ i ts vb e).bind HV.Kj).bind λx=>(LQ n g Γ i ts vb es).map (x:: ·) else B'
end
def Jb:Expr->Option Str
 |.Name x _=>y' x
 |_=>B'
theorem wZ(h:Jb e=y' x):∃p,e= .Name x p:=by cases e<;>first|(cases h;done)|(cases h;exact#[_,rfl])
def hS(n:Nat)(g:G)(Γ:Gm)(i:Nat)(ts:List (Str×Bool)):List Stmt->Option Bool
 |[st]=>match Fs st with
  |.ret (y' e) _=>(hE n g Γ i ts B' e).bind HV.Kj
  |_=>B'
 |[s1,s2]=>match Fs s1,Fs s2 with
  |.asg [t] e _,.ret (y' r) _=>(Jb t).bind λx=>if Γ.names.lookup x==y' .local&& !mQ e then(fy Γ x).bind λj=>if j==i then B' else(hE n g Γ i ts B' e).bind λb=>(hE n g Γ i ts (y' (j,b)) r).bind HV.Kj else B'
  |_,_=>B'
 |_=>B'
def DB(n:Nat)(g:G)(Γ:Gm)(dp fF:Bool)(st:Stmt):Option T:=match Fs st with
 |.tr body [.ExceptHandler (y' ty) (y' e) (b0::jM) _] [] [] _=>(Jb ty).bind λt=>
  if Γ.names.lookup e==y' .local&&yo (Γ.names.lookup t)&&df t&& !(t==("ValueError":Str))&&g.xs.any (λx=>x.2.lookup t==y' G') then(fy Γ e).bind λi=>(FZ n g Γ dp fF body).bind λb=>
   y' (.tr b<|g.xs.map λx=>if x.2.lookup t==y' G' then hS n g Γ i x.2 (b0::jM) else B')
  else B'
 |_=>B'
def Ht(n:Nat)(g:G)(Γ:Gm)(dp fF:Bool):List Stmt->Option Ts
 |[]=>y' .nil
 |st::om=>((DB n g Γ dp fF st).or<|cS n g Γ dp fF st).bind λt=>(Ht n g Γ dp fF om).bind λts=>y'<|.cons t ts
section
variable{g:G}{xv:Nat->Value}{CX:oo}{k:Nat}{F:FT}{X:Cx}{Φ:Fm}{Γ:Gm}{W:Addr->Prop}
theorem Dz:bootBuiltins "ValueError"=y' (.type "ValueError"):=by decide +kernel
def hV(H:Hp)(v:V):HV->Prop
 |.b x=>v= .bl x
 |.l xs=>∃p,v= .ref p/\H p=y' (.lst<|xs.map V.bl)
theorem hV.same(h:hV H v x)(s:bT H H'):hV H' v x:=by
 cases x with
 |b x=>exact h
 |l xs=>obtain⟨p,e,h⟩:=h;exact#[p,e,s _ _ h]
def hG(i:Nat)(a:Addr)(b:Option (Nat×HV))(O:L2.St)(H:Hp):Prop:=O[i]?=y' (y'<|.ref a)/\∀j x,b=y' (j,x)->∃v,O[j]?=y' (y' v)/\hV H v x
theorem hG.same(h:hG i a vb σ H)(s:bT H H'):hG i a vb σ H':=#[h.1,λj x e=>by
 obtain⟨v,Z,Y⟩:=h.2 j x e;exact#[v,Z,Y.same s]]
def tH(i:Nat)(a:Addr)(b:Option (Nat×HV))(x:HV):TE:=λO H Q=>hG i a b O H/\∀v j,bT H j->hV j v x->Q v j
theorem fV(h:o.bind HV.Kj=y' x):o=y' (.b x):=by
 cases o with
 |none=>cases h
 |some v=>
  cases v with
  |b y=>cases h;rfl
  |l y=>cases h
theorem qx(h:o.bind HV.MV=y' x):o=y' (.l x):=by
 cases o with
 |none=>cases h
 |some v=>
  cases v with
  |b y=>cases h
  |l y=>cases h;rfl
theorem vy{K:Frag}:∀xs:List Bool,ar K A H (xs.map V.bl) (xs.map Dt.bl)
 |[]=>ar.nil
 |_::xs=>ar.cons RV.wW<|vy xs
theorem OA(n)(h:n<=1000):n<=sizeLine:=by have:=aap;lia
mutual
theorem sC{C a:Addr}{o:Obj}{i:Nat}{ts:List (Str×Bool)}(gx:GX g Γ X)(xr:pS X C a o)(xk:KF X.K X.mg C ts):∀(n:Nat)(vb:Option (Nat×HV))(e:Expr)(b:HV),hE n g Γ i ts vb e=y' b->PE (X.hand a o) e (tH i a vb b)
 |0,vb,e,b,h=>by simp[hE]at h
 |n+1,vb,e,b,h=>by
  have ih:=sC (i:=i) gx xr xk n vb;have var:∀{x:Str}{j:Nat}{p:Pos},slot Γ x=y' j->PE (X.hand a o) (.Name x p) (i4 j):=λ {x j p} hs=>by obtain⟨v1,v2,v3⟩:=fU hs;obtain⟨n1,n2,n3⟩:=bq v2;exact kf (X:=X.hand a o) (by rw[gx.N];exact v3) (gx.vis x v1) n1 n2
  unfold hE at h;split at h
  ·split at h
   ·split at h
    ·rename_i hc;simp only[W3]at hc;obtain⟨⟨⟨⟨⟨h1,h2⟩,h3⟩,h4⟩,h5⟩,h6⟩:=hc;have e1:=Xr h1;subst e1;obtain⟨n1,n2,n3⟩:=bq h6;obtain⟨z,hz,rfl⟩:=Xj.mp h;obtain⟨c,hc,k1,_⟩:=xk.2.2 _ _ hz;rcases hc with ⟨m1,D,rfl⟩|⟨m1,rfl,rfl⟩
     ·intro K' s σ H Q I q;exact BO xr xk.1 xk.2.1 (gx.gl _ h2) (gx.bl _<|iQ h3) (var<|Xr h4) (xh (X:=X.hand a o) (v:=.ref D) (gx.gl _ h5) m1 rfl n1) (λu r=>r) k1 K' s σ H Q I #[q.1.1,q.2 _ _ (bT.refl _) rfl]
     ·intro K' s σ H Q I q;exact BO xr xk.1 xk.2.1 (gx.gl _ h2) (gx.bl _<|iQ h3) (var<|Xr h4) (xc (X:=X.hand a o) (v:=.ty "ValueError") (gx.gl _ h5) m1 Dz rfl (by decide) n1) (λu r=>r) k1 K' s σ H Q I #[q.1.1,q.2 _ _ (bT.refl _) rfl]
    ·cases h
   ·cases h
  ·refine bx h λv h1 h=>?_
   split at h
   ·rename_i hs;cases h;intro K' s σ H Q I q;obtain⟨u,k1,k2⟩:=q.1.2 v.1 v.2 h1;exact var (Xr hs) K' s σ H Q I #[_,k1,q.2 _ _ (bT.refl _) k2]
   ·cases h
  ·split at h
   ·cases h;intro K' s σ H Q I q;exact Gz K' s σ H Q I<|q.2 _ _ (bT.refl _) rfl
   ·cases h
  ·split at h
   ·rename_i es _ hl;obtain⟨xs,h1,rfl⟩:=Xj.mp h;have he:=A9 (i:=i) gx xr xk n vb es xs h1;intro K' s σ H Q I q;refine BP he.1 K' s σ H Q I #[q.1,λvs H' sm ev=>#[?_,λp hp=>?_]]
    ·rw[ev,Xd,he.2];exact OA _ hl
    ·exact q.2 _ _ (sm.trans<|Mx.dB hp _) #[p,rfl,by rw[aQ,ev]]
   ·cases h
  ·split at h
   ·refine bx h λx h1 h=>?_
    refine bx h λy h2 h=>?_
    split at h
    ·rename_i hl;cases h;intro K' s σ H Q I q;refine GA BH (ih _ _<|qx h1) (ih _ _<|qx h2) K' s σ H Q I #[q.1,λv H1 s1#[p,e1,k1]=>#[q.1.same s1,λv2 H2 s2#[p2,e2,k2]=>?_]];refine#[p,p2,_,_,e1,e2,s2 _ _ k1,k2,by rw[Xd,Xd];exact OA _ hl,λr hr=>?_];exact q.2 _ _ ((s1.trans s2).trans<|Mx.dB hr _) #[r,rfl,by rw[aQ,XS]]
    ·cases h
   ·cases h
  ·split at h
   ·refine bx h λx h1 h=>?_
    refine bx h λy h2 h=>?_
    split at h
    ·rename_i z hz;cases h;intro K' s σ H Q I q;refine xg (vj .Eq<|show (X.hand a o).A.units+150<cLine from gx.un) (ih _ _<|qx h1) (ih _ _<|qx h2) (BC _ (by decide)<|by decide) K' s σ H Q I #[q.1,λv H1 s1#[p,e1,k1]=>#[q.1.same s1,λv2 H2 s2#[p2,e2,k2]=>?_]];subst e1 e2;exact#[_,_,z,RV.fR (s2 _ _ k1) (λz=>z)<|vy x,RV.fR k2 (λz=>z)<|vy y,hz,q.2 _ _ (s1.trans s2) rfl]
    ·cases h
   ·cases h
  ·split at h
   ·refine zp b h λx h1=>?_
    intro K' s σ H Q I q;exact BQ (ih _ _<|fV h1) K' s σ H Q I #[q.1,λv H' sm hv=>#[_,hv,q.2 _ _ sm rfl]]
   ·cases h
  ·split at h
   ·intro K' s σ H Q I q;exact BR (ih _ _ h) K' s σ H Q I q
   ·rename_i op p es0 a1 b1 es;refine uG b h λx h1 y h2=>?_
    have g2:=ih _ _<|fV h2;intro K' s σ H Q I q;cases op with
    |And=>
     refine BN (ih _ _<|fV h1) g2 K' s σ H Q I #[q.1,λv H' sm hv=>#[_,hv,?_]];cases x with
     |true=>exact#[q.1.same sm,λv2 H2 s2 h2=>q.2 _ _ (sm.trans s2) h2]
     |false=>exact q.2 _ _ sm rfl
    |Or=>
     refine GB (ih _ _<|fV h1) g2 K' s σ H Q I #[q.1,λv H' sm hv=>#[_,hv,?_]];cases x with
     |true=>exact q.2 _ _ sm rfl
     |false=>exact#[q.1.same sm,λv2 H2 s2 h2=>q.2 _ _ (sm.trans s2) h2]
   ·cases h
  ·cases h
theorem A9{C a:Addr}{o:Obj}{i:Nat}{ts:List (Str×Bool)}(gx:GX g Γ X)(xr:pS X C a o)(xk:KF X.K X.mg C ts):∀(n:Nat)(vb:Option (Nat×HV))(es:List Expr)(xs:List Bool),LQ n g Γ i ts vb es=y' xs->PA (X.hand a o) es (λσ H Q=>hG i a vb σ H/\∀vs H',bT H H'->vs=xs.map V.bl->Q vs H')/\xs.length=es.length
 |0,vb,es,xs,h=>by simp[LQ]at h
 |n+1,vb,es,xs,h=>by
  unfold LQ at h;split at h
  ·cases h;exact#[λpos K' s σ H Q I q=>fS pos K' s σ H Q I<|q.2 _ _ (bT.refl _) rfl,rfl]
  ·rename_i e es;split at h
   ·rename_i hd;refine bx h λx h1 h=>?_
    obtain⟨ys,h2,rfl⟩:=Xj.mp h;obtain⟨k1,k2⟩:=A9 (i:=i) gx xr xk n vb es ys h2;refine#[λpos K' s σ H Q I q=>bJ (sC gx xr xk n vb e _<|fV h1) k1 (bY hd _ _) pos K' s σ H Q I #[q.1,λv H1 s1 hv=>#[q.1.same s1,λvs H2 s2 ev=>q.2 _ _ (s1.trans s2)<|by rw[ev,show v= .bl x from hv];rfl]],by rw[Xm,Xm,k2]]
   ·cases h
end
theorem LX{C a:Addr}(gx:GX g Γ X)(S:pS X C a o)(xk:KF X.K X.mg C ts)(h:hS n g Γ i ts om=y' b):
  rG (X.hand a o) om (λD O H=>O[i]?=y' (y'<|.ref a)/\O.length=X.N.length/\∀H',bT H H'->D.rt (.bl b) H'):=by
 unfold hS at h;split at h
 ·split at h
  ·rename_i st e p hv;obtain rfl:=nN hv rfl;intro M s O H D I q;exact xt (nF<|sC gx S xk n B' _ _<|fV h) M s O H D I #[#[q.1,λj b z=>by cases z],λv H' W hv=>by rw[show v= .bl b from hv];exact q.2.2 _ W]
  ·cases h
 ·split at h
  ·rename_i s1 s2 t e y r k l Py;obtain rfl:=nN l rfl;obtain rfl:=nN Py rfl;obtain⟨x,U,L⟩:=W0.mp h;obtain⟨c,rfl⟩:=wZ U;have h:=L;split at h
   ·rename_i U;rw[W3]at U;refine bx h λj Z h=>?_
    split at h
    ·cases h
    ·rename_i F;obtain⟨v,Y,h3⟩:=W0.mp h;obtain⟨a1,a2,a3⟩:=fz Z;obtain⟨l1,m⟩:=gx.loc x a1;have A:j≠i:=λz=>F (by rw[z];exact Z9 _)
     have hN:(X.hand a o).N[j]?=y' x:=by show X.N[j]?=_;rw[gx.N];exact a3
     have E:(X.hand a o).N.Nodup:=by show X.N.Nodup;rw[gx.N];exact gx.nd
     intro M s O H D I q;refine tD (vo E hN l1 (sC gx S xk n B' _ v Y) (nQ (by simpa using U.2) _ _ _) m) (xt<|nF<|sC gx S xk n (y' (j,v)) _ _<|fV h3) M s O H D I #[#[q.1,λj b z=>by cases z],λu P s1 J=>#[#[?_,λj' b' z=>?_],λw H2 s2 B=>by rw[show w= .bl b from B];exact q.2.2 _<|s1.trans s2]]
     ·rw[Xl A];exact q.1
     ·cases z;have:j<O.length:=by rw[q.2.1];exact(W6.mp hN).1
      exact#[u,by simp[this],J]
   ·cases h
  ·cases h
 ·cases h
theorem GX.eD(w:GX g Γ X):GX g Γ (X.eD E):=#[w.N,w.nd,w.vis,w.loc,w.gl,w.fre,w.calm,w.un,w.con,w.bl]
theorem fX(h:n8 (X.eD E) E' e s'):n8 X E' e s':=by obtain⟨O,j,a,cls,e1,I,f,q⟩:=h;exact#[O,j,a,cls,e1,I.eQ,f,q]
theorem ug(h:n8 X E' e s'):n8 (X.eD E) E' e s':=by obtain⟨O,j,a,cls,e1,I,f,q⟩:=h;exact#[O,j,a,cls,e1,I.eD E,f,q]
theorem SM{dp fF:Bool}{st:Stmt}(KR:X.env.scope.names=Γ.names)(w:GX g Γ X)(r:HX g xv CX k F Φ X)(hd:dp=J'->Φ.d0=B')(h:DB n g Γ dp fF st=y' t):Pb X st (jN Φ Γ F W fF t):=by
 unfold DB at h;split at h
 ·rename_i body ty e b0 jM hp pos M;obtain rfl:=nN M rfl;obtain⟨t,U,L⟩:=W0.mp h;obtain⟨tp,rfl⟩:=wZ U;have h:=L;split at h
  ·rename_i J;simp only[W3]at J;obtain⟨⟨⟨⟨c1,c2⟩,c3⟩,c4⟩,c5⟩:=J;obtain⟨i,Z,h⟩:=W0.mp h;obtain⟨b,Y,h⟩:=W0.mp h;cases h;obtain⟨a1,a2,a3⟩:=fz Z;obtain⟨l1,l2⟩:=w.loc e a1;obtain⟨n1,P,n3⟩:=bq c3;intro s O H D I q;obtain⟨o,ρ,S,oi,er,q⟩:=q;obtain⟨hS,q⟩:=aM q;have Ve:S=B':=by simpa using hS
   have uX:∀z,Φ.d0≠y' z:=λz hz=>by obtain⟨ns,e1,_⟩:=er.drw z<|oi.d z hz;rw[Ve]at e1;cases e1
   generalize htbl:(g.xs.map λx=>if x.2.lookup t==y' G' then Rx.hS n g Γ i x.2 (b0::jM) else B')=zG at q
   let l:Fm:=#[Φ.K,Φ.H0,Φ.d0,λkk=>∃v,zG[kk]?=y' (y' v)/\∀j,bc (λb=>Φ.d0=y' b) Φ.H0 j->D.rt (.bl v) j,Φ.P,Φ.w]
   have X1:HX g xv CX k F l (X.eD<|n8 X<|vR l xv):=#[r.K,r.P,r.w,r.fx,r.room,r.cx,#[r.st.pn,r.st.st],λe s' z=>fX z,r.xk];have own:=rj (X:=X.eD<|n8 X<|vR l xv) #[r.st.pn,r.st.st] (λe s' z=>fX z) λe s' z=>ug z
   have B:=(tT (W:=W) n Γ _ l w.eD X1 hd own).ss _ _ Y;have cH:=m8 (by simpa using c4);obtain⟨y,VW,Mz⟩:=XH.mp c5;obtain⟨ky,Vz⟩:=Zi.mp VW;obtain⟨Cy,_,_,yk⟩:=r.xk ky y.1 y.2 Vz;obtain⟨c,J,_⟩:=yk.2.2 t G'<|Xr Mz;have zy:=J.elim (λz=>z.1) λz=>absurd z.2.1 cH
   have u:X.env.scope.names.lookup e=y' .local:=by rw[KR];exact Xr c1
   refine FA r.st I.ok.hd (w.gl _ c2) zy n1 (w.N▸w.nd) (by rw[w.N];exact a3) u B (λcls j z=>?_) I #[o,ρ,S,#[oi.w,oi.d],er.re rfl,?_]
   ·obtain⟨kk,rfl,⟨v,M,VL⟩,HW⟩:=z;rw[<-htbl,Xn]at M;obtain⟨⟨x,ts⟩,U,M⟩:=Xj.mp M;split at M
    ·rename_i hl;obtain⟨C,e1,e2,xk⟩:=r.xk kk x ts U;obtain⟨c',oA,_,kx⟩:=xk.2.2 t G'<|Xr hl;have:c'=c:=by
      have L:=oA.elim (λz=>z.1) λz=>absurd z.2.1 cH
      rw[zy]at L;exact(ZY L).symm
     subst this;exact#[C,e1,kx rfl,λa o xr=>#[_,LX w xr xk M,λO s1 s2=>#[s1,s2,λH2 sm=>VL H2<|HW.trans<|bc.of_same sm]]]
    ·cases M
   ·cases K:bf F b ρ S with
    |ok p=>
     rw[K]at q;have q:dF Φ Γ W fF o H D p:=q;show dF l Γ W fF o H D p;unfold dF at q ⊢;cases Q:p.1 with
     |next=>rw[Q]at q;intro A j E;exact q A j #[E.ex.imp λo' z=>#[#[z.1.w,z.1.d],ER.re (Φ:=l) rfl z.2.1,z.2.2],E.ext,E.al]
     |brk=>rw[Q]at q;intro A j E;exact q A j #[E.ex.imp λo' z=>#[#[z.1.w,z.1.d],ER.re (Φ:=l) rfl z.2.1,z.2.2],E.ext,E.al]
     |cnt=>rw[Q]at q;intro A j E;exact q A j #[E.ex.imp λo' z=>#[#[z.1.w,z.1.d],ER.re (Φ:=l) rfl z.2.1,z.2.2],E.ext,E.al]
     |ret d=>rw[Q]at q;intro v j ro;exact q v j #[ro.val,ro.ent,ro.drw,ro.fE]
    |ex kk=>
     rw[K]at q;simp only at q;split at q
     ·rename_i v M;exact#[v,M,λj HW=>q _ _ #[RV.wW,HW,λa m=>absurd m<|uX a,λ_ ds z=>by cases z]]
     ·exact q.elim
    |bad=>rw[K]at q;exact q.elim
  ·cases h
 ·cases h
theorem CP{st:Stmt}(Z:Pb X st (jN Φ Γ F W fF t))(Y:pP X om (kT Φ Γ F W fF ts)):pP X (st::om) (kT Φ Γ F W fF<|.cons t ts):=λs O H D I q=>yV Z Y s O H D I (by
 obtain⟨o,ρ,S,r,er,q⟩:=q;rw[bF,ae]at q;refine#[o,ρ,S,r,er,ag q λp _ q=>?_];unfold dF;cases B:p.1 with
 |next=>rw[B]at q;intro M P E;obtain⟨⟨o1,b,aG,a⟩,e1,a1⟩:=E;exact#[o1,p.2.1,p.2.2,b,aG,ag q λp2 _ q=>dF.go e1 a a1 (λ_ _ z=>z) (λ_ _ z=>z) (λ_ _ z=>z) (λ_ _ z=>z) q]
 |brk=>rw[B]at q;unfold mR dF at q;exact q
 |cnt=>rw[B]at q;unfold mR dF at q;exact q
 |ret d=>rw[B]at q;unfold mR dF at q;exact q)
theorem Ah{dp H:Bool}(a:X.env.scope.names=Γ.names)(w:GX g Γ X)(r:HX g xv CX k F Φ X)(hd:dp=J'->Φ.d0=B')(own:PassesOwn (model X.prog X.w) X.A X.env X.xe):∀{b:List Stmt}{ts:Ts},Ht n g Γ dp H b=y' ts->pP X b (kT Φ Γ F W H ts)
 |[],ts,h=>by cases h;exact EV CQ
 |st::b,ts,h=>by
  refine uG ts h λt Z K Y=>?_
  refine CP ?_<|Ah a w r hd own Y;cases J:DB n g Γ dp H st with
  |none=>rw[J]at Z;exact Jz<|(tT n Γ X Φ w r hd own).s _ _ Z
  |some t'=>rw[J]at Z;cases Z;exact SM a w r hd J
theorem tx{st:List Stmt}(h:pP (X.eD E) st t)(U:∀e S,E e S->X.xe e S):pP X st t:=λs O H D I B=>
 aav (h s O H D (I.eD _) B) (λ_ _ q=>q.eQ) λe S z=>U e S z
end
section
variable{P:Program}{w:World}{K:Frag}{mg:Str->Option Value}{base:Heap}{g:G}{xv:Nat->Value}{F:FT}{k:Nat}
structure MG(g:G)(mg:Str->Option Value):Prop where
 con:∀x d,g.cons.lookup x=y' d->∃u,rE d=G'/\mg x=y' u/\RelV (qR d) u
 bl:∀x∈g.bls,mg x=B'
def XG(g:G)(K:Frag)(mg:Str->Option Value)(m:Nat->Value):Prop:=∀k x ts,g.xs[k]?=y' (x,ts)->∃C,m k= .ref C/\mg x=y' (.ref C)/\KF K mg C ts
def y7(bw:Bool)(args:List Dt)(n ps:Nat):ah:=(if bw then[B'] else[])++args.map y'++List.replicate (n-ps) B'
theorem nI(h:(y7 bw args n ps)[i]?=y' (y' d)):∃j,args[j]?=y' d/\i=j+(if bw then 1 else 0):=by
 unfold y7 at h;have b:∀{i:Nat},(args.map y'++List.replicate (n-ps) (B':Option Dt))[i]?=y' (y' d)->args[i]?=y' d:=λ {i} h=>by
  by_cases hi:i<args.length
  ·rw[XO (by simpa using hi),Xn]at h;cases e:args[i]? with
   |none=>rw[e]at h;cases h
   |some a=>rw[e]at h;cases h;rfl
  ·rw[XQ (by simpa using hi),YV]at h;split at h<;>cases h
 cases bw with
 |false=>exact#[i,b h,rfl]
 |true=>
  cases i with
  |zero=>cases h
  |succ i=>exact#[i,b h,rfl]
theorem pF{i:Nat}(h:vs[i]?=y' v):(start N vs)[i]?=y' (y' v):=by unfold L2.start;have hi:=(W6.mp h).1;rw[XO (by simpa using hi),Xn,h];rfl
theorem AN{S:Sx}
  (c:∀i,i<np->M[i]?≠y' G') (t:bw=G'->δ=y' 0) (o:np<=N.length) (hl:U.length=np)
  (hd:if bw=G' then∃(a:Addr)(ns:List Int),U= .ref a::zH/\dr=y' a/\W a/\S=y' ns/\H a=y' (.lst<|ns.map V.int) else U=zH/\dr=B'/\S=B')
  (m:ar K W H zH args) (B:∀a,W a->∃x,H a=y' x):ER #[K,H,dr,Ek,P,w] #[names,N,M,δ,κ] #[W,W,dr] (y7 bw args N.length np) S (start N U) H/\args.length+(if bw then 1 else 0)=np:=by
 have u:=m.length;have n:args.length+(if bw then 1 else 0)=np:=by
  cases bw with
  |false=>
   simp only[X6,aad]at hd ⊢;obtain⟨e,_,_⟩:=hd;subst e
   lia
  |true=>
   simp only[aag]at hd ⊢;obtain⟨a,ns,e,_⟩:=hd;rw[e]at hl;simp at hl
   lia
 refine#[#[?_,λa z=>z,λa z=>?_,B,λi d h=>?_,λi g U h=>?_,λi j a d e E k Z Y _ _=>?_,λa z=>?_,λz=>?_,λi a hi z=>?_,λa z=>.inl z,bc.refl],n]
 ·unfold L2.start y7;simp only[Xk,Xd];cases bw<;>simp at n ⊢<;>lia
 ·cases bw with
  |false=>simp only[X6]at hd;rw[hd.2.1]at z;cases z
  |true=>simp only[aag]at hd;obtain⟨b,ns,_,e,L,_⟩:=hd;rw[e]at z;cases z;exact L
 ·obtain⟨j,F,rfl⟩:=nI h;obtain⟨v,Z,Y⟩:=m.getD F;have q:=(W6.mp F).1;have E:eR #[names,N,M,δ,κ] (j+if bw=G' then 1 else 0)=J':=by unfold eR;have:=c (j+if bw=G' then 1 else 0) ⋯;simpa using this
  refine#[v,pF ?_,?_]
  ·cases bw with
   |false=>simp only[X6]at hd ⊢;rw[hd.1];exact Z
   |true=>simp only[aag]at hd ⊢;obtain⟨b,ns,e,_⟩:=hd;rw[e];simpa using Z
  ·rw[E,aae (by simp)];exact Y
 ·obtain⟨j,F,rfl⟩:=nI h;obtain⟨v,Z,Y⟩:=m.getD F;cases Y.nd
 ·obtain⟨j1,F,rfl⟩:=nI Z;have q:=(W6.mp F).1;exfalso;exact c (j1+if bw=G' then 1 else 0) ⋯ (Xr E)
 ·cases bw with
  |false=>simp only[X6]at hd;rw[hd.2.1]at z;cases z
  |true=>simp only[aag]at hd;obtain⟨b,ns,_,e,_,e2,l⟩:=hd;rw[e]at z;cases z;exact#[ns,e2,l]
 ·cases bw with
  |false=>simp only[X6]at hd;exact hd.2.2
  |true=>simp only[aag]at hd;obtain⟨b,ns,_,e,_⟩:=hd;rw[e]at z;cases z
 ·cases bw with
  |false=>simp only[X6]at hd;rw[hd.2.1]at z;cases z
  |true=>obtain⟨b,ns,e1,e,_⟩:=hd;rw[e]at z;cases z;rw[t rfl]at hi;cases hi;exact pF (by rw[e1];rfl)
theorem LM(m:MG g mg)(S:fG N ps sc)(hr:jb k (A.deeper<|envOfC qual sc s.heap.objs.size f gw)):
  GX g #[sc.names,N,M,δ,κ] (mv CX P w K mg base N qual sc f gw A outer s H E) where
 N:=rfl
 nd:=S.nd
 vis:=λx h=>by
  show G5 sc x;unfold G5;cases W:sc.names.lookup x with
  |none=>rw[W]at h;cases h
  |some Z=>
   rw[W]at h;cases Z with
   |«local»=>exact .inl rfl
   |cell=>exact .inr<|.inl rfl
   |free=>exact .inr<|.inr rfl
   |globalExplicit=>cases h
   |globalImplicit=>cases h
 loc:=λx h=>by
  refine#[?_,.inl rfl];show L2.Loc sc x;unfold L2.Loc;cases W:sc.names.lookup x with
  |none=>rw[W]at h;cases h
  |some Z=>
   rw[W]at h;cases Z with
   |«local»=>exact .inl rfl
   |cell=>exact .inr rfl
   |free=>cases h
   |globalExplicit=>cases h
   |globalImplicit=>cases h
 gl:=λx h=>by
  show sc.names.lookup x=_;cases W:sc.names.lookup x with
  |none=>rw[W]at h;cases h
  |some Z=>
   rw[W]at h;cases Z with
   |globalImplicit=>rfl
   |«local»=>cases h
   |cell=>cases h
   |free=>cases h
   |globalExplicit=>cases h
 fre:=λx h=>h
 calm:=rfl
 un:=by have:=hr.un;show (A.deeper<|envOfC qual sc s.heap.objs.size f gw).units+150<cLine;lia
 con:=m.con
 bl:=m.bl
theorem oY{o y doc pm Y ct oc:Value}
  (lk:K.lookup f=y' #[oc,od,.func<|PySem.W.fnOf name qual params body scope o y doc pm an Y ct,w5]) (zw:PySem.W.codeIn K Y qual=G') (S:fG N ps scope) (hm:MG g mg) (D2:XG g K mg xv) (fx:FX g xv (uk P w) P w K mg base m k F)
  (c:∀i,i<ps.length->M[i]?≠y' G') (t:bw=G'->δ=y' 0) (J:Ht n g #[scope.names,N,M,δ,κ] bw fF body=y' ts):
  jS P w K mg base (uk P w) (k+1) f (PySem.W.fnOf name qual params body scope o y doc pm an Y ct) ps (Ua K xv (gU F #[ps.length,N.length,bw,ts]) ps.length fF bw):=by
 have oE:ps.length<=N.length:=by have:=aab List.length S.pre;rw[Y8]at this;lia
 refine HJ lk zw S (λU H Q E h=>h.1) λA outer s H U Q E hr h=>?_
 obtain⟨hl,W,dr,args,S0,zH,hd,ha,hw,h⟩:=h;have er:=AN (names:=scope.names) (κ:=κ) (P:=P) (w:=w) (Ek:=λZ=>∀j,bc (λb=>dr=y' b) H j->E (xv Z) B' j) c t oE hl hd ha hw;obtain⟨er,zt⟩:=er;generalize l:mv (uk P w) P w K mg base N qual scope f Y A outer s H E=X;generalize x:(#[K,H,dr,λZ=>∀j,bc (λb=>dr=y' b) H j->E (xv Z) B' j,P,w]:Fm)=Φ at er;have hΦE:∀v a j,vR Φ xv v a j->E v B' j:=λv a j z=>by obtain⟨Z,rfl,z1,z2⟩:=z;subst x;exact z1 j z2
 have Wg:∀e s',n8 X (vR Φ xv) e s'->X.xe e s':=λe s' z=>by subst l;obtain⟨O,j,a,cls,e1,I,fl,q⟩:=z;exact Kz #[O,j,a,cls,e1,I,fl,hΦE _ _ _ q]
 have st:eU X:=by subst l;exact Cu
 have gx:GX g #[scope.names,N,M,δ,κ] X:=by subst l;exact LM hm S hr
 have Ud:eU (X.eD<|n8 X<|vR Φ xv):=#[st.pn,st.st];have r:HX g xv (uk P w) k F Φ (X.eD<|n8 X<|vR Φ xv):=by
  refine#[?_,?_,?_,#[m,?_],?_,?_,Ud,λe s' z=>fX z,?_]
  ·subst x l;rfl
  ·subst x l;rfl
  ·subst x l;rfl
  ·subst l;exact fx
  ·subst l;exact hr
  ·subst l;rfl
  ·subst l;exact D2
 have own:=rj Ud (λe s' z=>fX z) λe s' z=>ug z
 have d0:Φ.d0=dr:=by subst x;rfl
 have SS:=Ah (W:=W) (by subst l;rfl) gx.eD r (λz=>by
  rw[d0];subst z;exact hd.2.1) own J
 refine#[_,tx SS Wg,#[W,W,dr],_,S0,#[rfl,λa z=>by rw[d0]at z;exact z],er,?_];subst x;unfold gU at h;rw[aaf zt]at h;have h:(match (bf F ts (y7 bw args N.length ps.length) S0).bind (λp=>match p.1 with
   |.next=>R.ok (Dt.bj,p.2.2)
   |.ret d=>R.ok (d,p.2.2)
   |_=>R.bad) with
  |.ok p=>∀v j,FO K W dr fF H p.1 p.2 v j->Q v j
  |.ex Z=>∀j,bc (λb=>dr=y' b) H j->E (xv Z) B' j
  |.bad=>False):=h
 cases he:bf F ts (y7 bw args N.length ps.length) S0 with
 |ok p=>
  rw[he]at h;simp only[R.ao]at h;show dF _ _ _ _ _ _ _ p;unfold dF;cases B:p.1 with
  |next=>rw[B]at h;intro σ' j so;obtain⟨o',oi,L,_⟩:=so.ex;exact h _ _ #[L.ent,RV.qA,λa z=>L.drw a<|oi.d a z,λ_ ds e=>by cases e]
  |ret d=>rw[B]at h;intro v j u;exact h _ _ #[u.ent,u.val,u.drw,u.fE]
  |brk=>rw[B]at h;exact h.elim
  |cnt=>rw[B]at h;exact h.elim
 |ex Z=>rw[he]at h;exact h
 |bad=>rw[he]at h;exact h.elim
end
structure zL(g:G)(K:Frag)(mg:Str->Option Value)(e:Str×Nat×List Dt×Bool)(idx:Nat)(fn:Fn):Prop where
 ex:∃(fa:Addr)(ps N:List Str)(M:List Bool)(δ κ:Option Nat)(n:Nat)(oc:Value)(od an:Option Addr)(w5:Array (Option Value))(params:Arguments)(body:List Stmt)(scope:Scope)(dV kV doc pm gw ct:Value),
  K.lookup fa=y' #[oc,od,.func<|PySem.W.fnOf e.1 e.1 params body scope dV kV doc pm an gw ct,w5]/\PySem.W.codeIn K gw e.1=G'/\PySem.W.keepIn K (.ref fa)=G'/\mg e.1=y' (.ref fa)/\fG N ps scope/\(∀i,i<ps.length->M[i]?≠y' G')/\
  (e.2.2.2=G'->δ=y' 0)/\ps.length=e.2.1/\Ht n g #[scope.names,N,M,δ,κ] e.2.2.2 (g.fr idx) body=y' fn.body/\fn.ps=ps.length/\fn.n=N.length/\fn.bw=e.2.2.2/\
  (∀j,j<=e.2.2.1.length->∃ds,aw ((e.2.2.1.drop j).map qR) ds/\Binds K (PySem.W.fnOf e.1 e.1 params body scope dV kV doc pm an gw ct) ps ds)/\e.2.2.1.all rE=G'
def rF(g:G)(K:Frag)(mg:Str->Option Value):Nat->List (Str×Nat×List Dt×Bool)->List Fn->Prop
 |_,[],[]=>True
 |i,e::es,f::fs=>zL g K mg e i f/\rF g K mg (i+1) es fs
 |_,_,_=>False
section
variable{g:G}{K:Frag}{mg:Str->Option Value}
theorem qm:∀{es:List (Str×Nat×List Dt×Bool)}{fs:List Fn}{i j:Nat}{r:Nat×List Dt×Bool},rF g K mg i es fs->sg x es=y' (j,r)->∃f,zL g K mg (x,r) (i+j) f/\fs[j]?=y' f
 |[],fs,i,j,r,_,h=>by simp[sg]at h
 |e::es,[],i,j,r,h,_=>h.elim
 |e::es,f::fs,i,j,r,ok,h=>by
  obtain⟨o1,o2⟩:=ok;unfold sg at h;split at h
  ·rename_i U;cases h;have ex:=Xr U;subst ex;exact#[f,o1,rfl]
  ·obtain⟨p,Z,Y⟩:=Xj.mp h;obtain⟨M,r'⟩:=p;cases Y;obtain⟨l,k1,k2⟩:=qm o2 Z;refine#[l,?_,k2];have:i+(M+1)=i+1+M:=⋯
   rw[this];exact k1
variable{P:Program}{w:World}{base:Heap}{xv:Nat->Value}{fs:List Fn}
theorem nE(hm:MG g mg)(r:XG g K mg xv)(ok:rF g K mg 0 g.fns fs):∀n,FX g xv (uk P w) P w K mg base n n (ay fs n)
 |0=>⟨λx f l fJ bw h=>by
   obtain⟨fn,⟨y,ps,N,M,δ,κ,n,t,od,k,J,b,body,scope,o,kV,p,pm,gw,ct,Z,Y,u,h4,h5,j,X,a,L,F,B,Th,z,i⟩,hf⟩:=qm ok h;refine#[y,_,ps,a,h4,u,#[λU H Q E q=>q.1.trans a.symm,λA outer s H args c U Q E _ _ _ _ q=>?_],z,i];obtain⟨_,W,dr,v,S,I,_,_,_,q⟩:=q;exact q.elim⟩
 |n+1=>⟨λx f l fJ bw h=>by
   have O:=nE hm r ok n;obtain⟨fn,⟨y,ps,N,M,δ,κ,m,t,od,k,J,b,body,scope,o,kV,p,pm,gw,ct,Z,Y,u,h4,h5,j,X,a,L,F,B,Th,z,i⟩,hf⟩:=qm ok h;rw[ZV]at L;refine#[y,_,ps,a,h4,u,?_,z,i];have:=oY Z Y h5 hm r O j X L;have e:(ay fs<|n+1) f=gU (ay fs n) #[ps.length,N.length,bw,fn.body]:=by funext args S;show (match fs[f]? with|some g=>gU (ay fs n) g args S|none=>R.bad)=_;rw[hf];obtain⟨a1,a2,a3,a4⟩:=fn;subst F B Th;rfl
   have UY:ps.length=l:=a;rw[e,<-UY];exact this⟩
def Cr(K:Frag):Sp:=λU H Q _=>∃(a:Addr)(ns:List Int),U=[.ref a]/\cX K H a (ns.map V.int)/\ns.length<=63/\∀j,Q (.bl G') j
theorem len0{P:List Value->Prop}(h:P []):∀c:List Value,c.length=0->P c:=λc e=>YM e▸h
theorem lenS{P:List Value->Prop}(h:∀a(c:List Value),c.length=n->P (a::c)):∀c:List Value,c.length=n+1->P c:=λc e=>by
 cases c with
 |nil=>cases e
 |cons a t=>exact h a t<|Nat.succ.inj e
theorem binds0(h:∀c:List Value,c.length=ps.length->bindArgs fd #[c,[]]=pure (ps.zip c)):∀j,j<=([]:List Dt).length->∃ds,aw ((([]:List Dt).drop j).map qR) ds/\Binds K fd ps ds:=λj F=>by
 have:j=0:=by simpa using F
 subst this;exact#[[],.nil,Binds.all h]
theorem Hl(M:RelV (qR d) v)(h0:Binds K fd ps [v])(Z:Binds K fd ps []):∀j,j<=([d]:List Dt).length->∃ds,aw ((([d]:List Dt).drop j).map qR) ds/\Binds K fd ps ds:=λj F=>by
 have:j=0\/j=1:=by simp at F;lia
 rcases this with rfl|rfl
 ·exact#[[v],.cons M .nil,h0]
 ·exact#[[],.nil,Z]
def V3(names:List (Str×NameKind))(ps:List Str):List Str:=ps++names.filterMap λp=>if Ee (y' p.2)&& !ps.contains p.1 then y' p.1 else B'
def MZ(N ms:List Str):List Bool:=N.map λx=>ms.contains x
theorem MX{N ms ps:List Str}(h:((MZ N ms).take ps.length).all (λb=> !b)=G'):∀i,i<ps.length->(MZ N ms)[i]?≠y' G':=λi hi e=>by have E:=Zi.mpr #[i,by rw[YX hi];exact e];have:=XF.mp h G' E;cases this
end
end Rx
end
section
namespace Rx
open PySem PySem.W PySem.Spec PyProof.Rows L2
section
variable{S:Sx}{ρ:ah}
theorem d5(P:List Dt->ah->Prop)(h0:P [] ρ)
  (g:∀pre x o ρ,ds=pre++x::o->P pre ρ->∃ρ1 a,fv tg x ρ= .ok ρ1/\body ρ1 S= .ok (.next,a,S)/\P (pre++[x]) a):∃i,forL tg body ds ρ S= .ok (.next,i,S)/\P ds i:=by
 have key:∀(o pre:List Dt)(ρ:ah),ds=pre++o->P pre ρ->∃i,forL tg body o ρ S= .ok (.next,i,S)/\P ds i:=by
  intro o
  induction o with
  |nil=>intro pre ρ e h;rw[XM]at e;subst e;exact#[ρ,rfl,h]
  |cons x o O=>intro pre ρ e h;obtain⟨ρ1,a,Z,Y,u⟩:=g pre x o ρ e h;obtain⟨i,Q,A⟩:=O (pre++[x]) a (by rw[e];simp) u;refine#[i,?_,A];rw[forL,Z,R.ao,Y];exact Q
 exact key ds [] ρ rfl h0
theorem jo(P:List Dt->ah->Prop)(T:Dt->Prop)(h0:P [] ρ)
  (g:∀pre x o ρ,ds=pre++x::o->P pre ρ->∃ρ1 a,fv tg x ρ= .ok ρ1/\((body ρ1 S= .ok (.next,a,S)/\P (pre++[x]) a)\/∃d,body ρ1 S= .ok (.ret d,a,S)/\T d)):
  (∃i,forL tg body ds ρ S= .ok (.next,i,S)/\P ds i)\/∃d i,forL tg body ds ρ S= .ok (.ret d,i,S)/\T d:=by
 have key:∀(o pre:List Dt)(ρ:ah),ds=pre++o->P pre ρ->(∃i,forL tg body o ρ S= .ok (.next,i,S)/\P ds i)\/∃d i,forL tg body o ρ S= .ok (.ret d,i,S)/\T d:=by
  intro o
  induction o with
  |nil=>intro pre ρ e h;rw[XM]at e;subst e;exact .inl #[ρ,rfl,h]
  |cons x o O=>
   intro pre ρ e h;obtain⟨ρ1,a,Z,Y|⟨d,Y,u⟩⟩:=g pre x o ρ e h
   ·rw[forL,Z,R.ao,Y.1];exact O (pre++[x]) a (by rw[e];simp) Y.2
   ·exact .inr #[d,a,by rw[forL,Z,R.ao,Y,R.ao],u]
 exact key ds [] ρ rfl h0
theorem mq:∀{ds:List Dt},(∀x∈ds,f x S= .ok (g x,S))->az f ds S= .ok (ds.flatMap g,S)
 |[],_=>rfl
 |x::ds,h=>by rw[az,h x Xa,R.ao,mq λy F=>h y<|W7 _ F,R.ao,YR]
theorem gG{α j:Type}(f:α->j):∀l:List α,(l.flatMap λx=>[f x])=l.map f
 |[]=>rfl
 |x::l=>by rw[YR,gG f l];rfl
theorem fL{α j:Type}(p)(f:α->j):∀l:List α,(l.flatMap λx=>if p x=G' then[f x] else[])=(l.filter p).map f
 |[]=>rfl
 |x::l=>by
  rw[YR,fL p f l];by_cases h:p x=G'
  ·rw[aaf h,List.filter_cons_of_pos h];rfl
  ·rw[aae h,List.filter_cons_of_neg h];rfl
theorem oW(h:∀x∈ds,f x S= .ok ([g x],S)):az f ds S= .ok (ds.map g,S):=by rw[mq h,gG]
end
theorem xI(h:fs[k]?=y' g):ay fs (n+1) k args S=gU (ay fs n) g args S:=by show (match fs[k]? with|some g=>gU (ay fs n) g args S|none=>R.bad)=_;rw[h]
def M8(d:Dt)(S:Sx):R (Dt×Sx):=match d with|.int i=>.ok (.int<|-i,S)|_=>.bad
def T6(d:Dt)(S:Sx):R (Dt×Sx):=match d with|.bl b=>.ok (.bl !b,S)|_=>.bad
def Lj(d:Dt)(S:Sx):R (Dt×Sx):=match d with|.bl c=>.ok (.bl c,S)|_=>.bad
def G7(f:Sx->R (Dt×Sx))(d:Dt)(S:Sx):R (Dt×Sx):=match d with|.bl G'=>(f S).bind (λy=>Lj y.1 y.2)|.bl J'=>.ok (.bl J',S)|_=>.bad
def RN(f:Sx->R (Dt×Sx))(d:Dt)(S:Sx):R (Dt×Sx):=match d with|.bl J'=>(f S).bind (λy=>Lj y.1 y.2)|.bl G'=>.ok (.bl G',S)|_=>.bad
def Ep(k:List Dt->Dt)(ds:List Dt)(S:Sx):R (Dt×Sx):=aa (decide (ds.length<=lim))<|.ok (k ds,S)
def Rv(o:Option (List Dt))(S:Sx):R (List Dt×Sx):=match o with|some ds=>.ok (ds,S)|none=>.bad
def Oa(d e:Dt)(S:Sx):R (Dt×Sx):=match e with|.int i=>(eJ d (y' i) B').bind λd=>.ok (d,S)|_=>.bad
def N9(d e:Dt)(S:Sx):R (Dt×Sx):=match e with|.int i=>(eJ d B'<|y' i).bind λd=>.ok (d,S)|_=>.bad
theorem RX:
  (∀{F:FT}{S:Sx}{ρ:ah}{d:Dt},ev F (.con d) ρ S= .ok (d,S))/\
  (∀{F:FT}{S:Sx}{ρ:ah}{i:Nat},ev F (.var i) ρ S=(aT ρ i).bind λd=>.ok (d,S))/\
  (∀{F:FT}{S:Sx}{ρ:ah}{i:Nat},ev F (.mvr i) ρ S=(aT ρ i).bind λd=>.ok (d,S))/\
  (∀{F:FT}{S:Sx}{ρ:ah}{o:Operator}{a b:C},ev F (.bin o a b) ρ S=(ev F a ρ S).bind λx=>(ev F b ρ x.2).bind λy=>(kI o x.1 y.1).bind λd=>.ok (d,y.2))/\
  (∀{F:FT}{S:Sx}{ρ:ah}{o:CmpOp}{a b:C},ev F (.cmp o a b) ρ S=(ev F a ρ S).bind λx=>(ev F b ρ x.2).bind λy=>(ck o x.1 y.1).bind λd=>.ok (.bl d,y.2))/\
  (∀{F:FT}{S:Sx}{ρ:ah}{a:C},ev F (.neg a) ρ S=(ev F a ρ S).bind λx=>M8 x.1 x.2)/\
  (∀{F:FT}{S:Sx}{ρ:ah}{a:C},ev F (.nt a) ρ S=(ev F a ρ S).bind λx=>T6 x.1 x.2)/\
  (∀{F:FT}{S:Sx}{ρ:ah}{a b:C},ev F (.and a b) ρ S=(ev F a ρ S).bind λx=>G7 (ev F b ρ) x.1 x.2)/\
  (∀{F:FT}{S:Sx}{ρ:ah}{a b:C},ev F (.or a b) ρ S=(ev F a ρ S).bind λx=>RN (ev F b ρ) x.1 x.2)/\
  (∀{F:FT}{S:Sx}{ρ:ah}{a b c:C},ev F (.ite a b c) ρ S=(cg F a ρ S).bind λx=>if x.1=G' then ev F b ρ x.2 else ev F c ρ x.2)/\
  (∀{F:FT}{S:Sx}{ρ:ah}{a b:C},ev F (.idx a b) ρ S=(ev F a ρ S).bind λx=>(ev F b ρ x.2).bind λy=>(cq x.1 y.1).bind λd=>.ok (d,y.2))/\
  (∀{F:FT}{S:Sx}{ρ:ah}{a b:C},ev F (.sliL a b) ρ S=(ev F a ρ S).bind λx=>(ev F b ρ x.2).bind λy=>Oa x.1 y.1 y.2)/\
  (∀{F:FT}{S:Sx}{ρ:ah}{a b:C},ev F (.sliH a b) ρ S=(ev F a ρ S).bind λx=>(ev F b ρ x.2).bind λy=>N9 x.1 y.1 y.2)/\
  (∀{F:FT}{S:Sx}{ρ:ah}{f:Nat}{es:Cs}{ds:List Dt},ev F (.call f es ds) ρ S=(fK F es ρ S).bind λx=>(F f (x.1++ds) B').bind λy=>.ok (y.1,x.2))/\
  (∀{F:FT}{S:Sx}{ρ:ah}{u:BI}{es:Cs},ev F (.bi u es) ρ S=(fK F es ρ S).bind λx=>(cG u x.1).bind λd=>.ok (d,x.2))/\
  (∀{F:FT}{S:Sx}{ρ:ah}{es:Cs},ev F (.tup es) ρ S=(fK F es ρ S).bind λx=>Ep .tup x.1 x.2)/\
  (∀{F:FT}{S:Sx}{ρ:ah}{es:Cs},ev F (.lst es) ρ S=(fK F es ρ S).bind λx=>Ep .lst x.1 x.2)/\
  (∀{F:FT}{S:Sx}{ρ:ah},fK F .nil ρ S= .ok ([],S))/\
  (∀{F:FT}{S:Sx}{ρ:ah}{a:C}{es:Cs},fK F (.cons a es) ρ S=(ev F a ρ S).bind λx=>(fK F es ρ x.2).bind λy=>.ok (x.1::y.1,y.2))/\
  (∀{F:FT}{S:Sx}{ρ:ah}{o:CmpOp}{a b:C},cg F (.cmp o a b) ρ S=(ev F a ρ S).bind λx=>(ev F b ρ x.2).bind λy=>(ck o x.1 y.1).bind λd=>.ok (d,y.2))/\
  (∀{F:FT}{S:Sx}{ρ:ah}{a b:C},cg F (.and a b) ρ S=(cg F a ρ S).bind λx=>if x.1=G' then cg F b ρ x.2 else .ok (J',x.2))/\
  (∀{F:FT}{S:Sx}{ρ:ah}{a b:C},cg F (.or a b) ρ S=(cg F a ρ S).bind λx=>if x.1=G' then .ok (G',x.2) else cg F b ρ x.2)/\
  (∀{F:FT}{S:Sx}{ρ:ah}{a:C},cg F (.nt a) ρ S=(cg F a ρ S).bind λx=>.ok (!x.1,x.2))/\
  (∀{F:FT}{S:Sx}{ρ:ah}{f:Nat}{es:Cs}{ds:List Dt},cg F (.call f es ds) ρ S=(fK F es ρ S).bind λx=>(F f (x.1++ds) B').bind λy=>(cU y.1).bind λb=>.ok (b,x.2))/\
  (∀{F:FT}{S:Sx}{ρ:ah}{u:BI}{es:Cs},cg F (.bi u es) ρ S=(fK F es ρ S).bind λx=>(cG u x.1).bind λd=>(cU d).bind λb=>.ok (b,x.2))/\
  (∀{F:FT}{S:Sx}{ρ:ah}{i:Nat},cg F (.var i) ρ S=(aT ρ i).bind λd=>(cU d).bind λb=>.ok (b,S))/\
  (∀{F:FT}{S:Sx}{ρ:ah}{i:Nat},cg F (.mvr i) ρ S=(aT ρ i).bind λd=>(cU d).bind λb=>.ok (b,S))/\
  (∀{F:FT}{S:Sx}{ρ:ah}{a b:C},cg F (.idx a b) ρ S=(ev F a ρ S).bind λx=>(ev F b ρ x.2).bind λy=>(cq x.1 y.1).bind λd=>(cU d).bind λb=>.ok (b,y.2))/\
  (∀{F:FT}{S:Sx}{ρ:ah},aZ F .nil ρ S= .ok (G',S))/\
  (∀{F:FT}{S:Sx}{ρ:ah}{a:C},aZ F (.cons a .nil) ρ S=cg F a ρ S)/\
  (∀{F:FT}{S:Sx}{ρ:ah}{a:C},dq F (.seq a) ρ S=(ev F a ρ S).bind λx=>Rv (gW x.1) x.2)/\
  (∀{F:FT}{S:Sx}{ρ:ah}{a:C},dq F (.enum a) ρ S=(ev F a ρ S).bind λx=>Rv ((cW x.1).map<|wj 0) x.2)/\
  (∀{d:Dt}{ρ:ah},aT (y' d::ρ) 0= .ok d)/\
  (∀{e:Option Dt}{ρ:ah}{i:Nat},aT (e::ρ) (i+1)=aT ρ i)/\
  (∀{S:Sx}{i:Int},M8 (.int i) S= .ok (.int<|-i,S))/\
  (∀{S:Sx}{b:Bool},T6 (.bl b) S= .ok (.bl !b,S))/\
  (∀{S:Sx}{f:Sx->R (Dt×Sx)},G7 f (.bl J') S= .ok (.bl J',S))/\
  (∀{S:Sx}{f:Sx->R (Dt×Sx)},G7 f (.bl G') S=(f S).bind λy=>Lj y.1 y.2)/\
  (∀{S:Sx}{f:Sx->R (Dt×Sx)},RN f (.bl G') S= .ok (.bl G',S))/\
  (∀{S:Sx}{f:Sx->R (Dt×Sx)},RN f (.bl J') S=(f S).bind λy=>Lj y.1 y.2)/\
  (∀{S:Sx}{b:Bool},Lj (.bl b) S= .ok (.bl b,S))/\
  (∀{S:Sx}{ds:List Dt},Rv (y' ds) S= .ok (ds,S))/\
  (∀{ds:List Dt}{f:List Dt->List Dt},(y' ds).map f=y' (f ds))/\
  (∀{S:Sx}{k:List Dt->Dt},Ep k [] S= .ok (k [],S))/\
  (∀{S:Sx}{k:List Dt->Dt}{a:Dt},Ep k [a] S= .ok (k [a],S))/\
  (∀{S:Sx}{k:List Dt->Dt}{a b:Dt},Ep k [a,b] S= .ok (k [a,b],S))/\
  (∀{S:Sx}{k:List Dt->Dt}{a b c:Dt},Ep k [a,b,c] S= .ok (k [a,b,c],S))/\
  (∀{S:Sx}{k:List Dt->Dt}{a b c d:Dt},Ep k [a,b,c,d] S= .ok (k [a,b,c,d],S))/\
  (∀{S:Sx}{k:List Dt->Dt}{a b c d e:Dt},Ep k [a,b,c,d,e] S= .ok (k [a,b,c,d,e],S))/\
  (∀{S:Sx}{d:Dt}{i:Int},Oa d (.int i) S=(eJ d (y' i) B').bind λd=>.ok (d,S))/\
  (∀{S:Sx}{d:Dt}{i:Int},N9 d (.int i) S=(eJ d B'<|y' i).bind λd=>.ok (d,S))/\
  (∀{m n:Int},kI .Add (.int m) (.int n)= .ok (.int<|m+n))/\
  (∀{m n:Int},kI .Sub (.int m) (.int n)= .ok (.int<|m-n))/\
  (∀{m n:Int},ck .Lt (.int m) (.int n)= .ok (decide (m<n)))/\
  (∀{m n:Int},ck .LtE (.int m) (.int n)= .ok (decide (m<=n)))/\
  (∀{m n:Int},ck .Gt (.int m) (.int n)= .ok (decide (n<m)))/\
  (∀{m n:Int},ck .GtE (.int m) (.int n)= .ok (decide (n<=m)))/\
  (∀{m n:Int},ck .Eq (.int m) (.int n)= .ok (m==n))/\
  (∀{m n:Int},ck .NotEq (.int m) (.int n)= .ok (!(m==n)))/\
  (∀{m n:Str},ck .Eq (.str m) (.str n)= .ok (m==n))/\
  (∀{m n:Str},ck .NotEq (.str m) (.str n)= .ok (!(m==n)))/\
  (∀{ns:List Int},cG .len [.iZ ns]= .ok (.int ns.length))/\
  (∀{ds:List Dt},cG .len [.lst ds]= .ok (.int ds.length))/\
  (∀{ds:List Dt},cG .len [.tup ds]= .ok (.int ds.length))/\
  (∀{ds:List Dt},cG .tuple [.lst ds]= .ok (.tup ds))/\
  (∀{ds:List Dt},cG .tuple [.tup ds]= .ok (.tup ds))/\
  (∀{ds:List Dt},cG .list [.lst ds]= .ok (.lst ds))/\
  (∀{ds:List Dt},cG .list [.tup ds]= .ok (.lst ds))/\
  (∀{m n:Int},cG .min2 [.int m,.int n]= .ok (.int<|if n<m then n else m))/\
  (∀{m n:Int},cG .max2 [.int m,.int n]= .ok (.int<|if n>m then n else m))/\
  (∀{t:Bool},cU (.bl t)= .ok t)/\
  (∀{ds:List Dt},cU (.lst ds)= .ok !ds.isEmpty)/\
  (∀{ds:List Dt},cU (.tup ds)= .ok !ds.isEmpty)/\
  (∀{ds:List Dt},itemsOf (.lst ds)=y' ds)/\
  (∀{ds:List Dt},itemsOf (.tup ds)=y' ds)/\
  (∀{ds:List Dt},gW (.lst ds)=y' ds)/\
  (∀{ds:List Dt},gW (.tup ds)=y' ds)/\
  (∀{z:Str},gW (.str z)=y' (z.cps.toList.map λc=>.str ⟨#[c]⟩))/\
  (∀{x y:Str},ck .In (.str x) (.str y)= .ok (DR y x))/\
  (∀{x y:Str},ck .NotIn (.str x) (.str y)= .ok (!DR y x))/\
  (∀{ds:List Dt},cW (.lst ds)=y' ds)/\
  (∀{ds:List Dt},cW (.tup ds)=y' ds)/\
  (∀{α j:Type}{x:α}{f:α->R j},(R.ok x).bind f=f x)/\
  (∀{α:Type}{r:R α},aa G' r=r)/\
  (∀{ds:List Dt},(ds++[]:List Dt)=ds)/\
  (∀{e v:Option Dt}{ρ:ah},(e::ρ).set 0 v=v::ρ)/\
  (∀{e v:Option Dt}{ρ:ah}{i:Nat},(e::ρ).set (i+1) v=e::ρ.set i v)/\
  (∀{d:Dt}{ρ:ah}{i:Nat},fv (.nm i) d ρ= .ok (ρ.set i<|y' d))/\
  (∀{is:List Nat}{ds:List Dt}{ρ:ah},fv (.tp is) (.tup ds) ρ=f7 is ds ρ)/\
  (∀{is:List Nat}{ds:List Dt}{ρ:ah},fv (.tp is) (.lst ds) ρ=f7 is ds ρ)/\
  (∀{ρ:ah},f7 [] [] ρ= .ok ρ)/\
  (∀{i:Nat}{is:List Nat}{d:Dt}{ds:List Dt}{ρ:ah},f7 (i::is) (d::ds) ρ=f7 is ds (ρ.set i<|y' d))/\
  (∀{d:Dt},cq (.tup [d]) (.int 0)= .ok d)/\
  (∀{d W:Dt},cq (.tup [d,W]) (.int 0)= .ok d)/\
  (∀{d W:Dt},cq (.tup [d,W]) (.int 1)= .ok W)/\
  (∀{d W d3:Dt},cq (.tup [d,W,d3]) (.int 0)= .ok d)/\
  (∀{d W d3:Dt},cq (.tup [d,W,d3]) (.int 1)= .ok W)/\
  (∀{d W d3:Dt},cq (.tup [d,W,d3]) (.int 2)= .ok d3):=by
 repeat' apply And.intro
 all_goals
  intros
  first
  |rfl
  |exact XM _
  |(rename_i F S ρ a;rw[vt];cases ev F a ρ S with|ok x=>(simp only[R.ao];cases cW x.1<;>rfl)|ex k=>rfl|bad=>rfl)
section
variable{F:FT}{S:Sx}{ρ:ah}
theorem aU(h:i.natAbs<2^64\/j.natAbs<2^64):kI .Mult (.int i) (.int j)= .ok (.int<|i*j):=by show aa (decide (i.natAbs<2^64)||decide (j.natAbs<2^64)) _=_;rw[show (decide (i.natAbs<2^64)||decide (j.natAbs<2^64))=G' by simpa using h];rfl
theorem BK(h:j≠0):kI .Mod (.int i) (.int j)= .ok (.int<|i.fmod j):=by show aa (decide (j≠0)) _=_;rw[Xx h];rfl
theorem dh(h:0<j):kI .Mod (.int i) (.int j)= .ok (.int<|i % j):=by rw[BK ⋯,Int.fmod_eq_emod_of_nonneg i ⋯]
theorem Ey(h:j≠0)(Y:j.natAbs.log2<9000):kI .FloorDiv (.int i) (.int j)= .ok (.int<|i.fdiv j):=by show aa (decide (j≠0)&&decide (j.natAbs.log2<9000)) _=_;rw[Xx h,Xx Y];rfl
theorem vk(h:0<j)(Y:j.natAbs.log2<9000):kI .FloorDiv (.int i) (.int j)= .ok (.int<|i/j):=by rw[Ey ⋯ Y,Int.fdiv_eq_ediv_of_nonneg i ⋯]
def fin(r:RS):R (Dt×Sx):=r.bind λp=>match p.1 with
 |.next=>.ok (.bj,p.2.2)
 |.ret d=>.ok (d,p.2.2)
 |_=>.bad
def Ts.app:Ts->Ts->Ts
 |.nil,b=>b
 |.cons t a,b=>.cons t<|a.app b
theorem qh:∀{a b:Ts}{ρ:ah}{S:Sx},bf F (a.app b) ρ S=(bf F a ρ S).bind λp=>match p.1 with
  |.next=>bf F b p.2.1 p.2.2
  |f=>.ok (f,p.2)
 |.nil,b,ρ,S=>rfl
 |.cons t a,b,ρ,S=>by
  show bf F (.cons t<|a.app b) ρ S=_;rw[bF,bF];cases ex F t ρ S with
  |ok p=>
   obtain⟨f,ρ1,S1⟩:=p;cases f with
   |next=>exact qh
   |brk=>rfl
   |cnt=>rfl
   |ret d=>rfl
  |ex k=>rfl
  |bad=>rfl
section
variable{r:R (Dt×Sx)}{ts:Ts}
theorem dw(h:ex F t ρ S= .ok (.next,ρ1,S1))(k:fin (bf F ts ρ1 S1)=r):fin (bf F (.cons t ts) ρ S)=r:=by rw[bF,h];exact k
theorem hJ(h:ex F t ρ S= .ok (.ret d,ρ1,S1)):fin (bf F (.cons t ts) ρ S)= .ok (d,S1):=by rw[bF,h];rfl
theorem ax(h:ev F c ρ S= .ok (d,S1))(l:cJ c d=G')(k:fin (bf F ts (ρ.set i<|y' d) S1)=r):fin (bf F (.cons (.asg i c) ts) ρ S)=r:=by refine dw ?_ k;rw[qN,h,R.ao,l];rfl
theorem du(h:ev F c ρ S= .ok (d,S1))(l:xM c d=G')(k:fin (bf F ts (ρ.set i<|y' d) S1)=r):fin (bf F (.cons (.asgM i c) ts) ρ S)=r:=by refine dw ?_ k;rw[nG,h,R.ao,l];rfl
theorem aC(h:ev F c ρ S= .ok (d,S1)):fin (bf F (.cons (.ret c) ts) ρ S)= .ok (d,S1):=by refine hJ (ρ1:=ρ) ?_;rw[lR,h];rfl
theorem AU(h:cg F t ρ S= .ok (x,S1))(k:fin (bf F ((if x=G' then a else b).app ts) ρ S1)=r):fin (bf F (.cons (.ifs t a b) ts) ρ S)=r:=by rw[<-k,qh,bF,qO,h];cases x<;>rfl
theorem gF(h:cg F t ρ S= .ok (G',S1))(k:fin (bf F (a.app ts) ρ S1)=r):fin (bf F (.cons (.ifs t a b) ts) ρ S)=r:=AU h (by rw[aaf rfl];exact k)
theorem cD(h:cg F t ρ S= .ok (J',S1))(k:fin (bf F (b.app ts) ρ S1)=r):fin (bf F (.cons (.ifs t a b) ts) ρ S)=r:=AU h (by rw[aae (by simp)];exact k)
theorem bW(h:dq F it ρ S= .ok (ds,S1))(W:rB it=0)(A:forL tg (bf F b) ds ρ S1= .ok (.next,ρ1,S2))(k:fin (bf F ts ρ1 S2)=r):fin (bf F (.cons (.fr tg it b) ts) ρ S)=r:=by refine dw ?_ k;rw[kr,h,Xx W];exact A
end
end
theorem aO(h:fs[k]?=y' #[ps,m,J',body])(I:1<=n)(W:args.length=ps)(q:fin (bf (ay fs<|n-1) body (args.map y'++List.replicate (m-ps) B') S)=r):ay fs n k args S=r:=by obtain⟨n,rfl⟩:∃m,n=m+1:=#[n-1,⋯];rw[xI h];unfold gU;simp only[X6,aad,Nat.add_zero,W,aag];exact q
section
variable{F:FT}{S S1 S2:Sx}{ρ ρ1:ah}{ts:Ts}{r:RS}{d:Dt}{ds:List Dt}
theorem nx(h:ex F t ρ S= .ok (.next,ρ1,S1))(k:bf F ts ρ1 S1=r):bf F (.cons t ts) ρ S=r:=by rw[bF,h];exact k
theorem a6(h:ev F c ρ S= .ok (d,S1))(l:cJ c d=G')(k:bf F ts (ρ.set i<|y' d) S1=r):bf F (.cons (.asg i c) ts) ρ S=r:=by refine nx ?_ k;rw[qN,h,R.ao,l];rfl
theorem qF(h:ev F c ρ S= .ok (d,S1)):bf F (.cons (.ret c) ts) ρ S= .ok (.ret d,ρ,S1):=by rw[bF,lR,h];rfl
theorem Gy(h:cg F t ρ S= .ok (x,S1))(k:bf F ((if x=G' then a else b).app ts) ρ S1=r):bf F (.cons (.ifs t a b) ts) ρ S=r:=by rw[<-k,qh,bF,qO,h];cases x<;>rfl
theorem ni(h:cg F t ρ S= .ok (G',S1))(k:bf F (a.app ts) ρ S1=r):bf F (.cons (.ifs t a b) ts) ρ S=r:=Gy h (by rw[aaf rfl];exact k)
theorem iW(h:cg F t ρ S= .ok (J',S1))(k:bf F (b.app ts) ρ S1=r):bf F (.cons (.ifs t a b) ts) ρ S=r:=Gy h (by rw[aae (by simp)];exact k)
theorem wG(W:ρ[i]?=y' (y'<|.lst ds)):isLE ρ i=G':=by unfold isLE;rw[W]
theorem lD(W:ρ[i]?=y' (y'<|.lst ds)):j9 ρ i= .ok ds:=by unfold j9;rw[W]
theorem HD(W:ρ[i]?=y' (y'<|.lst ds))(h:ev F c ρ S= .ok (d,S1))(l:cJ c d=G')(g:ds.length<=lim):ex F (.app i c) ρ S= .ok (.next,ρ.set i<|y'<|.lst<|ds++[d],S1):=by rw[E9,wG W,h,R.ao,l,lD W,R.ao,Xx g];rfl
theorem wo(W:ρ[i]?=y' (y'<|.lst ds))(h:ev F v ρ S= .ok (d,S1))(Y:ev F k ρ S1= .ok (.int n,S2))(l:cJ v d=G')(g:rA ds.length n=y' j):ex F (.tR i k v) ρ S= .ok (.next,ρ.set i<|y'<|.lst<|ds.set j d,S2):=by rw[Cc,wG W,h,R.ao,Y,R.ao,l,lD W];show (match rA ds.length n with|some j=>R.ok (Fl.next,ρ.set i<|y'<|.lst<|ds.set j d,S2)|none=>.bad)=_;rw[g]
theorem HF(W:ρ[i]?=y' (y'<|.lst ds)):ex F (.rvs i) ρ S= .ok (.next,ρ.set i<|y'<|.lst ds.reverse,S):=by rw[xC,lD W];rfl
theorem HE(W:ρ[i]?=y' (y'<|.lst ds)):ex F (.clr i) ρ S= .ok (.next,ρ.set i<|y'<|.lst [],S):=by rw[xB,lD W];rfl
theorem nk(W:ρ[i]?=y' (y'<|.lst ds))(h:ev F c ρ S= .ok (d,S1))(l:cJ c d=G')(g:ds.length<=lim)(k:bf F ts (ρ.set i<|y'<|.lst<|ds++[d]) S1=r):bf F (.cons (.app i c) ts) ρ S=r:=nx (HD W h l g) k
theorem rh(hd:itemsOf d=y' ds):gW d=y' ds:=by
 cases d with
 |str=>cases hd
 |_=>exact hd
theorem fN(h:ev F c ρ S= .ok (d,S1))(hd:itemsOf d=y' ds):dq F (.seq c) ρ S= .ok (ds,S1):=by show (ev F c ρ S).bind (λx=>match gW x.1 with|some ds=>R.ok (ds,x.2)|none=>.bad)=_;rw[h,R.ao];rw[rh hd]
theorem eN{n:Nat}(h:ev F c ρ S= .ok (.int n,S1))(I:n<=lim):dq F (.rng1 c) ρ S= .ok (bu 0 n,S1):=by show (ev F c ρ S).bind (λx=>match x.1 with|.int j=>aa (decide (j<=lim)&&decide (-lim<=j)) (.ok (bu 0 j.toNat,x.2))|_=>.bad)=_;rw[h,R.ao];show aa (decide ((n:Int)<=lim)&&decide (-lim<=(n:Int))) (R.ok (bu 0 (n:Int).toNat,S1))=_;rw[show (decide ((n:Int)<=lim)&&decide (-lim<=(n:Int)))=G' by have:lim=1000000:=rfl;simp;lia];simp
theorem d8(m:ev F a ρ S= .ok (da,S1))(L:ev F b ρ S1= .ok (db,S2))(Z:cW da=y' xs)(Y:cW db=y' k):dq F (.zip a b) ρ S= .ok (dH xs k,S2):=by show (ev F a ρ S).bind (λx=>(ev F b ρ x.2).bind λy=>match cW x.1,cW y.1 with|some xs,y' k=>R.ok (dH xs k,y.2)|_,_=>.bad)=_;rw[m,R.ao,L,R.ao];rw[Z,Y]
def aX(F:FT)(e:C):ah->Sx->R (List Dt×Sx):=λρ1 S1=>(ev F e ρ1 S1).bind λy=>aa (cJ e y.1)<|.ok ([y.1],y.2)
theorem aJ(h:dq F it ρ S= .ok (ds,S1))(W:ds.length<=lim)(P:(decide (rB it<=1)||jV F it ρ S)=G')(J:az (aF tg (aZ F cs) (aX F e)<|jg cap ρ) ds S1= .ok (out,S2)):
  ev F (.comp cap it tg cs e) ρ S= .ok (.lst out,S2):=by
 rw[tJ,h,R.ao,Xx W,P,X4];show (az (aF tg (aZ F cs) (aX F e)<|jg cap ρ) ds S1).bind _=_;rw[J];rfl
theorem aE(l:fv tg d ρ= .ok ρ1)(K:ev F e ρ1 S= .ok (y,S1))(L:cJ e y=G'):aF tg (aZ F .nil) (aX F e) ρ d S= .ok ([y],S1):=by unfold aF aX;rw[l,R.ao,kn,R.ao];simp only[aag,K,R.ao,L,guard_true]
theorem turn_if(l:fv tg d ρ= .ok ρ1)(J:cg F c ρ1 S= .ok (b,S))(K:b=G'->ev F e ρ1 S= .ok (y,S)/\cJ e y=G'):aF tg (aZ F<|.cons c .nil) (aX F e) ρ d S= .ok (if b=G' then[y] else[],S):=by
 unfold aF aX;rw[l,R.ao,kK,J];cases b with
 |false=>rfl
 |true=>simp only[aag,(K rfl).1,R.ao,(K rfl).2,guard_true]
theorem mM{k:Nat}(h:ds[k]?=y' d):cq (.tup ds) (.int k)= .ok d/\cq (.lst ds) (.int k)= .ok d:=by
 have:zV ds k= .ok d:=by unfold zV;rw[L2.Df h]
 exact#[this,this]
end
mutual
theorem Gb:∀a b:Mx.D,b8 (ofD a) (ofD b)=Mx.D.iN a b
 |.int i,.int j=>by simp[ofD,b8,Mx.D.iN]
 |.str i,.str j=>by simp[ofD,b8,Mx.D.iN]
 |.tup i,.tup j=>by simp[ofD,b8,Mx.D.iN,AM i j]
 |.int _,.str _=>by simp[ofD,b8,Mx.D.iN]
 |.int _,.tup _=>by simp[ofD,b8,Mx.D.iN]
 |.str _,.int _=>by simp[ofD,b8,Mx.D.iN]
 |.str _,.tup _=>by simp[ofD,b8,Mx.D.iN]
 |.tup _,.int _=>by simp[ofD,b8,Mx.D.iN]
 |.tup _,.str _=>by simp[ofD,b8,Mx.D.iN]
theorem AM:∀a b:List Mx.D,cQ (bQ a) (bQ b)=Mx.D.eqs a b
 |[],[]=>by simp[bQ,cQ,Mx.D.eqs]
 |[],_::_=>by simp[bQ,cQ,Mx.D.eqs]
 |_::_,[]=>by simp[bQ,cQ,Mx.D.eqs]
 |a::as,b::bs=>by simp[bQ,cQ,Mx.D.eqs,Gb a b,AM as bs]
end
theorem xX(h:kL ms=G'):cG .sorted [.lst (bQ ms)]= .ok (.lst<|bQ<|fA ms)/\cG .sorted [.tup (bQ ms)]= .ok (.lst<|bQ<|fA ms):=by
 constructor
 ·show (match i6 (bQ ms)with|some ms=>aa (kL ms) (R.ok<|Dt.lst<|bQ<|fA ms)|none=>.bad)=_;rw[lW];show aa (kL ms) _=_;rw[h];rfl
 ·show (match i6 (bQ ms)with|some ms=>aa (kL ms) (R.ok<|Dt.lst<|bQ<|fA ms)|none=>.bad)=_;rw[lW];show aa (kL ms) _=_;rw[h];rfl
theorem Hv(k)(W:ms.length<1000000)(hd:Mx.D.gh ms<=100)(P:∀d∈ms,ML k d=G')(B:∀d∈ms,∀e∈ms,zD d e=G'):kL ms=G':=by
 have a:([Mx.SK.tt,.ts,.ti,.s,.i].any λk=>ms.all<|ML k)=G':=by rw[XH];exact#[k,by cases k<;>simp,XF.mpr P]
 unfold kL;rw[a,Xx W,Xx hd];simp only[Bool.true_and,XN];exact .inr<|XF.mpr λd h=>XF.mpr λe Y=>B d h e Y
theorem v9:∀{ms:List Mx.D},(∀d∈ms,Mx.D.dep d<=n)->Mx.D.gh ms<=n
 |[],_=>by simp[Mx.D.gh]
 |m::ms,h=>by
  have Z:=h m Xa;have Y:=v9 λd hd=>h d (W7 _ hd)
  simp only[Mx.D.gh]
  lia
theorem i3(ms):(fA ms).Perm ms:=List.mergeSort_perm ..
theorem iE:d∈fA ms↔d∈ms:=(i3 ms).mem_iff
theorem yH(a b c)(Z:wN a b=G')(Y:wN b c=G'):wN a c=G':=by
 unfold wN at *;simp only[X8]at *;cases h:Mx.D.lt c a with
 |false=>rfl
 |true=>
  exfalso;cases u:Mx.D.lt a b with
  |true=>rw[Mx.D.lt_trans c a b h u]at Y;cases Y
  |false=>have:=Mx.D.gM a b u Z;subst this;rw[h]at Y;cases Y
theorem yG(a b):(wN a b||wN b a)=G':=by
 unfold wN;cases h:Mx.D.lt b a with
 |false=>rfl
 |true=>
  cases Y:Mx.D.lt a b with
  |false=>rfl
  |true=>have:=Mx.D.lt_trans a b a Y h;rw[Mx.D.lt_irrefl]at this;cases this
theorem qV(ms):(fA ms).Pairwise λa b=>wN a b=G':=List.pairwise_mergeSort yH yG ms
variable{fs:List Fn}
theorem dY(h:bu 0 n=pre++x::post):pre.length<n/\x= .int pre.length:=by
 have W:(bu 0 n).length=n:=by simp[bu]
 have Z:pre.length<n:=by rw[<-W,h];simp
 refine#[Z,?_];have e:(bu 0 n)[pre.length]?=y' x:=by rw[h];simp
 unfold bu at e;simp[Z]at e;exact e.symm
variable{fs:List Fn}
theorem sU{α:Type}:∀l:List α,l=[]\/∃a x,l=a++[x]
 |[]=>.inl rfl
 |x::l=>.inr #[(x::l).dropLast,(x::l).getLast<|by simp,(YI<|by simp).symm]
variable{fs:List Fn}
theorem se{α j:Type}{f:α->List j}:∀{l:List α},(∀x∈l,(f x).length<=k)->(l.flatMap f).length<=l.length*k
 |[],_=>by simp
 |x::l,h=>by
  have Z:=h x Xa;have Y:=se λy F=>h y (W7 _ F)
  rw[YR,Xk,Xm,ZU]
  lia
variable{fs:List Fn}
section
variable{F:FT}{S:Sx}{ρ:ah}
theorem cm(b)(e):ev F (.bi b<|.cons e .nil) ρ S=(ev F e ρ S).bind λx=>(cG b [x.1]).bind λd=>.ok (d,x.2):=by simp only[RX];cases ev F e ρ S<;>rfl
theorem ints_map(l):intsOf (l.map Dt.int)=y' l:=by
 induction l with
 |nil=>rfl
 |cons x l O=>rw[XR,intsOf,O];rfl
theorem Al(l:List Int):cG .sum [.lst (l.map Dt.int)]= .ok (.int l.sum):=by show (match intsOf (l.map Dt.int)with|some ns=>R.ok (Dt.int ns.sum)|none=>.bad)=_;rw[ints_map]
end
variable{fs:List Fn}
def me(F:FT)(n:Nat)(E:nZ)(k:Tg)(a:Cs)(e:C):ah->Sx->R (List Dt×Sx):=λρ1 S1=>(dq F E ρ1 S1).bind λU=>aa (decide (n*U.1.length<=lim)&&decide (rB E=0))<|az (aF k (aZ F a) (aX F e) ρ1) U.1 U.2
theorem mD(h:dq F it ρ S= .ok (ds,S1))(W:ds.length<=lim)(P:(decide (rB it<=1)||jV F it ρ S)=G')(J:az (aF tg (aZ F cs) (me F ds.length ib jO F3 e)<|jg cap ρ) ds S1= .ok (out,S2)):
  ev F (.gD cap it tg cs ib jO F3 e) ρ S= .ok (.lst out,S2):=by
 rw[pC,h,R.ao,Xx W,P,X4];show (az (aF tg (aZ F cs) (me F ds.length ib jO F3 e)<|jg cap ρ) ds S1).bind _=_;rw[J];rfl
theorem CD(l:fv tg d ρ= .ok ρ1)(h:dq F ib ρ1 S= .ok (ds,S1))(W:n*ds.length<=lim)(P:rB ib=0)(J:az (aF jO (aZ F F3) (aX F e) ρ1) ds S1= .ok (out,S2)):
  aF tg (aZ F .nil) (me F n ib jO F3 e) ρ d S= .ok (out,S2):=by
 unfold aF me;rw[l,R.ao,kn,R.ao];simp only[aag,h,R.ao,Xx W,Xx P,X4,guard_true,J]
variable{fs:List Fn}
def tI(l:List Int):Dt:=.tup<|l.map Dt.int
def lI(R:List (List Int)):Dt:=.lst<|R.map tI
section
variable{S:Sx}
theorem bH:∀{l:List Int},(∀x∈l,f (.int x) S= .ok ([g x],S))->az f (l.map Dt.int) S= .ok (l.map g,S)
 |[],_=>rfl
 |x::l,h=>by rw[XR,az,h x Xa,R.ao,bH λy F=>h y<|W7 _ F];rfl
theorem bV{α:Type}{t:α->Dt}{g:α->List Dt}:∀{l:List α},(∀x∈l,f (t x) S= .ok (g x,S))->az f (l.map t) S= .ok (l.flatMap g,S)
 |[],_=>rfl
 |x::l,h=>by rw[XR,az,h x Xa,R.ao,bV λy F=>h y<|W7 _ F];rfl
theorem aR{α:Type}{t:α->Dt}{g:α->Dt}{l:List α}(h:∀x∈l,f (t x) S= .ok ([g x],S)):az f (l.map t) S= .ok (l.map g,S):=by rw[bV h,gG]
theorem aY(a b:List Int):dH (a.map Dt.int) (b.map Dt.int)=(a.zip b).map λp=>.tup [.int p.1,.int p.2]:=by
 unfold dH
 induction a generalizing b with
 |nil=>rfl
 |cons x a O=>cases b with|nil=>rfl|cons y b=>simp[O]
theorem Kc(l:List Int):cG .sum [.lst (l.map Dt.int)]= .ok (.int l.sum):=Al l
theorem Fu(l):cG .sum [tI l]= .ok (.int l.sum):=by show (match intsOf (l.map Dt.int)with|some ns=>R.ok (Dt.int ns.sum)|none=>.bad)=_;rw[ints_map]
end
def af(a b:List Int):Int:=((a.zip b).map λp=>p.1*p.2).sum
abbrev vB(x:Int):Prop:=x.natAbs<2^64
def vV:Ts:=(.cons (.ret<|.bi .sum<|.cons (.comp [B',B',B'] (.zip (.var 0)<|.var 1) (.tp [1,2]) .nil<|.bin .Mult (.var 1)<|.var 2) .nil) .nil)
theorem ES(A:fs[ip]?=y' #[2,2,J',vV])(t:1<=N)(L:∀x∈b,vB x)(W:a.length<=1000):ay fs N ip [tI a,tI b] B'= .ok (.int<|af a b,B'):=by
 have H:lim=1000000:=rfl;refine aO A t rfl ?_;refine aC ?_;have J:az (aF (.tp [1,2]) (aZ (ay fs<|N-1) .nil) (aX (ay fs<|N-1)<|.bin .Mult (.var 1)<|.var 2) [B',B',B']) (dH (a.map Dt.int)<|b.map Dt.int) B'= .ok ((a.zip b).map λp=>.int<|p.1*p.2,B'):=by
  rw[aY];refine aR λp B=>?_
  have m:=aU (i:=p.1)<|.inr<|L p.2 (Zn B).2;exact aE rfl (by simp only[RX,m]) rfl
 rw[cm,aJ (d8 rfl rfl rfl rfl) (by rw[aY,Xd,Y9];lia) rfl J,R.ao];have e:((a.zip b).map λp=>Dt.int<|p.1*p.2)=((a.zip b).map λp=>p.1*p.2).map Dt.int:=by rw[Zc];rfl
 rw[e,Al];rfl
def gI(l:List Int)(p:Nat):Int:=l.getD p 0
def bU(r:List Int)(p:Nat)(b:List Int):List Int:=(r.zip b).map λq=>gI b p*q.1-gI r p*q.2
theorem gJ{p:Nat}(h:p<l.length):cq (tI l) (.int p)= .ok (.int<|gI l p):=by refine(mM ?_).1;rw[Xn,Xs h];simp[gI,Xs h]
def Dh:Ts:=(.cons (.ret<|.bi .tuple<|.cons (.comp [B',B',B',y' 2,y' 1,y' 0] (.zip (.var 0)<|.var 2) (.tp [1,2]) .nil<|.bin .Sub (.bin .Mult (.idx (.var 3)<|.var 4)<|.var 1)<|.bin .Mult (.idx (.var 5)<|.var 4)<|.var 2) .nil) .nil)
theorem dD(h:p<l.length):gI l p∈l:=by simp[gI,Xs h]
theorem Ay(A:fs[ic]?=y' #[3,3,J',Dh])(t:1<=N){p:Nat}(w:p<r.length)(L:p<b.length)(c:∀x∈r,vB x)(a:∀x∈b,vB x)(W:r.length<=1000):ay fs N ic [tI r,.int p,tI b] B'= .ok (tI<|bU r p b,B'):=by
 have H:lim=1000000:=rfl;refine aO A t rfl ?_;refine aC ?_;have i1:=gJ w;have i2:=gJ L;have J:az (aF (.tp [1,2]) (aZ (ay fs<|N-1) .nil) (aX (ay fs<|N-1)<|.bin .Sub (.bin .Mult (.idx (.var 3)<|.var 4)<|.var 1)<|.bin .Mult (.idx (.var 5)<|.var 4)<|.var 2) [B',B',B',y' (tI b),y' (.int p),y' (tI r)]) (dH (r.map Dt.int)<|b.map Dt.int) B'= .ok ((r.zip b).map λq=>.int<|gI b p*q.1-gI r p*q.2,B'):=by
  rw[aY];refine aR λq K=>?_
  have m1:=aU (i:=gI b p)<|.inr<|c _ (Zn K).1;have S:=aU (i:=gI r p)<|.inr<|a _ (Zn K).2;exact aE rfl (by simp only[RX,i1,i2,m1,S]) rfl
 rw[cm,aJ (d8 rfl rfl rfl rfl) (by rw[aY,Xd,Y9];lia) rfl J,R.ao];have e:((r.zip b).map λq=>Dt.int<|gI b p*q.1-gI r p*q.2)=(bU r p b).map Dt.int:=by unfold bU;rw[Zc];rfl
 rw[e];rfl
theorem p7(h:r.length=b.length)(p):(bU r p b).length=r.length:=by
 unfold bU;rw[Xd,Y9]
 lia
theorem jU(h:r.length=b.length)(P:k<r.length):gI (bU r p b) k=gI b p*gI r k-gI r p*gI b k:=by
 have g:k<(r.zip b).length:=by rw[Y9];lia
 unfold bU gI;rw[List.getD,Xn,Xs g,List.getElem_zip];simp[Xs P,Xs (h▸P:k<b.length)]
theorem uM(w:p<r.length)(L:p<b.length)(Z:∀x∈r,x.natAbs<=B)(Y:∀x∈b,x.natAbs<=B):∀x∈bU r p b,x.natAbs<=2*B*B:=by
 intro x U;obtain⟨q,K,rfl⟩:=XD.mp U;have a1:=ZQ (Y _<|dD L)<|Z _ (Zn K).1;have a2:=ZQ (Z _<|dD w)<|Y _ (Zn K).2;have e1:(gI b p*q.1).natAbs=(gI b p).natAbs*q.1.natAbs:=Yq ..;have e2:(gI r p*q.2).natAbs=(gI r p).natAbs*q.2.natAbs:=Yq ..;have:2*B*B=B*B+B*B:=by rw[Nat.mul_assoc,Nat.two_mul]
 omega
theorem mC(h:ev F (.bi b es) ρ S= .ok (.bl v,S')):cg F (.bi b es) ρ S= .ok (v,S'):=by
 rw[qK]at h;rw[xx];cases Z:fK F es ρ S with
 |ok x=>
  rw[Z]at h;simp only[R.ao]at h ⊢;cases Y:cG b x.1 with
  |ok d=>rw[Y]at h;cases h;rfl
  |ex k=>rw[Y]at h;cases h
  |bad=>rw[Y]at h;cases h
 |ex k=>rw[Z]at h;cases h
 |bad=>rw[Z]at h;cases h
theorem vZ(l):gA (l.map Dt.bl)=y' l:=by
 induction l with
 |nil=>rfl
 |cons x l O=>rw[XR,gA,O];rfl
theorem l8(l:List Bool):cG .any [.lst (l.map Dt.bl)]= .ok (.bl<|l.any id):=by show (match gA (l.map Dt.bl)with|some ns=>R.ok (Dt.bl<|ns.any id)|none=>.bad)=_;rw[vZ]
theorem Hi(l:List Bool):cG .all [.lst (l.map Dt.bl)]= .ok (.bl<|l.all id):=by show (match gA (l.map Dt.bl)with|some ns=>R.ok (Dt.bl<|ns.all id)|none=>.bad)=_;rw[vZ]
theorem pU(i):cG .abs [.int i]= .ok (.int i.natAbs):=by show R.ok (Dt.int<|if i<0 then -i else i)=_;congr 2;split<;>lia
def zY:C:=(.bi .any<|.cons (.gD [B',B',B'] (.seq<|.var 0) (.nm 1) .nil (.seq<|.var 1) (.nm 2) .nil<|.cmp .Gt (.bi .abs<|.cons (.var 2) .nil)<|.con<|.int 3) .nil)
def zZ:C:=(.bi .any<|.cons (.comp [B',B'] (.seq<|.var 2) (.nm 1) .nil<|.cmp .Gt (.bi .abs<|.cons (.var 1) .nil)<|.con<|.int 20) .nil)
def Dg:Ts:=(.cons (.ifs (.cmp .Gt (.bi .len<|.cons (.var 0) .nil)<|.con<|.int 16) (.cons (.rs 0 []) .nil) .nil)<|.cons (.ifs (.cmp .Gt (.var 1)<|.con<|.int 4) (.cons (.rs 0 []) .nil) .nil)<|.cons (.ifs zY (.cons (.rs 0 []) .nil) .nil)<|.cons (.ifs zZ (.cons (.rs 0 []) .nil) .nil) .nil)
def Dw(M:List (List Int)):Bool:=M.any λr=>r.any λx=>decide (3<x.natAbs)
def Dx(r:List Int):Bool:=r.any λx=>decide (20<x.natAbs)
def brk(M:List (List Int))(many:Int)(r:List Int):Bool:=decide (16<M.length)||decide (4<many)||Dw M||Dx r
def Dm:Ts:=(.cons (.fr (.tp [2,3]) (.zip (.var 0)<|.var 1)<|.cons (.ifs (.cmp .Gt (.var 2)<|.var 3) (.cons (.ret<|.con<|.bl J') .nil) .nil) .nil)<|.cons (.ret<|.con<|.bl G') .nil)
def Hc(a:Nat):Ts:=(.cons (.fr (.nm 2) (.seq<|.var 1)<|.cons (.ifs (.call a (.cons (.var 2)<|.cons (.var 0) .nil) []) (.cons (.ret<|.con<|.bl G') .nil) .nil) .nil)<|.cons (.ret<|.con<|.bl J') .nil)
variable{fs:List Fn}
def pD(q:Nat×List Int):Dt:=.tup [.int q.1,tI q.2]
def kW:Nat->Nat
 |0=>20
 |p+1=>2*kW p*kW p
theorem vX:∀p,1<=kW p
 |0=>by decide
 |p+1=>by have:=vX p;have h:1*1<=2*kW p*kW p:=ZQ ⋯ this;simpa [kW]using h
theorem pT(p):kW p<=kW (p+1):=by have:=vX p;have h:1*kW p<=2*kW p*kW p:=ZQ ⋯ (W9 _);simpa [kW]using h
theorem uH(h:p<=q):kW p<=kW q:=by
 induction h with
 |refl=>exact W9 _
 |step _ O=>exact Xf O<|pT _
structure xV(m p:Nat)(PS:List (Nat×List Int))(LS:List (List Int)):Prop where
 len:∀r∈LS,r.length=m+1
 bd:∀r∈LS,∀x∈r,x.natAbs<=kW p
 pl:∀q∈PS,q.1<p/\q.2.length=m+1/\gI q.2 q.1≠0
 pb:∀q∈PS,∀x∈q.2,x.natAbs<=kW p
 zr:∀q∈PS,∀r∈LS,gI r q.1=0
 nd:(PS.map (·.1)).Nodup
 ct:PS.length<=p
theorem xV.next{k:List (Nat×List Int)}(h:xV m p k LS):xV m (p+1) k LS:=
 #[h.len,λr w x U=>Xf (h.bd r w x U)<|pT p,λq K=>#[by have:=(h.pl q K).1;lia,(h.pl q K).2],λq K x U=>Xf (h.pb q K x U)<|pT p,h.zr,h.nd,by have:=h.ct;lia]
theorem xV.clear{k:List (Nat×List Int)}(h:xV m p k LS)(B:p<m)(L:b∈LS)(I:gI b p≠0):xV m (p+1) (k.map (λq=>(q.1,bU q.2 p b))++[(p,b)]) (LS.map λr=>bU r p b):=by
 have lb:=h.len b L;refine#[?_,?_,?_,?_,?_,?_,?_]
 ·intro r w;obtain⟨Q,h0,rfl⟩:=XD.mp w;rw[p7 (by rw[h.len Q h0,lb]),h.len Q h0]
 ·intro r w x U;obtain⟨Q,h0,rfl⟩:=XD.mp w;exact uM (by rw[h.len Q h0];lia) ⋯ (h.bd Q h0) (h.bd b L) x U
 ·intro q K;rcases Xq.mp K with K|K
  ·obtain⟨g,h0,rfl⟩:=XD.mp K;obtain⟨Z,Y,u⟩:=h.pl g h0;refine#[by show g.1<p+1;lia,by show (bU g.2 p b).length=_;rw[p7 (by rw[Y,lb]),Y],?_];rw[jU (by rw[Y,lb]) ⋯,h.zr g h0 b L,Yp,Yt];exact Int.mul_ne_zero I u
  ·rw[XC]at K;subst K;exact#[by show p<p+1;lia,lb,I]
 ·intro q K x U;rcases Xq.mp K with K|K
  ·obtain⟨g,h0,rfl⟩:=XD.mp K;exact uM (by rw[(h.pl g h0).2.1];lia) ⋯ (h.pb g h0) (h.bd b L) x U
  ·rw[XC]at K;subst K;exact Xf (h.bd b L x U)<|pT p
 ·intro q K r w;obtain⟨Q,h0,rfl⟩:=XD.mp w;have j:=h.len Q h0;rcases Xq.mp K with K|K
  ·obtain⟨g,Z,rfl⟩:=XD.mp K;rw[jU (by rw[j,lb]) (by rw[j];have:=(h.pl g Z).1;lia),h.zr g Z Q h0,h.zr g Z b L,Yp,Yp,Yt]
  ·rw[XC]at K;subst K;rw[jU (by rw[j,lb]) ⋯,Yl,Ys]
 ·rw[XS,Zc,List.nodup_append];refine#[h.nd,by simp,λa ha c J e=>?_];obtain⟨q,K,rfl⟩:=XD.mp ha;rw[XR,Zd,XC]at J;have:=(h.pl q K).1;have e:q.1=c:=e
  lia
 ·rw[Xk,Xd];have:=h.ct;simp only[Xm,Y2]
  lia
def FP:C:=(.comp [B',B',y' 5] (.seq<|.var 3) (.nm 1) (.cons (.cmp .NotEq (.idx (.var 1)<|.var 2)<|.con<|.int 0) .nil)<|.var 1)
def Ae(a:Nat):C:=(.comp [B',B',B',y' 7,y' 5] (.seq<|.var 4) (.tp [1,2]) .nil<|.tup<|.cons (.var 1)<|.cons (.call a (.cons (.var 2)<|.cons (.var 4)<|.cons (.var 3) .nil) []) .nil)
def FQ(a:Nat):C:=(.comp [B',B',y' 7,y' 5] (.seq<|.var 3) (.nm 1) .nil<|.call a (.cons (.var 1)<|.cons (.var 3)<|.cons (.var 2) .nil) [])
def FM(a:Nat):Ts:=(.cons (.asg 6 FP)<|.cons (.ifs (.var 6) (.cons (.asg 7<|.idx (.var 6)<|.con<|.int 0)<|.cons (.asg 4<|.bin .Add (Ae a)<|.lst<|.cons (.tup<|.cons (.var 5)<|.cons (.var 7) .nil) .nil)<|.cons (.asg 3<|FQ a) .nil) .nil) .nil)
def FN:C:=(.comp [B',B',B'] (.zip (.var 0)<|.var 2) (.tp [1,2]) .nil<|.bin .Add (.bi .tuple<|.cons (.var 1) .nil)<|.tup<|.cons (.var 2) .nil)
def Ad:C:=(.bi .any<|.cons (.comp [B',B',y' 1] (.seq<|.var 3) (.nm 1) .nil<|.cmp .NotEq (.idx (.var 1)<|.var 2)<|.con<|.int 0) .nil)
def Hd(a:Nat):Ts:=(.cons (.asg 3 FN)<|.cons (.asg 4<|.lst .nil)<|.cons (.fr (.nm 5) (.rng1<|.var 1)<|FM a)<|.cons (.ifs Ad (.cons (.ret<|.con .bj) .nil) .nil)<|.cons (.ret<|.var 4) .nil)
theorem zip_rows(M:List (List Int))(r):dH (M.map tI) (r.map Dt.int)=(M.zip r).map λq=>.tup [tI q.1,.int q.2]:=by
 unfold dH
 induction M generalizing r with
 |nil=>rfl
 |cons x a O=>cases r with|nil=>rfl|cons y b=>simp[O]
theorem qE(l):yL (tI l)=G':=by
 show nh (l.map Dt.int)=G'
 induction l with
 |nil=>rfl
 |cons x l O=>rw[XR,nh,O];rfl
variable{fs:List Fn}
theorem pW(h:l≠[]):cG .maxL [.lst (l.map Dt.int)]= .ok (.int<|de l):=by
 show (match intsOf (l.map Dt.int)with|some ns=>aa (!ns.isEmpty) (R.ok<|Dt.int<|de ns)|none=>.bad)=_;rw[ints_map];cases l with
 |nil=>exact absurd rfl h
 |cons=>rfl
theorem Dv(h:l≠[]):cG .minL [.lst (l.map Dt.int)]= .ok (.int<|fh l):=by
 show (match intsOf (l.map Dt.int)with|some ns=>aa (!ns.isEmpty) (R.ok<|Dt.int<|fh ns)|none=>.bad)=_;rw[ints_map];cases l with
 |nil=>exact absurd rfl h
 |cons=>rfl
def gB:Nat->Nat->Nat
 |0,_=>1
 |1,f=>20+3*f
 |2,f=>6*(20+3*f)
 |3,f=>36*(20+3*f)
 |_,_=>0
def Ac:C:=(.bi .maxL<|.cons (.gD [B',B',B'] (.seq<|.var 0) (.nm 1) .nil (.seq<|.var 1) (.nm 2) .nil<|.bi .abs<|.cons (.var 2) .nil) .nil)
def Ab:C:=(.bi .maxL<|.cons (.comp [B',B'] (.seq<|.var 1) (.nm 1) .nil<|.bi .abs<|.cons (.var 1) .nil) .nil)
def Dj:Ts:=(.cons (.ifs (.cmp .Eq (.var 2)<|.con<|.int 0) (.cons (.ret<|.con<|.int 1) .nil) .nil)<|.cons (.asg 4 Ac)<|.cons (.asg 5 Ab)<|.cons (.asg 6<|.tup<|.cons (.con<|.int 1)<|.cons (.bin .Mult (.con<|.int 2)<|.var 4)<|.cons (.bin .Mult (.bin .Mult (.con<|.int 4)<|.var 4)<|.var 4)<|.cons (.con<|.int 0) .nil)<|.cons (.ret<|.bin .Mult (.idx (.var 6)<|.bin .Sub (.var 2)<|.con<|.int 1)<|.bin .Add (.var 5)<|.bin .Mult (.var 3)<|.var 4) .nil)
theorem AC(xs:List α)(h:p<=xs.length):cutD xs B' (y' (p:Int))=xs.take p:=by unfold cutD;rw[HT.nJ,HT.xG,List.drop_zero,Nat.sub_zero,Nat.min_eq_left h]
theorem AE(xs:List α)(h:p<=xs.length):cutD xs (y' (p:Int)) B'=xs.drop p:=by unfold cutD;rw[HT.nJ,HT.xG,Nat.min_eq_left h,ZA (by rw[Y1];lia)]
def FU:C:=(.gD [B',B',B',y' 2,y' 4] (.seq<|.var 3) (.nm 1) .nil (.rng1<|.bin .Add (.var 3)<|.con<|.int 1) (.nm 2) .nil<|.bin .Add (.bin .Add (.sliH (.var 1)<|.var 4)<|.tup<|.cons (.var 2) .nil)<|.sliL (.var 1)<|.bin .Add (.var 4)<|.con<|.int 1)
def Do:Ts:=(.cons (.asg 3<|.lst<|.cons (.bin .Mult (.tup<|.cons (.con<|.int 0) .nil)<|.var 0) .nil)<|.cons (.fr (.nm 4) (.seq<|.var 1)<|.cons (.asg 3 FU) .nil)<|.cons (.ret<|.var 3) .nil)
theorem xE{m:Nat}(x)(h:m<=1000):kI .Mult (.tup [.int x]) (.int m)= .ok (tI<|List.replicate m x):=by
 show aa (decide (((m:Int)).natAbs<=lim)&&decide ([Dt.int x].length*((m:Int)).toNat<=lim)) (R.ok<|Dt.tup (List.replicate ((m:Int)).toNat [Dt.int x]).flatten)=_;have H:lim=1000000:=rfl;rw[Xx ⋯,Xx (by simp;lia)];have e:(List.replicate ((m:Int)).toNat [Dt.int x]).flatten=(List.replicate m x).map Dt.int:=by
  rw[Yu,List.map_replicate]
  induction m with
  |zero=>rfl
  |succ m O=>rw[Zu,YS,O ⋯,Zu];rfl
 rw[e];rfl
variable{fs:List Fn}
abbrev SR(m:Nat)(q:List Int):Prop:=q.length=m/\∀x∈q,(0:Int)<=x/\x.natAbs<2^200
theorem qI:∀{l q:List Int},(∀x∈l,x.natAbs<=A)->(∀x∈q,x.natAbs<=B)->(af l q).natAbs<=l.length*(A*B)
 |[],q,_,_=>by simp[af]
 |x::l,[],_,_=>by simp[af]
 |x::l,y::q,Z,Y=>by
  have O:=qI (λz g=>Z z<|W7 _ g) λz g=>Y z (W7 _ g)
  have e:af (x::l) (y::q)=x*y+af l q:=rfl;have u:=ZQ (Z x Xa)<|Y y Xa;have Q:(x*y).natAbs=x.natAbs*y.natAbs:=Yq ..;rw[e,Xm,ZU]
  omega
theorem AD(xs:List α)(h:xs≠[]):cutD xs B' (y'<|-1)=xs.dropLast:=by
 unfold cutD;have e:HT.cw xs.length xs.length (y'<|-1)=xs.length-1:=by
  show (if (-1:Int)<0 then((-1:Int)+(xs.length:Int)).toNat else min (-1:Int).toNat xs.length)=_;rw[aaf (by decide)]
  lia
 rw[HT.nJ,e,List.drop_zero,Nat.sub_zero,List.dropLast_eq_take]
def z9(a:Nat):Ts:=(.cons (.asgT [5,6]<|.bi .dvm<|.cons (.bin .Sub (.idx (.var 4)<|.neg<|.con<|.int 1)<|.call a (.cons (.sliH (.var 4)<|.neg<|.con<|.int 1)<|.cons (.var 0) .nil) [])<|.cons (.idx (.var 4)<|.var 3) .nil)<|.cons (.ifs (.or (.cmp .NotEq (.var 6)<|.con<|.int 0)<|.cmp .Lt (.var 5)<|.con<|.int 0) (.cons (.ret<|.con .bj) .nil) .nil)<|.cons (.tR 2 (.var 3)<|.var 5) .nil)
def Ha(a:Nat):Ts:=(.cons (.asgM 2<|.bi .list<|.cons (.var 0) .nil)<|.cons (.fr (.tp [3,4]) (.seq<|.var 1)<|z9 a)<|.cons (.ret<|.bi .tuple<|.cons (.mvr 2) .nil) .nil)
theorem yJ{x:Int}(h:x.natAbs<=kW 4)(h0:x≠0):x.natAbs.log2<9000:=by
 have Z:x.natAbs<2^100:=ZN h (by decide);have Y:=(Nat.log2_lt ⋯).mpr Z
 lia
def Dl(is b iw a:Nat):Ts:=(.cons (.asg 3<|.call is (.cons (.var 0)<|.cons (.var 1)<|.cons (.var 2) .nil) [])<|.cons (.ifs (.cmp .Is (.var 3)<|.con .bj) (.cons (.ret<|.lst .nil) .nil) .nil)<|.cons (.asg 4<|.comp [B',B',B'] (.seq<|.var 3) (.tp [1,2]) .nil<|.var 1)<|.cons (.asg 5<|.comp [B',B',y' 4] (.rng1<|.var 1) (.nm 1) (.cons (.cmp .NotIn (.var 1)<|.var 2) .nil)<|.var 1)<|.cons (.asg 6<|.call b (.cons (.var 0)<|.cons (.var 2)<|.cons (.bi .len<|.cons (.var 4) .nil)<|.cons (.bi .len<|.cons (.var 5) .nil) .nil) [])<|.cons (.asg 7<|.comp [B',B',y' 3] (.seq<|.call iw (.cons (.var 1)<|.cons (.var 5)<|.cons (.var 6) .nil) []) (.nm 1) .nil<|.call a (.cons (.var 1)<|.cons (.var 2) .nil) [])<|.cons (.ret<|.comp [B',B'] (.seq<|.var 7) (.nm 1) (.cons (.cmp .IsNot (.var 1)<|.con .bj) .nil)<|.var 1) .nil)
structure zO(fs:List Fn)(ip il is ig iw ic io:Nat):Prop where
 p:fs[ip]?=y' #[2,2,J',vV]
 l:fs[il]?=y' #[3,3,J',Dh]
 s:fs[is]?=y' #[3,8,J',Hd il]
 g:fs[ig]?=y' #[4,7,J',Dj]
 w:fs[iw]?=y' #[3,5,J',Do]
 c:fs[ic]?=y' #[2,7,J',Ha ip]
 o:fs[io]?=y' #[3,8,J',Dl is ig iw ic]
theorem pM{α:Type}(p):∀l:List α,(l.filter p).length+(l.filter λx=> !p x).length=l.length
 |[]=>rfl
 |x::l=>by have:=pM p l;rw[List.filter_cons,List.filter_cons];cases p x<;>simp<;>lia
theorem sk{L:List Nat}(I:L.Nodup)(W:∀p∈L,p<m):((List.range m).filter λp=> !decide (p∈L)).length+L.length=m:=by
 have Z:(((List.range m).filter λp=>decide (p∈L))).Perm L:=oG (List.Pairwise.filter _ List.nodup_range) I λx=>by rw[Zf,XU,aac];exact#[λh=>h.2,λh=>#[W x h,h]]
 have Y:=Z.length_eq;have u:=pM (λp=>decide (p∈L))<|List.range m;rw[Y3]at u
 lia
theorem Ny(l:s+f=m)(E:m<=4)(t:g<=gB s f):(g+1)^f<=900000:=Xf (Nat.pow_le_pow_left (Nat.succ_le_succ t) f)<|(by decide:∀s,s<5->∀f,f<5->s+f<5->(gB s f+1)^f<=900000) s ⋯ f ⋯ ⋯
theorem D4(p:Nat)(L:List Nat):ck .NotIn (.int p) (.lst<|L.map λ(q:Nat)=>Dt.int q)= .ok (!decide (p∈L)):=by
 have h:∀L:List Nat,kh (L.map λ(q:Nat)=>Dt.int q)=G'/\mz (L.map λ(q:Nat)=>Dt.int q)=0/\inD (.int p) (L.map λ(q:Nat)=>Dt.int q)=decide (p∈L):=by
  intro L
  induction L with
  |nil=>exact#[rfl,rfl,rfl]
  |cons q L O=>
   refine#[by rw[XR,kh,O.1];rfl,by rw[XR,mz,O.2.1];rfl,?_];have e:b8 (.int (q:Int)) (.int (p:Int))=decide (p=q):=by
    simp only[b8];rw[X5];simp
    lia
   have:=O.2.2;unfold inD at this ⊢;rw[XR,List.any_cons,this,e];simp
 obtain⟨Z,Y,u⟩:=h L;show aa (pl (.int (p:Int))&&kh (L.map λ(q:Nat)=>Dt.int q)&&decide (mz (L.map λ(q:Nat)=>Dt.int q)<=100)) (R.ok<|!inD (.int p) (L.map λ(q:Nat)=>Dt.int q))=_;rw[Z,Y,u];rfl
variable{fs:List Fn}
theorem Eu(rs):ofD (.tup rs)= .tup (bQ rs):=by simp[ofD]
variable{fs:List Fn}
def dI(q:List Int):Mx.D:=.tup<|q.map Mx.D.int
def OB:Mx.D->List Int
 |.tup ds=>ds.filterMap λd=>match d with|.int i=>y' i|_=>B'
 |_=>[]
theorem nW(q):OB (dI q)=q:=by
 show (q.map Mx.D.int).filterMap _=q;rw[List.filterMap_map]
 induction q with
 |nil=>rfl
 |cons x q O=>rw[YQ];simp only[Function.comp];exact aab _ O
theorem Cw(q):tI q=ofD (dI q):=by unfold dI;rw[Eu,nq,Zc];exact aab Dt.tup (Za λx _=>by simp[ofD])
theorem Gu(Q):lI Q= .lst (bQ<|Q.map dI):=by unfold lI;rw[nq,Zc];congr 1;exact Za λq _=>Cw q
theorem wQ:∀a b:List Int,sV (a.map Mx.D.int) (b.map Mx.D.int)=G'
 |[],_=>by simp[sV]
 |_::_,[]=>by simp[sV]
 |x::a,y::b=>by simp only[XR,zD];exact wQ a b
def Hb(b k a:Nat):Ts:=(.cons (.DF<|.call b (.cons (.var 0)<|.cons (.var 1)<|.cons (.tup .nil) .nil) [])<|.cons (.asgM 2<|.lst .nil)<|.cons (.fr (.nm 3) (.seq<|.bi .sorted<|.cons (.call k (.cons (.var 0)<|.cons (.var 1)<|.cons (.bin .Mult (.tup<|.cons (.con<|.int 0) .nil)<|.bi .len<|.cons (.var 0) .nil) .nil) []) .nil)<|.cons (.ifs (.and (.cmp .Gt (.bi .sum<|.cons (.var 3) .nil)<|.con<|.int 0)<|.nt<|.call a (.cons (.var 3)<|.cons (.mvr 2) .nil) []) (.cons (.app 2<|.var 3) .nil) .nil) .nil)<|.cons (.ret<|.mvr 2) .nil)
def Lh(a:Nat):Ts:=(.cons (.ifs (.cmp .Is (.var 2)<|.con .bj) (.cons (.asg 2<|.bin .Mult (.lst<|.cons (.con<|.int 0) .nil)<|.bi .len<|.cons (.var 0) .nil) .nil) .nil)<|.cons (.ifs (.bi .any<|.cons (.comp [B',B'] (.seq<|.var 1) (.nm 1) .nil<|.cmp .Lt (.var 1)<|.con<|.int 0) .nil) (.cons (.ret<|.con<|.bl J') .nil) .nil)<|.cons (.ret<|.bi .all<|.cons (.comp [B',B',B',y' 1] (.zip (.var 0)<|.var 2) (.tp [1,2]) .nil<|.cmp .Eq (.call a (.cons (.var 1)<|.cons (.var 3) .nil) [])<|.var 2) .nil) .nil)
def Hf:C:=(.bi .maxL<|.cons (.bin .Add (.lst<|.cons (.var 2) .nil)<|.comp [B',B'] (.seq<|.var 0) (.nm 1) .nil<|.bi .len<|.cons (.var 1) .nil) .nil)
def Lf:C:=(.bi .any<|.cons (.comp [B',B',y' 2] (.seq<|.var 0) (.nm 1) .nil<|.cmp .NotEq (.bi .len<|.cons (.var 1) .nil)<|.var 2) .nil)
def Hg:C:=(.bi .minL<|.cons (.comp [B',B',B'] (.zip (.var 3)<|.var 5) (.tp [1,2]) (.cons (.cmp .Gt (.var 2)<|.con<|.int 0) .nil)<|.bin .FloorDiv (.var 1)<|.var 2) .nil)
def He:Ts:=(.cons (.asg 6 Hg)<|.cons (.ifs (.cmp .Gt (.var 6)<|.con<|.int 0) (.cons (.app 4<|.tup<|.cons (.var 5)<|.cons (.var 6) .nil)<|.cons (.asg 3<|.bi .tuple<|.cons (.comp [B',B',B',y' 6] (.zip (.var 3)<|.var 5) (.tp [1,2]) .nil<|.bin .Sub (.var 1)<|.bin .Mult (.var 3)<|.var 2) .nil) .nil) .nil) .nil)
def Lg(b a c:Nat):Ts:=(.cons (.asg 2<|.bi .len<|.cons (.var 1) .nil)<|.cons (.DF<|.call b (.cons (.var 0)<|.cons Hf<|.cons (.tup .nil) .nil) [])<|.cons (.ifs (.or Lf<|.nt<|.call a (.cons (.var 0)<|.cons (.var 1) .nil) [.bj]) (.cons (.rs 1 []) .nil) .nil)<|.cons (.asg 3<|.var 1)<|.cons (.asgM 4<|.lst .nil)<|.cons (.fr (.nm 5) (.seq<|.call c (.cons (.var 0)<|.cons (.var 2) .nil) []) He)<|.cons (.ret<|.mvr 4) .nil)
theorem aA(x y)(l q):af (x::l) (y::q)=x*y+af l q:=rfl
theorem dX(q):af [] q=0:=rfl
theorem nz(q):af q []=0:=by cases q<;>rfl
theorem tu(α j):∀{r b:List Int}(z:List Int),r.length=b.length->af ((r.zip b).map λq=>α*q.1-j*q.2) z=α*af r z-j*af b z
 |[],[],z,_=>by simp[af]
 |x::r,y::b,[],_=>by simp[af]
 |x::r,y::b,u::z,h=>by
  have O:=tu α j z (by simpa using h);rw[ZG,XR,aA,aA,aA]
  grind
 |[],_::_,_,h=>by simp at h
 |_::_,[],_,h=>by simp at h
theorem gQ(z)(h:r.length=b.length):af (bU r p b) z=gI b p*af r z-gI r p*af b z:=tu _ _ z h
def dM(p:Nat)(S:List (Nat×List Int)×List (List Int)):List (Nat×List Int)×List (List Int):=
 match S.2.filter λq=> !(gI q p==0) with
 |[]=>S
 |b::_=>(S.1.map (λq=>(q.1,bU q.2 p b))++[(p,b)],S.2.map λr=>bU r p b)
def bP(L0:List (List Int)):Nat->List (Nat×List Int)×List (List Int)
 |0=>([],L0)
 |p+1=>dM p<|bP L0 p
def rowsOf(M:List (List Int))(r:List Int):List (List Int):=(M.zip r).map λq=>q.1++[q.2]
structure Sq(m p:Nat)(L0:List (List Int))(PS:List (Nat×List Int))(LS:List (List Int)):Prop where
 st:xV m p PS LS
 zl:∀r∈LS,∀i,i<p->gI r i=0
 pz:∀q∈PS,∀q'∈PS,q'.1≠q.1->gI q.2 q'.1=0
 ev:∀z,(∀r∈L0,af r z=0)↔(∀q∈PS,af q.2 z=0)/\∀r∈LS,af r z=0
 ln:LS.length=L0.length
 o0:PS=[]->LS=L0
 o1:∀q,PS=[q]->q.2∈L0/\LS=L0.map λr=>bU r q.1 q.2
 o2:∀q1 q2,PS=[q1,q2]->∃r1∈L0,∃r2∈L0,q1.1<q2.1/\gI r1 q1.1≠0/\q2.2=bU r2 q1.1 r1/\q1.2=bU r1 q2.1 q2.2
theorem Sq.next{k:List (Nat×List Int)}(h:Sq m p L0 k j)(g:∀r∈j,gI r p=0):Sq m (p+1) L0 k j:=
 #[h.st.next,λr w i hi=>by
  by_cases e:i=p
  ·rw[e];exact g r w
  ·exact h.zl r w i ⋯,h.pz,h.ev,h.ln,h.o0,h.o1,h.o2]
theorem Sq.clear{k:List (Nat×List Int)}(h:Sq m p L0 k LS)(B:p<m)(L:b∈LS)(I:gI b p≠0):Sq m (p+1) L0 (k.map (λq=>(q.1,bU q.2 p b))++[(p,b)]) (LS.map λr=>bU r p b):=by
 have lb:=h.st.len b L;have kO:=h.st.clear B L I;refine#[kO,?_,?_,?_,by rw[Xd,h.ln],λe=>by simp at e,?_,?_]
 ·intro r w i hi;obtain⟨Q,h0,rfl⟩:=XD.mp w;have j:=h.st.len Q h0;rw[jU (by rw[j,lb]) ⋯];by_cases e:i=p
  ·rw[e,Yl,Ys]
  ·rw[h.zl Q h0 i ⋯,h.zl b L i ⋯,Yp,Yp,Yt]
 ·intro q K P a o;rcases Xq.mp K with K|K
  ·obtain⟨g,h0,rfl⟩:=XD.mp K;have j:=(h.st.pl g h0).2.1;rcases Xq.mp a with a|a
   ·obtain⟨S,Z,rfl⟩:=XD.mp a;have p1:=(h.st.pl S Z).1;rw[jU (by rw[j,lb]) ⋯,h.pz g h0 S Z o,h.st.zr S Z b L,Yp,Yp,Yt]
   ·rw[XC]at a;subst a;rw[jU (by rw[j,lb]) ⋯,Yl,Ys]
  ·rw[XC]at K;subst K;rcases Xq.mp a with a|a
   ·obtain⟨S,Z,rfl⟩:=XD.mp a;exact h.st.zr S Z b L
   ·rw[XC]at a;subst a;exact absurd rfl o
 ·intro z;rw[h.ev z];constructor
  ·rintro⟨Z,Y⟩;have c:=Y b L;refine#[λq K=>?_,λr w=>?_]
   ·rcases Xq.mp K with K|K
    ·obtain⟨g,h0,rfl⟩:=XD.mp K;rw[gQ z (by rw[(h.st.pl g h0).2.1,lb]),Z g h0,c,Yp,Yp,Yt]
    ·rw[XC]at K;subst K;exact c
   ·obtain⟨Q,h0,rfl⟩:=XD.mp w;rw[gQ z (by rw[h.st.len Q h0,lb]),Y Q h0,c,Yp,Yp,Yt]
  ·rintro⟨Z,Y⟩;have c:=Z (p,b)<|XA _<|XC.mpr rfl;have back:∀r:List Int,r.length=b.length->af (bU r p b) z=0->af r z=0:=λr W w=>by rw[gQ z W,c,Yp,Yt]at w;exact(Int.mul_eq_zero.mp w).resolve_left I
   exact#[λq K=>back q.2 (by rw[(h.st.pl q K).2.1,lb])<|Z (q.1,bU q.2 p b)<|Ze _<|XD.mpr #[q,K,rfl],λr w=>back r (by rw[h.st.len r w,lb])<|Y _<|XD.mpr #[r,w,rfl]]
 ·intro q e;cases k with
  |nil=>have e0:=h.o0 rfl;simp only[Zd,Zl,YG,and_true]at e;subst e;rw[e0]at L;exact#[L,by rw[e0]]
  |cons g k=>have:=aab List.length e;simp at this
 ·intro S A e;cases k with
  |nil=>have:=aab List.length e;simp at this
  |cons g k=>
   cases k with
   |nil=>obtain⟨k1,k2⟩:=h.o1 g rfl;simp only[XR,Zd,List.singleton_append,YG,and_true]at e;obtain⟨e1,e2⟩:=e;subst e1 e2;rw[k2]at L;obtain⟨r2,Y,rfl⟩:=XD.mp L;have:=h.st.pl g Xa;exact#[g.2,k1,r2,Y,this.1,this.2.2,rfl,rfl]
   |cons P k=>have:=aab List.length e;simp at this
theorem Sq.zero(h:xV m 0 [] L0):Sq m 0 L0 [] L0:=#[h,λ_ _ i hi=>⋯,by simp,λz=>by simp,rfl,λ_=>rfl,λ_ e=>(by cases e),λ_ _ e=>(by cases e)]
theorem Sq.step(h:Sq m p L0 S.1 S.2)(B:p<m):Sq m (p+1) L0 (dM p S).1 (dM p S).2:=by
 unfold dM;cases e:S.2.filter λq=> !(gI q p==0) with
 |nil=>
  refine h.next λr w=>?_
  have:=List.filter_eq_nil_iff.mp e r w;simpa using this
 |cons b bs=>
  have:b∈S.2.filter λq=> !(gI q p==0):=by rw[e];exact Xa
  have:=Zf.mp this;exact h.clear B this.1 (by simpa using this.2)
theorem Sq.all(h:xV m 0 [] L0):∀p,p<=m->Sq m p L0 (bP L0 p).1 (bP L0 p).2
 |0,_=>Sq.zero h
 |p+1,B=>(Sq.all h p ⋯).step ⋯
theorem jH(g)(h:l.length=x.length):af (l++[g]) (x++[-1])=af l x-g:=by
 induction l generalizing x with
 |nil=>cases x with|nil=>simp[af]|cons=>simp at h
 |cons a l O=>cases x with
  |nil=>simp at h
  |cons b x=>
   have:=O (by simpa using h);rw[YH,YH,aA,aA]
   lia
def fH(M:List (List Int))(r x:List Int):Prop:=∀q∈M.zip r,af q.1 x=q.2
theorem tU(W:∀q∈M,q.length=m)(U:x.length=m):fH M r x↔∀z∈rowsOf M r,af z (x++[-1])=0:=by
 constructor
 ·intro h z g;obtain⟨q,K,rfl⟩:=XD.mp g;rw[jH _ (by rw[W _ (Zn K).1,U]),h q K,Ys]
 ·intro h q K;have:=h _<|XD.mpr #[q,K,rfl];rw[jH _ (by rw[W _ (Zn K).1,U])]at this
  lia
theorem aB(a)(l)(i):gI (a::l) (i+1)=gI l i:=by simp[gI]
theorem nC:∀{l:List Int}(z:List Int),(∀i,i<l.length->gI l i=0)->af l z=0
 |[],z,_=>rfl
 |a::l,[],_=>rfl
 |a::l,u::z,h=>by have h0:a=0:=h 0 (by simp);rw[aA,h0,nC z λi hi=>by have:=h (i+1) (by simpa using hi);rwa [aB]at this];simp
def rN(m:Nat)(j:List (List Int)):Bool:=(j.map λq=> !(gI q m==0)).any id
theorem j7(h:l.length=m+1):∃a g,l=a++[g]/\a.length=m/\gI l m=g:=by
 have o:l≠[]:=λe=>by rw[e]at h;simp at h
 obtain⟨a,g,e⟩:=(sU l).resolve_left o;refine#[a,g,e,by rw[e,Xk]at h;simpa using h,?_];subst e;have:a.length=m:=by rw[Xk]at h;simpa using h
 subst this;simp[gI]
theorem gH(h:i<a.length):gI (a++[g]) i=gI a i:=by simp[gI,XO h]
theorem Sq.sol{k:List (Nat×List Int)}(h:Sq m m (rowsOf M r) k j)(W:∀q∈M,q.length=m)(U:x.length=m):
  fH M r x↔rN m j=J'/\∀q∈k,af q.2 (x++[-1])=0:=by
 rw[tU W U,h.ev];have key:∀q∈j,af q (x++[-1])= - gI q m:=λq K=>by
  obtain⟨a,g,e,ha,t⟩:=j7<|h.st.len q K;rw[t];have hz:=h.zl q K;subst e;rw[jH g (by rw[ha,U]),nC x λi hi=>by have:=hz i ⋯;rwa [gH hi]at this]
  lia
 have:(∀q∈j,af q (x++[-1])=0)↔rN m j=J':=by
  unfold rN;rw[YF,YE];constructor
  ·intro Z q K;have:=Z q K;rw[key q K]at this;have:gI q m=0:=⋯
   simp[this]
  ·intro Z q K;rw[key q K];have:=Z q K;simp at this
   lia
 rw[this];exact And.comm
theorem bX{l:List Int}(h:p<l.length):gI (l.set p x) p=x:=by simp[gI,h]
theorem bE(h:i≠p):gI (l.set p x) i=gI l i:=by simp[gI,List.getD,ZX h]
theorem qi:∀{a b:List Int},a.length=b.length->(∀i,i<a.length->gI a i=gI b i)->a=b
 |[],[],_,_=>rfl
 |x::a,y::b,h,e=>by have h0:x=y:=e 0 (by simp);rw[h0,qi (a:=a) (by simpa using h) λi hi=>by have:=e (i+1) (by simpa using hi);rwa [aB,aB]at this]
 |[],_::_,h,_=>by simp at h
 |_::_,[],h,_=>by simp at h
theorem eK(h:x∈l):∃i,i<l.length/\gI l i=x:=by obtain⟨i,hi,e⟩:=YZ h;exact#[i,hi,by simp[gI,hi,e]]
theorem ir:∀{l x q:List Int}{p:Nat},x.length=q.length->p<x.length->x.length<=l.length->(∀i,i<x.length->i≠p->gI l i*gI x i=gI l i*gI q i)->af l x=af l q+gI l p*(gI x p-gI q p)
 |[],x,q,p,_,Y,h3,_=>by simp at h3;rw[h3]at Y;simp at Y
 |a::l,[],q,p,_,Y,_,_=>by simp at Y
 |a::l,u::x,[],p,Z,_,_,_=>by simp at Z
 |a::l,u::x,v::q,0,Z,Y,h3,h=>by
  have e:af l x=af l q:=by
   have:∀{l x q:List Int},x.length=q.length->x.length<=l.length->(∀i,i<x.length->gI l i*gI x i=gI l i*gI q i)->af l x=af l q:=by
    intro l x q
    induction l generalizing x q with
    |nil=>intro _ _ _;rfl
    |cons a l O=>
     intro Z Y h;cases x with
     |nil=>cases q with|nil=>rfl|cons=>simp at Z
     |cons u x=>cases q with
      |nil=>simp at Z
      |cons v q=>rw[aA,aA,O (by simpa using Z) (by simpa using Y) λi hi=>by have:=h (i+1) (by simpa using hi);rwa [aB,aB,aB]at this];have:=h 0 (by simp);have:a*u=a*v:=this;rw[this]
   exact this (by simpa using Z) (by simpa using h3) λi hi=>by have:=h (i+1) (by simpa using hi) ⋯;rwa [aB,aB,aB]at this
  rw[aA,aA,e];show a*u+_=a*v+_+a*(u-v)
  grind
 |a::l,u::x,v::q,p+1,Z,Y,h3,h=>by
  have O:=ir (by simpa using Z) (by simpa using Y) (by simpa using h3) λi hi o=>by have:=h (i+1) (by simpa using hi) ⋯;rwa [aB,aB,aB]at this
  have h0:a*u=a*v:=h 0 (by simp) ⋯;rw[aA,aA,aB,aB,aB]
  lia
def fZ(eq q:List Int):Int:= - af eq (q++[-1])
def cM(q:List Int):List (Nat×List Int)->List Int->Option (List Int)
 |[],w=>y' w
 |z::PS,w=>if (!((fZ z.2 q).fmod (gI z.2 z.1)==0))=G'\/(fZ z.2 q).fdiv (gI z.2 z.1)<0 then B' else cM q PS (w.set z.1<|(fZ z.2 q).fdiv<|gI z.2 z.1)
theorem jh:∀{PS:List (Nat×List Int)}{w x:List Int},(PS.map (·.1)).Nodup->(∀z∈PS,z.1<w.length/\gI z.2 z.1≠0)->
  (cM q PS w=y' x↔x.length=w.length/\(∀i,i<w.length->i∉PS.map (·.1)->gI x i=gI w i)/\∀z∈PS,gI z.2 z.1*gI x z.1=fZ z.2 q/\0<=gI x z.1)
 |[],w,x,_,_=>by
  unfold cM;constructor
  ·intro h;cases h;exact#[rfl,λ_ _ _=>rfl,by simp]
  ·rintro⟨Z,Y,_⟩;rw[qi Z λi hi=>Y i (by omega)<|by simp]
 |z::PS,w,x,nd,g=>by
  rw[XR,Zm]at nd;obtain⟨z1,X⟩:=g z Xa;unfold cM;have M:=Int.mul_fdiv_add_fmod (fZ z.2 q)<|gI z.2 z.1;generalize I:(fZ z.2 q).fdiv (gI z.2 z.1)=n at M;generalize hr:(fZ z.2 q).fmod (gI z.2 z.1)=rest at M;have O:=jh (q:=q) (w:=w.set z.1 n) (x:=x) nd.2 λy F=>by rw[Y6];exact g y (W7 _ F)
  by_cases L:(!(rest==0))=G'\/n<0
  ·rw[aaf L];constructor
   ·intro h;cases h
   ·rintro⟨_,_,u⟩;obtain⟨k1,k2⟩:=u z Xa;rw[<-k1,Int.mul_fmod_right]at hr;rw[<-k1,Int.mul_fdiv_cancel_left _ X]at I;rcases L with L|L
    ·rw[<-hr]at L;simp at L
    ·omega
  ·rw[aae L,O];have Q:rest=0:=by
    by_cases h:rest=0
    ·exact h
    ·exact absurd (.inl<|by simp[h]) L
   have a:0<=n:=by have:=λh=>L<|.inr h;omega
   rw[Q,Int.add_zero]at M;rw[Y6];constructor
   ·rintro⟨Z,Y,u⟩;have b:gI x z.1=n:=by rw[Y z.1 z1 nd.1,bX z1]
    refine#[Z,λi hi j=>?_,λy F=>?_]
    ·rw[XR,Xg,not_or]at j;rw[Y i hi j.2,bE j.1]
    ·rcases Xg.mp F with rfl|F
     ·rw[b];exact#[M,a]
     ·exact u y F
   ·rintro⟨Z,Y,u⟩;obtain⟨k1,k2⟩:=u z Xa;have b:gI x z.1=n:=by rw[<-k1,Int.mul_fdiv_cancel_left _ X]at I;exact I
    refine#[Z,λi hi j=>?_,λy F=>u y<|W7 _ F];by_cases e:i=z.1
    ·rw[e,bX z1,b]
    ·rw[bE e];exact Y i hi (by rw[XR,Xg,not_or];exact#[e,j])
def OF(g p:Nat)(Q:List (List Int)):List (List Int):=Q.flatMap λq=>(List.range<|g+1).map λ(n:Nat)=>q.set p (n:Int)
def f9(g:Nat):List Nat->List (List Int)->List (List Int)
 |[],Q=>Q
 |p::FR,Q=>f9 g FR<|OF g p Q
theorem gO:∀{FR:List Nat}{Q:List (List Int)}{P:List Int},P∈f9 g FR Q↔∃q∈Q,P.length=q.length/\(∀i,i<q.length->i∉FR->gI P i=gI q i)/\∀i,i∈FR->i<q.length->∃n:Nat,n<=g/\gI P i=n
 |[],Q,P=>by
  constructor
  ·intro h;exact#[P,h,rfl,λ_ _ _=>rfl,by simp]
  ·rintro⟨q,K,Z,Y,_⟩;rw[qi Z λi hi=>Y i ⋯ (by simp)];exact K
 |p::FR,Q,P=>by
  unfold f9;rw[gO];constructor
  ·rintro⟨S,k,Z,Y,u⟩;obtain⟨q,K,h⟩:=Zh.mp k;obtain⟨n,I,rfl⟩:=XD.mp h;have I:=XU.mp I;rw[Y6]at Z Y u;refine#[q,K,Z,λi hi j=>?_,λi hi W=>?_]
   ·rw[Xg,not_or]at j;rw[Y i hi j.2,bE j.1]
   ·by_cases e:i∈FR
    ·exact u i e W
    ·have:=(Xg.mp hi).resolve_right e;subst this;exact#[n,⋯,by rw[Y i W e,bX W]]
  ·rintro⟨q,K,Z,Y,u⟩;by_cases B:p<q.length
   ·obtain⟨n,I,o⟩:=u p Xa B;refine#[q.set p n,Zh.mpr #[q,K,XD.mpr #[n,XU.mpr ⋯,rfl]],by rw[Y6];exact Z,?_,?_]
    ·rw[Y6];intro i hi j;by_cases e:i=p
     ·rw[e,o,bX B]
     ·rw[bE e];exact Y i hi (by rw[Xg,not_or];exact#[e,j])
    ·rw[Y6];exact λi hi W=>u i (W7 _ hi) W
   ·refine#[q.set p (0:Nat),Zh.mpr #[q,K,XD.mpr #[0,XU.mpr ⋯,rfl]],by rw[Y6];exact Z,?_,?_]
    ·rw[Y6];intro i hi j;rw[bE ⋯];exact Y i hi (by rw[Xg,not_or];exact#[⋯,j])
    ·rw[Y6];exact λi hi W=>u i (W7 _ hi) W
def bN(m:Nat)(k:List (Nat×List Int)):List Nat:=(List.range m).filter λp=> !decide (p∈k.map (·.1))
def zb(m g:Nat)(k:List (Nat×List Int)):List (List Int):=(f9 g (bN m k) [List.replicate m 0]).filterMap λq=>cM q k q
theorem kF(h:x.length=m):gI (x++[-1]) m= -1:=by subst h;simp[gI]
theorem cn(m i):gI (List.replicate m 0) i=0:=by simp only[gI,List.getD,YV];split<;>rfl
theorem Sq.goal{k:List (Nat×List Int)}(h:Sq m m L0 k LS)(U:x.length=m)(K:q.length=m)(Z:∀i,i<m->i∉k.map (·.1)->gI x i=gI q i)(Y:∀i,i<m->i∈k.map (·.1)->gI q i=0):
  ∀z∈k,af z.2 (x++[-1])=gI z.2 z.1*gI x z.1-fZ z.2 q:=λz g=>by
 obtain⟨O,X,I⟩:=h.st.pl z g;have e:=ir (l:=z.2) (x:=x++[-1]) (q:=q++[-1]) (p:=z.1) (by simp[U,K]) (by simp[U];lia) (by simp[U,X]) λi hi o=>by
  have hi:i<m+1:=by simpa [U]using hi
  by_cases uY:i=m
  ·rw[uY,kF U,kF K]
  ·rw[gH ⋯,gH ⋯];by_cases B:i∈k.map (·.1)
   ·obtain⟨z',Pz,e⟩:=XD.mp B;rw[<-e,h.pz z g z' Pz (by rw[e];exact o),Yw,Yw]
   ·rw[Z i ⋯ B]
 rw[e,gH ⋯,gH ⋯,Y z.1 ⋯ (XD.mpr #[z,g,rfl])];unfold fZ;rw[Yt]
 lia
theorem Ei{k:List (Nat×List Int)}(h:Sq m m L0 k LS):
  x∈zb m g k↔x.length=m/\(∀i,i<m->0<=gI x i)/\(∀z∈k,af z.2 (x++[-1])=0)/\∀i∈bN m k,gI x i<=g:=by
 unfold zb;rw[Zg];have v:∀i,i∈bN m k↔i<m/\i∉k.map (·.1):=λi=>by unfold bN;rw[Zf,XU];simp
 constructor
 ·rintro⟨q,K,J⟩;obtain⟨q0,h0,Z,Y,u⟩:=gO.mp K;rw[XC]at h0;subst h0;rw[Y5]at Z Y u;obtain⟨k1,k2,k3⟩:=(jh h.st.nd λz hz=>#[by rw[Z];exact(h.st.pl z hz).1,(h.st.pl z hz).2.2]).mp J;rw[Z]at k1 k2;have b:∀i,i<m->i∈k.map (·.1)->gI q i=0:=λi hi B=>by rw[Y i hi λz=>((v i).mp z).2 B,cn]
  refine#[k1,λi hi=>?_,λz hz=>?_,λi hi=>?_]
  ·by_cases B:i∈k.map (·.1)
   ·obtain⟨z,hz,rfl⟩:=XD.mp B;exact(k3 z hz).2
   ·obtain⟨n,_,e⟩:=u i ((v i).mpr #[hi,B]) hi;rw[k2 i hi B,e]
    lia
  ·rw[h.goal k1 Z k2 b z hz,(k3 z hz).1,Ys]
  ·obtain⟨p,B⟩:=(v i).mp hi;obtain⟨n,I,e⟩:=u i hi p;rw[k2 i p B,e]
   lia
 ·rintro⟨Z,Y,u,Q⟩
  let q:=(List.range m).map λi=>if i∈k.map (·.1) then 0 else gI x i
  have r:q.length=m:=by simp[q]
  have a:∀i,i<m->gI q i=if i∈k.map (·.1) then 0 else gI x i:=λi hi=>by simp only[q,gI,List.getD,Xn,List.getElem?_range hi];rfl
  have S:∀i,i<m->i∉k.map (·.1)->gI x i=gI q i:=λi hi B=>by rw[a i hi,aae B]
  have A:∀i,i<m->i∈k.map (·.1)->gI q i=0:=λi hi B=>by rw[a i hi,aaf B]
  refine#[q,gO.mpr #[_,XC.mpr rfl,by rw[r,Y5],λi hi j=>?_,λi hi W=>?_],(jh h.st.nd λz hz=>#[by rw[r];exact(h.st.pl z hz).1,(h.st.pl z hz).2.2]).mpr #[by rw[r,Z],λi hi B=>S i ⋯ B,λz hz=>#[?_,Y z.1 (h.st.pl z hz).1]]]
  ·rw[Y5]at hi;rw[cn];by_cases B:i∈k.map (·.1)
   ·exact A i hi B
   ·exact absurd ((v i).mpr #[hi,B]) j
  ·obtain⟨p,B⟩:=(v i).mp hi;have:=Y i p;have:=Q i hi;exact#[(gI x i).toNat,⋯,by rw[<-S i p B];lia]
  ·have:=u z hz;rw[h.goal Z r S A z hz]at this
   lia
def dG(a b:List Int):Bool:=(a.zip b).all λq=>decide (q.1<=q.2)
def ei(a:List Int)(F:List (List Int)):Bool:=F.any λf=>dG f a
def aW:List (List Int)->List (List Int)->List (List Int)
 |[],F=>F
 |q::Q,F=>aW Q<|if (decide (0<q.sum)&& !ei q F)=G' then F++[q] else F
def jK(Q:List (List Int)):List (List Int):=(fA<|Q.map dI).map OB
def ltI(a b:List Int):Bool:=Mx.D.f6 (a.map Mx.D.int)<|b.map Mx.D.int
theorem ua(x y)(a b):dG (x::a) (y::b)=(decide (x<=y)&&dG a b):=rfl
theorem dU:∀{a b:List Int},a.length=b.length->(dG a b=G'↔∀i,i<a.length->gI a i<=gI b i)
 |[],[],_=>#[λ_ i hi=>by simp at hi,λ_=>rfl]
 |x::a,y::b,h=>by
  have O:=dU (by simpa using h);rw[ua,W3,aac,O];constructor
  ·rintro⟨Z,Y⟩ i hi;cases i with
   |zero=>exact Z
   |succ i=>rw[aB,aB];exact Y i (by simpa using hi)
  ·intro h;exact#[h 0<|by simp,λi hi=>by have:=h (i+1) (by simpa using hi);rwa [aB,aB]at this]
 |[],_::_,h=>by simp at h
 |_::_,[],h=>by simp at h
theorem nX(a):dG a a=G':=(dU rfl).mpr λ_ _=>Yi _
theorem zk(Z:a.length=b.length)(Y:b.length=c.length)(k1:dG a b=G')(k2:dG b c=G'):dG a c=G':=
 (dU<|Z.trans Y).mpr λi hi=>Int.le_trans ((dU Z).mp k1 i hi)<|(dU Y).mp k2 i ⋯
theorem sW(x y)(a b):ltI (x::a) (y::b)=if x=y then ltI a b else decide (x<y):=by
 show Mx.D.f6 (.int x::a.map Mx.D.int) (.int y::b.map Mx.D.int)=_;rw[Mx.D.d9];by_cases h:x=y
 ·rw[aaf (by rw[h]),aaf h];rfl
 ·rw[aae (λz=>h<|by injection z),aae h];simp[Mx.D.lt]
theorem xS:∀{a b:List Int},a.length=b.length->dG a b=G'->ltI b a=J'
 |[],[],_,_=>by simp[ltI,Mx.D.f6]
 |x::a,y::b,h,u=>by
  rw[ua,W3,aac]at u;rw[sW];by_cases e:y=x
  ·rw[aaf e];exact xS (by simpa using h) u.2
  ·rw[aae e];exact Xt ⋯
 |[],_::_,h,_=>by simp at h
 |_::_,[],h,_=>by simp at h
theorem wU:∀{a b:List Int},a.length=b.length->ltI a b=J'->ltI b a=J'->a=b
 |[],[],_,_,_=>rfl
 |x::a,y::b,h,Z,Y=>by
  rw[sW]at Z Y;by_cases e:x=y
  ·rw[aaf e]at Z;rw[aaf e.symm]at Y;rw[e,wU (by simpa using h) Z Y]
  ·rw[aae e]at Z;rw[aae (ZX e)]at Y;have:=aam Z;have:=aam Y
   lia
 |[],_::_,h,_,_=>by simp at h
 |_::_,[],h,_,_=>by simp at h
theorem lU:q∈jK Q↔q∈Q:=by
 unfold jK;rw[XD];constructor
 ·rintro⟨d,hd,rfl⟩;obtain⟨q,K,rfl⟩:=XD.mp<|iE.mp hd;rwa [nW]
 ·intro h;exact#[dI q,iE.mpr<|XD.mpr #[q,h,rfl],nW q]
theorem vC(Q):(jK Q).Pairwise λa b=>ltI b a=J':=by
 unfold jK;rw[Zs];refine List.Pairwise.imp_of_mem ?_<|qV<|Q.map dI;intro a b m L h;obtain⟨p,_,rfl⟩:=XD.mp<|iE.mp m;obtain⟨q,_,rfl⟩:=XD.mp<|iE.mp L;rw[nW,nW];have h:(!Mx.D.lt (dI q) (dI p))=G':=h;unfold ltI;have e:Mx.D.lt (dI q) (dI p)=Mx.D.f6 (q.map Mx.D.int) (p.map Mx.D.int):=by unfold dI Mx.D.lt;rfl
 rw[e]at h;simpa using h
theorem EF{F G:List (List Int)}(h:ei a F=G'):ei a (F++G)=G':=by unfold ei at *;rw[List.any_append,h,Bool.true_or]
theorem o8:∀{Q F:List (List Int)},∃t,aW Q F=F++t
 |[],F=>#[[],by simp[aW]]
 |q::Q,F=>by
  unfold aW;obtain⟨t,e⟩:=o8 (F:=if (decide (0<q.sum)&& !ei q F)=G' then F++[q] else F);rw[e];split
  ·exact#[[q]++t,by simp]
  ·exact#[t,rfl]
theorem j5:∀{Q F:List (List Int)}{f:List Int},f∈aW Q F->f∈F\/(f∈Q/\0<f.sum)
 |[],F,f,h=>.inl h
 |q::Q,F,f,h=>by
  unfold aW at h;rcases j5 h with h|⟨Z,Y⟩
  ·split at h
   ·rename_i J;rcases Xq.mp h with h|h
    ·exact .inl h
    ·rw[XC]at h;subst h;rw[W3,aac]at J;exact .inr #[Xa,J.1]
   ·exact .inl h
  ·exact .inr #[W7 _ Z,Y]
theorem o7:∀{Q F:List (List Int)}{q:List Int},q∈Q->0<q.sum->ei q (aW Q F)=G'
 |[],F,q,h,_=>by cases h
 |p::Q,F,q,h,h0=>by
  unfold aW;rcases Xg.mp h with rfl|h
  ·obtain⟨t,e⟩:=o8 (F:=if (decide (0<q.sum)&& !ei q F)=G' then F++[q] else F);rw[e];refine EF ?_;rw[Xx h0,Bool.true_and];cases j:ei q F with
   |true=>exact j
   |false=>show ei q (F++[q])=G';unfold ei;rw[List.any_append];simp[nX]
  ·exact o7 h h0
def O8(a b:List Int):Prop:=ltI a b=G'/\dG a b=J'/\dG b a=J'
theorem IP(W:a.length=b.length)(Z:ltI b a=J')(Y:dG a b=J'):O8 a b:=by
 have u:ltI a b=G':=by
  cases h:ltI a b with
  |true=>rfl
  |false=>have:=wU W h Z;rw[this,nX]at Y;cases Y
 refine#[u,Y,?_];cases h:dG b a with
 |false=>rfl
 |true=>rw[xS W.symm h]at u;cases u
theorem jw:∀{Q F:List (List Int)},(∀q∈Q,q.length=m)->(∀f∈F,f.length=m)->Q.Pairwise (λa b=>ltI b a=J')->(∀f∈F,∀q∈Q,ltI q f=J')->F.Pairwise O8->(aW Q F).Pairwise O8
 |[],F,_,_,_,_,h=>h
 |q::Q,F,hQ,n,l,J,h=>by
  rw[Zq]at l;unfold aW;refine jw (λz g=>hQ z<|W7 _ g) ?_ l.2 ?_ ?_
  ·intro f A;split at A
   ·rcases Xq.mp A with A|A
    ·exact n f A
    ·rw[XC]at A;subst A;exact hQ f Xa
   ·exact n f A
  ·intro f A z g;split at A
   ·rcases Xq.mp A with A|A
    ·exact J f A z<|W7 _ g
    ·rw[XC]at A;subst A;exact l.1 z g
   ·exact J f A z<|W7 _ g
  ·split
   ·rename_i K;rw[W3]at K;have j:ei q F=J':=by simpa using K.2
    unfold ei at j;rw[YE]at j;rw[Zo];refine#[h,List.pairwise_singleton ..,λa ha b L=>?_];rw[XC]at L;subst L;exact IP (by rw[n a ha,hQ b Xa]) (J a ha b Xa) (by simpa using j a ha)
   ·exact h
def unit(m i:Nat):List Int:=(List.replicate m 0).set i 1
theorem uc(m i):(unit m i).length=m:=by simp[unit]
theorem lX(h:i<m):gI (unit m i) j=if j=i then 1 else 0:=by
 unfold unit;by_cases e:j=i
 ·rw[aaf e,e,bX (by simpa using h)]
 ·rw[aae e,bE e,cn]
theorem kl(W:l.length=m)(h:i<m)(x)(U:x.length=m):af l (x.set i v)=af l x+gI l i*(v-gI x i):=by
 have:=ir (l:=l) (x:=x.set i v) (q:=x) (p:=i) (by simp) (by simp[U,h]) (by simp[U,W]) λj F o=>by rw[bE o]
 rw[this,bX ⋯]
theorem fk(l):∀m,af l (List.replicate m 0)=0:=by
 induction l with
 |nil=>intro m;rfl
 |cons a l O=>
  intro m;cases m with
  |zero=>rfl
  |succ m=>rw[Zu,aA,O];lia
theorem pA(W:l.length=m)(h:i<m):af l (unit m i)=gI l i:=by
 unfold unit;rw[kl W h _ (by simp),fk,cn]
 lia
theorem xO:∀{y:List Int},(∀i,i<y.length->0<=gI y i)->(∃i,i<y.length/\0<gI y i)->0<y.sum
 |[],_,#[i,hi,_]=>by simp at hi
 |a::y,h,#[i,hi,B]=>by
  have m:0<=a:=h 0 (by simp);have F:∀i,i<y.length->0<=gI y i:=λi hi=>by have:=h (i+1) (by simpa using hi);rwa [aB]at this
  have ns:∀{y:List Int},(∀i,i<y.length->0<=gI y i)->0<=y.sum:=by
   intro y
   induction y with
   |nil=>intro _;simp
   |cons b y O=>
    intro h;have:=h 0 (by simp);have L:0<=b:=this;have:=O λi hi=>by have:=h (i+1) (by simpa using hi);rwa [aB]at this
    rw[Zw];lia
  rw[Zw];cases i with
  |zero=>have:0<a:=B;have:=ns F;lia
  |succ i=>have:=xO F #[i,by simpa using hi,by rwa [aB]at B];lia
theorem aV(a b:Int):a<b\/b<=a:=⋯
def G6(M:List (List Int)):List Int:=M.flatMap λq=>q.map λx=>(x.natAbs:Int)
def gv(M:List (List Int)):Int:=de<|G6 M
def mI(s f:Nat)(a b:Int):Int:=if s=0 then 1 else([1,2*a,4*a*a,0]:List Int).getD (s-1) 0*(b+f*a)
theorem dC:fH M (List.replicate M.length 0) x↔∀q∈M,af q x=0:=by
 unfold fH
 induction M with
 |nil=>simp
 |cons q M O=>rw[Xm,Zu,ZG];simp only[List.forall_mem_cons];rw[O]
theorem RM{k:Nat}{t G:Int}(hi:ai≠0)(J:(ai.natAbs:Int)<=t)(w:(ρ.natAbs:Int)<=G)(U:G+k*t<xi){L:List (Int×Int)}(P:L.length<=k)(y:∀p∈L,(p.1.natAbs:Int)<=t/\0<=p.2)(h:ai*xi+(L.map λp=>p.1*p.2).sum=ρ):
  ∃p∈L,ai*p.1<0/\(ai.natAbs:Int)<=p.2:=by
 refine Yc λI=>?_
 have key:∀(O:Int),O*ai=ai.natAbs->(O=1\/O= -1)->∀p∈L,- (t*(ai.natAbs-1))<=O*(p.1*p.2):=by
  intro O H l p B;obtain⟨o,p2⟩:=y p B;have F:0<=t*((ai.natAbs:Int)-1):=Yo ⋯ ⋯;rcases aV (O*p.1) 0 with b|n
  ·have c:ai*p.1<0:=by
    rcases l with rfl|rfl
    ·have:0<ai:=⋯
     exact Int.mul_neg_of_pos_of_neg this ⋯
    ·have:ai<0:=⋯
     exact Int.mul_neg_of_neg_of_pos this ⋯
   have cO:p.2<=(ai.natAbs:Int)-1:=by
    rcases aV p.2 ai.natAbs with z|z
    ·lia
    ·exact absurd #[p,B,c,z] I
   have e1:O*(p.1*p.2)= - ((p.1.natAbs:Int)*p.2):=by
    rw[<-Yk];have:O*p.1= - (p.1.natAbs:Int):=by rcases l with rfl|rfl<;>lia
    rw[this,Int.neg_mul]
   have e2:=Int.mul_le_mul o cO p2 ⋯
   lia
  ·have:0<=O*(p.1*p.2):=by rw[<-Yk];exact Yo n p2
   lia
 obtain⟨O,H,l⟩:∃O:Int,O*ai=ai.natAbs/\(O=1\/O= -1):=by
  rcases Yj hi with z|z
  ·exact#[-1,⋯,.inr rfl]
  ·exact#[1,⋯,.inl rfl]
 have W:∀L:List (Int×Int),(∀p∈L,- (t*(ai.natAbs-1))<=O*(p.1*p.2))-> - ((L.length:Int)*(t*(ai.natAbs-1)))<=O*(L.map λp=>p.1*p.2).sum:=by
  intro L
  induction L with
  |nil=>intro _;simp
  |cons p L ih=>
   intro h;have Z:=ih λq K=>h q (W7 _ K)
   have Y:=h p Xa;rw[XR,Zw,Int.mul_add,Xm];have:((L.length+1:Nat):Int)*(t*(ai.natAbs-1))=L.length*(t*(ai.natAbs-1))+t*(ai.natAbs-1):=by rw[Int.natCast_add,Int.add_mul];simp
   lia
 have Z:=W L<|key O H l;have Y:O*(ai*xi)+O*(L.map λp=>p.1*p.2).sum=O*ρ:=by rw[<-Int.mul_add,h]
 have u:O*(ai*xi)=ai.natAbs*xi:=by rw[<-Yk,H]
 have a:O*ρ<=G:=by rcases l with rfl|rfl<;>lia
 have a1:(1:Int)<=ai.natAbs:=⋯
 have F:0<=t*((ai.natAbs:Int)-1):=Yo ⋯ ⋯;have Q:(L.length:Int)*(t*(ai.natAbs-1))<=k*(t*(ai.natAbs-1)):=Yn ⋯ F;have A:(ai.natAbs:Int)*(G+k*t+1)<=ai.natAbs*xi:=Ym ⋯ ⋯;have j:(ai.natAbs:Int)*(G+k*t+1)=ai.natAbs*G+k*(t*(ai.natAbs-1))+k*t+ai.natAbs:=by grind
 have X:0<=(k:Int)*t:=Yo ⋯ ⋯;have h9:(1:Int)*G<=ai.natAbs*G:=Yn a1 ⋯
 lia
theorem nB:∀{a x:List Int}{i:Nat},i<a.length->i<x.length->gI a i*gI x i+(((a.zip x).eraseIdx i).map λp=>p.1*p.2).sum=af a x
 |[],_,_,h,_=>by simp at h
 |_::_,[],_,_,h=>by simp at h
 |u::a,v::x,0,_,_=>rfl
 |u::a,v::x,i+1,Z,Y=>by
  have O:=nB (by simpa using Z) (by simpa using Y);rw[aB,aB,ZG,List.eraseIdx_cons_succ,XR,Zw,aA];show _+(u*v+_)=_
  lia
theorem Fg{t ρ G:Int}(hl:a.length=m)(hx:x.length=m)(hn:∀i,i<m->0<=gI x i)(ht:∀z∈a,(z.natAbs:Int)<=t)(hρ:(ρ.natAbs:Int)<=G)(hs:af a x=ρ)(hi:i<m)(h0:gI a i≠0)(VT:G+((m-1:Nat):Int)*t<gI x i):
  ∃j,j<m/\j≠i/\gI a i*gI a j<0/\((gI a i).natAbs:Int)<=gI x j:=by
 have hz:(a.zip x).length=m:=by rw[Y9];lia
 have mem:∀p∈(a.zip x).eraseIdx i,∃j,j<m/\j≠i/\p=(gI a j,gI x j):=λp hp=>by obtain⟨j,hj,e⟩:=List.mem_eraseIdx_iff_getElem?.mp hp;rw[List.getElem?_zip_eq_some]at e;have h1:=(W6.mp e.1).1;refine#[j,⋯,hj,?_];have e1:=k7 h1;have e2:=k7 (l:=x) (k:=j) ⋯;rw[e1]at e;rw[e2]at e;have q1:=ZY e.1;have q2:=ZY e.2;rw[q1,q2]
 obtain⟨p,hp,k1,k2⟩:=RM (k:=m-1) (t:=t) (G:=G) h0 (ht _ (dD ⋯)) hρ VT (L:=(a.zip x).eraseIdx i) (by rw[List.length_eraseIdx_of_lt ⋯,hz];lia) (λp hp=>by
  obtain⟨j,hj,_,rfl⟩:=mem p hp;exact#[ht _ (dD ⋯),hn j hj]) (by rw[nB ⋯ ⋯,hs])
 obtain⟨j,hj,cH,rfl⟩:=mem p hp;exact#[j,hj,cH,k1,k2]
where
 k7 {l:List Int} {k:Nat} (h:k<l.length):l[k]?=y' (gI l k):=by simp[gI,List.getD,h]
theorem yP(h:u*v<0):u*(v.natAbs:Int)+v*(u.natAbs:Int)=0:=by
 have J:u≠0:=λz=>by rw[z,Yw]at h;lia
 rcases Yj J with z|z
 ·have w:0<v:=by
   rcases aV 0 v with w|w
   ·exact w
   ·have:=Int.mul_nonneg_of_nonpos_of_nonpos (Int.le_of_lt z) w;lia
  have e1:(v.natAbs:Int)=v:=⋯
  have e2:(u.natAbs:Int)= - u:=⋯
  rw[e1,e2];grind
 ·have w:v<0:=by
   rcases aV v 0 with w|w
   ·exact w
   ·have:=Yo (Int.le_of_lt z) w;lia
  have e1:(v.natAbs:Int)= - v:=⋯
  have e2:(u.natAbs:Int)=u:=⋯
  rw[e1,e2];grind
theorem fg{k:List (Nat×List Int)}:i∈bN m k↔i<m/\i∉k.map (·.1):=by unfold bN;rw[Zf,XU];simp
theorem wV(h:x∈l):x<=de l:=(cA l λe=>by rw[e]at h;cases h).2 x h
theorem CC(K:q∈M)(g:z∈q):(z.natAbs:Int)<=gv M:=wV<|Zh.mpr #[q,K,XD.mpr #[z,g,rfl]]
theorem vF(h:∀q∈M,∀z∈q,(z.natAbs:Int)<=t)(J:0<=t):gv M<=t:=by
 unfold gv;by_cases e:G6 M=[]
 ·rw[e];exact J
 ·obtain⟨q,K,y⟩:=Zh.mp (cA _ e).1;obtain⟨x,U,ex⟩:=XD.mp y;rw[<-ex];exact h q K x U
theorem mG{m p:Nat}{k:List (Nat×List Int)}(S:Sq m m L0 k LS):(bN m k).length+k.length=m:=by
 have:=sk S.st.nd λp B=>by obtain⟨q,K,rfl⟩:=XD.mp B;exact(S.st.pl q K).1
 rw[Xd]at this;exact this
variable{fs:List Fn}
structure bL(D:Dt)(M:List (List Int)):Prop where
 it:itemsOf D=y' (M.map tI)
 sq:cW D=y' (M.map tI)
 ln:cG .len [D]= .ok (.int M.length)
theorem bL.lst(M):bL (lI M) M:=#[rfl,rfl,by show R.ok (Dt.int ((M.map tI).length:Nat))=_;rw[Xd]]
theorem bL.tup(M):bL (.tup<|M.map tI) M:=#[rfl,rfl,by show R.ok (Dt.int ((M.map tI).length:Nat))=_;rw[Xd]]
theorem F0(A:fs[ik]?=y' #[3,3,J',Dg])(t:1<=N)(O:bL D M)(hR:M.length<=1000)(b:∀q∈M,q.length<=100)(w:r.length<=1000)(L:brk M many r=J'):
  ay fs N ik [D,.int many,tI r] B'= .ok (.bj,B'):=by
 have H:lim=1000000:=rfl;refine aO A t rfl ?_;show fin (bf (ay fs<|N-1) Dg [y' (D),y' (.int many),y' (tI r)] B')=_;have ln:=O.ln;unfold brk at L;simp only[Bool.or_eq_false_iff,decide_eq_false_iff_not]at L;obtain⟨⟨⟨Z,Y⟩,u⟩,Q⟩:=L;refine cD (by simp only[RX,ln];rw[Xt ⋯]) ?_;refine cD (S1:=B') (by simp only[RX,Xt Y]) ?_;have X:ev (ay fs<|N-1) zY [y' (D),y' (.int many),y' (tI r)] B'= .ok (.bl<|Dw M,B'):=by
  have J:az (aF (.nm 1) (aZ (ay fs<|N-1) .nil) (me (ay fs<|N-1) (M.map tI).length (.seq<|.var 1) (.nm 2) .nil<|.cmp .Gt (.bi .abs<|.cons (.var 2) .nil)<|.con<|.int 3) [B',B',B']) (M.map tI) B'= .ok (M.flatMap λq=>q.map λx=>.bl<|decide ((3:Int)<x.natAbs),B'):=bV λq K=>by have W:=b q K;refine CD rfl rfl ?_ rfl<|bH λx U=>aE rfl (by simp only[RX,pU]) rfl;rw[Xd,Xd];exact Xf (ZQ hR W) (by decide)
  unfold zY;rw[cm,mD (fN rfl O.it) (by rw[Xd];lia) rfl J,R.ao];have e:(M.flatMap λq=>q.map λx=>Dt.bl<|decide ((3:Int)<x.natAbs))=(M.flatMap λq=>q.map λx=>decide ((3:Int)<x.natAbs)).map Dt.bl:=by rw[Zb];congr 1;funext q;rw[Zc];rfl
  rw[e,l8];show R.ok (Dt.bl _,B')=_;congr 3;rw[List.any_flatMap];congr 1;funext q;rw[YF];congr 1;funext x;show decide _=decide _;congr 1;exact propext ⋯
 have F:ev (ay fs<|N-1) zZ [y' (D),y' (.int many),y' (tI r)] B'= .ok (.bl<|Dx r,B'):=by
  have J:az (aF (.nm 1) (aZ (ay fs<|N-1) .nil) (aX (ay fs<|N-1)<|.cmp .Gt (.bi .abs<|.cons (.var 1) .nil)<|.con<|.int 20) [B',B']) (r.map Dt.int) B'= .ok (r.map λx=>.bl<|decide ((20:Int)<x.natAbs),B'):=bH λx U=>aE rfl (by simp only[RX,pU]) rfl
  unfold zZ;rw[cm,aJ rfl (by rw[Xd];lia) rfl J,R.ao];have e:(r.map λx=>Dt.bl<|decide ((20:Int)<x.natAbs))=(r.map λx=>decide ((20:Int)<x.natAbs)).map Dt.bl:=by rw[Zc];rfl
  rw[e,l8];show R.ok (Dt.bl _,B')=_;congr 3;rw[YF];congr 1;funext x;show decide _=decide _;congr 1;exact propext ⋯
 have p:=mC X;have a:=mC F;rw[u]at p;rw[Q]at a;exact cD p<|cD a rfl
theorem N5(J:fs[ic]?=y' #[3,3,J',Dh])(A:fs[is]?=y' #[3,8,J',Hd ic])(t:2<=N)(O:bL D M)(E:m<=4)(hM:M.length<=16)(w:r.length<=16)(LW:∀q∈M,q.length=m)(QO:∀q∈M,∀x∈q,x.natAbs<=3)(Rf:∀x∈r,x.natAbs<=20):
  ay fs N is [D,.int m,tI r] B'= .ok ((if rN m (bP (rowsOf M r) m).2=G' then .bj else .lst ((bP (rowsOf M r) m).1.map pD)),B')/\Sq m m (rowsOf M r) (bP (rowsOf M r) m).1 (bP (rowsOf M r) m).2:=by
 have H:lim=1000000:=rfl;have b4:kW 3<2^64:=by decide
 let a:=rowsOf M r
 have I:xV m 0 [] a:=by
  refine#[λq K=>?_,λq K x U=>?_,by simp,by simp,by simp,by simp,by simp]
  ·obtain⟨z,g,rfl⟩:=XD.mp K;rw[Xk,LW _ (Zn g).1];rfl
  ·obtain⟨z,g,rfl⟩:=XD.mp K;show x.natAbs<=20;rcases Xq.mp U with U|U
   ·have:=QO _ (Zn g).1 x U;lia
   ·rw[XC]at U;subst U;exact Rf _ (Zn g).2
 have l0:a.length<=16:=by show ((M.zip r).map _).length<=16;rw[Xd,Y9];lia
 have sq:=λp(B:p<=m)=>Sq.all I p B
 have n:ev (ay fs<|N-1) FN [y' (D),y' (.int m),y' (tI r),B',B',B',B',B'] B'= .ok (.lst<|a.map tI,B'):=by
  have u:az (aF (.tp [1,2]) (aZ (ay fs<|N-1) .nil) (aX (ay fs<|N-1)<|.bin .Add (.bi .tuple<|.cons (.var 1) .nil)<|.tup<|.cons (.var 2) .nil) [B',B',B']) (dH (M.map tI)<|r.map Dt.int) B'= .ok ((M.zip r).map λq=>tI<|q.1++[q.2],B'):=by
   rw[zip_rows];refine aR λq K=>?_
   have W:=LW _ (Zn K).1;have ha:kI .Add (tI q.1) (.tup [.int q.2])= .ok (tI<|q.1++[q.2]):=by show aa (decide ((q.1.map Dt.int).length+1<=lim)) (R.ok<|Dt.tup<|q.1.map Dt.int++[.int q.2])=_;rw[Xx (by rw[Xd];lia),guard_true];unfold tI;rw[XS];rfl
   have ht:cG .tuple [tI q.1]= .ok (tI q.1):=rfl;exact aE rfl (by simp only[RX,ht,ha]) rfl
  have e:((M.zip r).map λq=>tI<|q.1++[q.2])=a.map tI:=by show _=((M.zip r).map _).map tI;rw[Zc];rfl
  rw[e]at u;exact aJ (d8 rfl rfl O.sq rfl) (by rw[zip_rows,Xd,Y9];lia) rfl u
 have c:=d5 (tg:=.nm 5) (body:=bf (ay fs<|N-1)<|FM ic) (ds:=bu 0 m)
  (λpre ρ=>∃x5 x6 v,ρ=[y' (D),y' (.int m),y' (tI r),y' (.lst<|(bP a pre.length).2.map tI),y' (.lst<|(bP a pre.length).1.map pD),x5,x6,v]) #[B',B',B',rfl] (by
   rintro pre x o ρ e ⟨x5,x6,v,rfl⟩;obtain⟨Z,rfl⟩:=dY e;generalize B:pre.length=p at *;have e1:(pre++[Dt.int p]).length=p+1:=by rw[Xk,B];rfl
   have Sj:=sq p ⋯;have st:=Sj.st;have W:(bP a p).2.length<=16:=by rw[Sj.ln];exact l0
   have Pm:bP a (p+1)=dM p (bP a p):=rfl;generalize hS:bP a p=S at *;obtain⟨PS,j⟩:=S;dsimp only at st W Sj;have F:kW p<2^64:=ZN (uH ⋯) b4;have i:ev (ay fs<|N-1) FP [y' (D),y' (.int m),y' (tI r),y' (.lst<|j.map tI),y' (.lst<|PS.map pD),y' (.int p),x6,v] B'= .ok (.lst<|(j.filter λq=> !(gI q p==0)).map tI,B'):=by
    have u:az (aF (.nm 1) (aZ (ay fs<|N-1)<|.cons (.cmp .NotEq (.idx (.var 1)<|.var 2)<|.con<|.int 0) .nil) (aX (ay fs<|N-1)<|.var 1) [B',B',y' (.int p)]) (j.map tI) B'= .ok (j.flatMap λq=>if (!(gI q p==0))=G' then[tI q] else[],B'):=bV λq K=>by have hi:=gJ (p:=p) (by rw[st.len q K];lia);exact turn_if rfl (by simp only[RX,hi]) λ_=>#[by simp only[RX],by unfold cJ;rw[qE,Yb]]
    rw[fL]at u;exact aJ rfl (by rw[Xd];lia) rfl u
   generalize hv:(j.filter λq=> !(gI q p==0))=hav at i;cases hav with
   |nil=>
    refine#[_,_,rfl,a6 i rfl<|iW rfl rfl,y'<|.int p,y'<|.lst [],v,?_];have l:dM p (PS,j)=(PS,j):=by unfold dM;rw[show (PS,j).2=j from rfl,hv]
    rw[e1,Pm,l];rfl
   |cons b bs=>
    have Tt:b∈j/\gI b p≠0:=by
     have:b∈j.filter λq=> !(gI q p==0):=by rw[hv];exact Xa
     have:=Zf.mp this;exact#[this.1,by simpa using this.2]
    have lb:=st.len b Tt.1;have Po:∀x∈b,vB x:=λx U=>ZN (st.bd b Tt.1 x U) F
    have hP:ev (ay fs<|N-1) (Ae ic) [y' (D),y' (.int m),y' (tI r),y' (.lst<|j.map tI),y' (.lst<|PS.map pD),y' (.int p),y' (.lst<|(b::bs).map tI),y' (tI b)] B'= .ok (.lst<|(PS.map λq=>(q.1,bU q.2 p b)).map pD,B'):=by
     have u:az (aF (.tp [1,2]) (aZ (ay fs<|N-1) .nil) (aX (ay fs<|N-1)<|.tup<|.cons (.var 1)<|.cons (.call ic (.cons (.var 2)<|.cons (.var 4)<|.cons (.var 3) .nil) []) .nil) [B',B',B',y' (tI b),y' (.int p)]) (PS.map pD) B'= .ok (PS.map λq=>pD (q.1,bU q.2 p b),B'):=aR λq K=>by have gp:=(st.pl q K).2.1;have:=Ay J (N:=N-1) ⋯ (p:=p) ⋯ ⋯ (λx U=>ZN (st.pb q K x U) F) Po ⋯;exact aE rfl (by simp only[RX,this];rfl) rfl
     have e2:(PS.map λq=>pD (q.1,bU q.2 p b))=(PS.map λq=>(q.1,bU q.2 p b)).map pD:=by rw[Zc];rfl
     rw[e2]at u;exact aJ rfl (by rw[Xd];have:=st.ct;lia) rfl u
    have y:∀Y,ev (ay fs<|N-1) (FQ ic) [y' (D),y' (.int m),y' (tI r),y' (.lst<|j.map tI),Y,y' (.int p),y' (.lst<|(b::bs).map tI),y' (tI b)] B'= .ok (.lst<|(j.map λq=>bU q p b).map tI,B'):=λY=>by
     have u:az (aF (.nm 1) (aZ (ay fs<|N-1) .nil) (aX (ay fs<|N-1)<|.call ic (.cons (.var 1)<|.cons (.var 3)<|.cons (.var 2) .nil) []) [B',B',y' (tI b),y' (.int p)]) (j.map tI) B'= .ok (j.map λq=>tI<|bU q p b,B'):=aR λq K=>by have gp:=st.len q K;have:=Ay J (N:=N-1) ⋯ (p:=p) ⋯ ⋯ (λx U=>ZN (st.bd q K x U) F) Po ⋯;exact aE rfl (by simp only[RX,this]) rfl
     have e2:(j.map λq=>tI<|bU q p b)=(j.map λq=>bU q p b).map tI:=by rw[Zc];rfl
     rw[e2]at u;exact aJ rfl (by rw[Xd];lia) rfl u
    have P:ev (ay fs<|N-1) (.bin .Add (Ae ic)<|.lst<|.cons (.tup<|.cons (.var 5)<|.cons (.var 7) .nil) .nil) [y' (D),y' (.int m),y' (tI r),y' (.lst<|j.map tI),y' (.lst<|PS.map pD),y' (.int p),y' (.lst<|(b::bs).map tI),y' (tI b)] B'= .ok (.lst<|(PS.map (λq=>(q.1,bU q.2 p b))++[(p,b)]).map pD,B'):=by rw[qL,hP,R.ao];simp only[RX];show (aa (decide (((PS.map λq=>(q.1,bU q.2 p b)).map pD).length+1<=lim)) _).bind _=_;rw[Xx (by rw[Xd,Xd];have:=st.ct;lia),guard_true,XS];rfl
    refine#[_,_,rfl,a6 i rfl (ni rfl (a6 (by have h0:=(mM (ds:=(b::bs).map tI) (k:=0) rfl).2;simp only[RX];exact aab (R.bind · _) h0) rfl<|a6 P rfl<|a6 (y _) rfl rfl)),y'<|.int p,y'<|.lst<|(b::bs).map tI,y'<|tI b,?_];have l:dM p (PS,j)=(PS.map (λq=>(q.1,bU q.2 p b))++[(p,b)],j.map λr=>bU r p b):=by unfold dM;rw[show (PS,j).2=j from rfl,hv]
    rw[e1,Pm,l];rfl)
 obtain⟨ρ1,s,x5,x6,v,rfl⟩:=c;have Q:(bu 0 m).length=m:=by simp[bu]
 rw[Q]at s;have PN:=sq m<|W9 _;have st:=PN.st;have W:(bP a m).2.length<=16:=by rw[PN.ln];exact l0
 refine#[?_,PN];generalize bP a m=S at *;obtain⟨PS,j⟩:=S;dsimp only at st W PN;have X:cg (ay fs<|N-1) Ad [y' (D),y' (.int m),y' (tI r),y' (.lst<|j.map tI),y' (.lst<|PS.map pD),x5,x6,v] B'= .ok ((j.map λq=> !(gI q m==0)).any id,B'):=by
  have u:az (aF (.nm 1) (aZ (ay fs<|N-1) .nil) (aX (ay fs<|N-1)<|.cmp .NotEq (.idx (.var 1)<|.var 2)<|.con<|.int 0) [B',B',y' (.int m)]) (j.map tI) B'= .ok (j.map λq=>.bl<|!(gI q m==0),B'):=aR λq K=>by have hi:=gJ (p:=m) (by rw[st.len q K];lia);exact aE rfl (by simp only[RX,hi]) rfl
  refine mC ?_;rw[cm,aJ rfl (by rw[Xd];lia) rfl u,R.ao];have e:(j.map λq=>Dt.bl<|!(gI q m==0))=(j.map λq=> !(gI q m==0)).map Dt.bl:=by rw[Zc];rfl
  rw[e,l8];rfl
 have body:∀{x:R (Dt×Sx)},fin (bf (ay fs<|N-1) (.cons (.ifs Ad (.cons (.ret<|.con .bj) .nil) .nil)<|.cons (.ret<|.var 4) .nil) [y' (D),y' (.int m),y' (tI r),y' (.lst<|j.map tI),y' (.lst<|PS.map pD),x5,x6,v] B')=x->ay fs N is [D,.int m,tI r] B'=x:=λ {x} h=>by refine aO A ⋯ rfl ?_;exact ax n rfl (ax rfl rfl<|bW (eN rfl ⋯) rfl s h)
 have Pp:rN m j=(j.map λq=> !(gI q m==0)).any id:=rfl;cases L:((j.map λq=> !(gI q m==0)).any id) with
 |true=>rw[L]at X Pp;dsimp only;rw[Pp,aaf rfl];exact body<|gF X<|aC rfl
 |false=>rw[L]at X Pp;dsimp only;rw[Pp,aae (by simp)];exact body<|cD X<|aC rfl
variable{fs:List Fn}
def ff(r:List Int):Int:=de<|r.map λx=>(x.natAbs:Int)
theorem A8(s f)(t g)(h:s=0):mI s f t g=1:=by unfold mI;rw[aaf h]
theorem LL(hf:fs[ig]?=y' #[4,7,J',Dj])(t:1<=N)(O:bL D M){m s f:Nat}(E:1<=m)(F:s≠0->M≠[])(b:s≠0->r≠[])(c:M.length<=16)(w:r.length<=16)(a:∀q∈M,q.length=m)(v:m<=4)(u:∀q∈M,∀x∈q,x.natAbs<=3)(y:∀x∈r,x.natAbs<=20)(l:s<=4)(WL:f<=4):
  ay fs N ig [D,tI r,.int s,.int f] B'= .ok (.int (mI s f (gv M) (ff r)),B'):=by
 have H:lim=1000000:=rfl;by_cases h0:s=0
 ·subst h0;rw[A8 _ _ _ _ rfl];refine aO hf t rfl ?_;exact gF rfl (aC rfl)
 have F:=F h0;have b:=b h0
 let A:=M.flatMap λq=>q.map λx=>(x.natAbs:Int)
 have P:A≠[]:=by obtain⟨q,K⟩:=YO M F;have W:=a q K;obtain⟨x,U⟩:=YO q (by intro z;rw[z]at W;simp at W;lia);intro z;have:(x.natAbs:Int)∈A:=Zh.mpr #[q,K,XD.mpr #[x,U,rfl]];rw[z]at this;cases this
 let G:=r.map λx=>(x.natAbs:Int)
 have o:G≠[]:=λz=>b (List.map_eq_nil_iff.mp z)
 have p:=cA A P;have L:=cA G o;have B:0<=de A/\de A<=3:=by
  obtain⟨q,K,h⟩:=Zh.mp p.1;obtain⟨x,U,e⟩:=XD.mp h;have:=u q K x U
  lia
 have Q:0<=de G/\de G<=20:=by
  obtain⟨x,U,e⟩:=XD.mp L.1;have:=y x U
  lia
 have hT:ev (ay fs (N-1)) Ac [y' (D),y' (tI r),y' (.int s),y' (.int f),B',B',B'] B'= .ok (.int (de A),B'):=by
  have J:az (aF (.nm 1) (aZ (ay fs (N-1)) .nil) (me (ay fs (N-1)) (M.map tI).length (.seq (.var 1)) (.nm 2) .nil (.bi .abs (.cons (.var 2) .nil))) [B',B',B']) (M.map tI) B'= .ok (M.flatMap λq=>q.map λx=>.int x.natAbs,B'):=bV λq K=>by have W:=a q K;refine CD rfl rfl ?_ rfl (bH λx U=>aE rfl (by simp only[RX,pU]) rfl);rw[Xd,Xd];exact Xf (ZQ c (by lia:q.length<=4)) (by decide)
  unfold Ac;rw[cm,mD (fN rfl O.it) (by rw[Xd];lia) rfl J,R.ao];have e:(M.flatMap λq=>q.map λx=>Dt.int x.natAbs)=A.map Dt.int:=by show _=(M.flatMap _).map Dt.int;rw[Zb];congr 1;funext q;rw[Zc];rfl
  rw[e,pW P];rfl
 have hG:ev (ay fs (N-1)) Ab [y' (D),y' (tI r),y' (.int s),y' (.int f),y' (.int (de A)),B',B'] B'= .ok (.int (de G),B'):=by
  have J:az (aF (.nm 1) (aZ (ay fs (N-1)) .nil) (aX (ay fs (N-1)) (.bi .abs (.cons (.var 1) .nil))) [B',B']) (r.map Dt.int) B'= .ok (r.map λx=>.int x.natAbs,B'):=bH λx U=>aE rfl (by simp only[RX,pU]) rfl
  unfold Ab;rw[cm,aJ rfl (by rw[Xd];lia) rfl J,R.ao];have e:(r.map λx=>Dt.int x.natAbs)=G.map Dt.int:=by show _=(r.map _).map Dt.int;rw[Zc];rfl
  rw[e,pW o];rfl
 have Z:gv M=de A:=rfl;have X:ff r=de G:=rfl;rw[Z,X];generalize de A=top at hT hG B;generalize de G=goal at hG Q;have m1:=aU (i:=2) (j:=top) (.inl (by decide));have S:=aU (i:=4) (j:=top) (.inl (by decide));have g:=aU (i:=4*top) (j:=top) (.inr ⋯);have m4:=aU (i:=(f:Int)) (j:=top) (.inr ⋯);have hi:cq (.tup [.int 1,.int (2*top),.int (4*top*top),.int 0]) (.int ((s:Int)-1))= .ok (.int (([1,2*top,4*top*top,0]:List Int).getD (s-1) 0)):=by
  match s,h0,l with
  |1,_,_=>rfl
  |2,_,_=>rfl
  |3,_,_=>rfl
  |4,_,_=>rfl
 have ft:0<=(f:Int)*top/\(f:Int)*top<=3*f:=#[Yo ⋯ B.1,by have:=Ym B.2 (show (0:Int)<=f by lia);lia];have k:=λn=>aU (i:=n) (j:=goal+(f:Int)*top) (.inr ⋯)
 have I:((s:Int)==0)=J':=Z8.mpr ⋯;have Y:mI s f top goal=([1,2*top,4*top*top,0]:List Int).getD (s-1) 0*(goal+f*top):=by unfold mI;rw[aae h0]
 rw[Y];refine aO hf t rfl ?_;show fin (bf (ay fs (N-1)) Dj [y' (D),y' (tI r),y' (.int s),y' (.int f),B',B',B'] B')=_;refine cD (by simp only[RX,I]) (ax hT rfl (ax hG rfl (ax (d:=.tup [.int 1,.int (2*top),.int (4*top*top),.int 0]) (S1:=B') (by simp only[RX,m1,S,g]) rfl (aC ?_))));simp only[RX,hi,m4,k]
theorem OG(A:fs[iw]?=y' #[3,5,J',Do])(hN:1<=N){m g:Nat}(E:m<=4)(O:∀p∈FR,p<m)(t:(g+1)^FR.length<=900000):
  ay fs N iw [.int m,.lst (FR.map λ(p:Nat)=>Dt.int p),.int g] B'= .ok (lI<|f9 g FR [List.replicate m 0],B')/\(f9 g FR [List.replicate m 0]).length<=900000:=by
 have H:lim=1000000:=rfl;have c:=d5 (tg:=.nm 4) (body:=bf (ay fs<|N-1)<|.cons (.asg 3 FU) .nil) (ds:=FR.map λ(p:Nat)=>Dt.int p)
  (λpre ρ=>∃Q b,Q.length<=(g+1)^pre.length/\(∀q∈Q,q.length=m/\∀x∈q,(0:Int)<=x/\x<=(g:Int))/\(∀F,FR=FR.take pre.length++F->f9 g F Q=f9 g FR [List.replicate m 0])/\ρ=[y' (.int m),y' (.lst<|FR.map λ(p:Nat)=>Dt.int p),y' (.int g),y' (lI Q),b])
  #[[List.replicate m 0],B',by simp,λq K=>by rw[XC]at K;subst K;exact#[by simp,λx U=>by have:=YN U;lia],λF e=>by rw[Y2,ZE,Zl]at e;rw[<-e],rfl] (by
   rintro pre x o ρ e ⟨Q,b,W,L,y,rfl⟩;have U:x∈FR.map λ(p:Nat)=>Dt.int p:=by rw[e];simp
   obtain⟨p,B,rfl⟩:=XD.mp U;have WS:=O p B;have oE:pre.length+1<=FR.length:=by
    have:=aab List.length e;simp at this
    lia
   have M:=Xf (Nat.pow_le_pow_right ⋯ oE) t;have S:Q.length*(g+1)<=(g+1)^(pre.length+1):=by rw[Nat.pow_succ];exact ZR _ W
   have KO:Q.length<=Q.length*(g+1):=Nat.le_mul_of_pos_right _ ⋯;have J:az (aF (.nm 1) (aZ (ay fs<|N-1) .nil) (me (ay fs<|N-1) (Q.map tI).length (.rng1<|.bin .Add (.var 3)<|.con<|.int 1) (.nm 2) .nil<|.bin .Add (.bin .Add (.sliH (.var 1)<|.var 4)<|.tup<|.cons (.var 2) .nil)<|.sliL (.var 1)<|.bin .Add (.var 4)<|.con<|.int 1) [B',B',B',y' (.int g),y' (.int p)]) (Q.map tI) B'= .ok (Q.flatMap λq=>(List.range<|g+1).map λn=>tI<|q.set p n,B'):=bV λq K=>by
    have r:=(L q K).1;refine CD rfl (eN (n:=g+1) rfl ?_) ?_ rfl ?_
    ·have:g+1<=(g+1)^(pre.length+1):=by rw[Nat.pow_succ];exact ZJ _ (Nat.pow_pos ⋯)
     lia
    ·rw[Xd];simp only[bu,Xd,Y3]
     lia
    ·have er:bu 0 (g+1)=(List.range<|g+1).map λ(n:Nat)=>Dt.int n:=by unfold bu;exact Za λi _=>by rw[Yv]
     rw[er];refine aR λn I=>?_
     have v:eJ (tI q) B' (y' (p:Int))= .ok (tI<|q.take p):=by show R.ok (Dt.tup<|cutD (q.map Dt.int) B'<|y' (p:Int))=_;rw[AC _ (by rw[Xd];lia),<-List.map_take];rfl
     have X:eJ (tI q) (y'<|(p:Int)+1) B'= .ok (tI<|q.drop<|p+1):=by show R.ok (Dt.tup<|cutD (q.map Dt.int) (y' (((p+1:Nat)):Int)) B')=_;rw[AE _ (by rw[Xd];lia),<-List.map_drop];rfl
     have a1:kI .Add (tI<|q.take p) (.tup [.int n])= .ok (tI<|q.take p++[(n:Int)]):=by show aa (decide (((q.take p).map Dt.int).length+1<=lim)) (R.ok<|Dt.tup<|(q.take p).map Dt.int++[.int n])=_;rw[Xx (by rw[Xd,Y8];lia),guard_true];unfold tI;rw[XS];rfl
     have a2:kI .Add (tI<|q.take p++[(n:Int)]) (tI<|q.drop<|p+1)= .ok (tI<|q.set p n):=by show aa (decide (((q.take p++[(n:Int)]).map Dt.int).length+((q.drop<|p+1).map Dt.int).length<=lim)) (R.ok<|Dt.tup<|(q.take p++[(n:Int)]).map Dt.int++(q.drop<|p+1).map Dt.int)=_;rw[Xx (by simp only[Xd,Xk,Y8,Y1,Xm,Y2];lia),<-XS,Zv,aaf ⋯,Xi];rfl
     exact aE rfl (by simp only[RX,v,X,a1,a2]) rfl
   have w:=mD (cap:=[B',B',B',y' 2,y' 4]) (it:=.seq<|.var 3) (ρ:=[y' (.int m),y' (.lst<|FR.map λ(p:Nat)=>Dt.int p),y' (.int g),y' (lI Q),y' (.int p)]) rfl (by rw[Xd];lia) rfl J;have e2:(Q.flatMap λq=>(List.range<|g+1).map λn=>tI<|q.set p n)=(Q.flatMap λq=>(List.range<|g+1).map λn=>q.set p (n:Int)).map tI:=by rw[Zb];congr 1;funext q;rw[Zc];rfl
   rw[e2]at w;refine#[_,_,rfl,a6 w rfl rfl,Q.flatMap λq=>(List.range<|g+1).map λn=>q.set p (n:Int),y'<|.int p,?_,?_,?_,rfl]
   ·have:=se (f:=λq=>(List.range<|g+1).map λn=>q.set p (n:Int)) (k:=g+1) (l:=Q) λq _=>by simp
    rw[Xk,Y7]
    lia
   ·intro P a;obtain⟨q,K,h⟩:=Zh.mp a;obtain⟨n,I,rfl⟩:=XD.mp h;have I:=XU.mp I;refine#[by rw[Y6];exact(L q K).1,λx U=>?_];rcases List.mem_or_eq_of_mem_set U with U|U
    ·exact(L q K).2 x U
    ·lia
   ·intro F er;have z:FR[pre.length]?=y' p:=by
     have Z:=aab (λl=>l[pre.length]?) e;simp only[Xn,XQ (W9 _),ZT]at Z;cases gj:FR[pre.length]? with
     |none=>rw[gj]at Z;cases Z
     |some u=>
      rw[gj]at Z;have Z:=ZY Z;have Y:(u:Int)=p:=by injection Z
      exact aab y' ⋯
    rw[Xk,Y7]at er;have Y:FR=FR.take pre.length++p::F:=by rw[Zx,z,Xi]at er;exact er
    exact y (p::F) Y)
 obtain⟨ρ1,s,Q,b,W,L,y,rfl⟩:=c;rw[Xd]at W y;have j:=y [] (by simp);have j:Q=f9 g FR [List.replicate m 0]:=j;rw[<-j];refine#[aO A hN rfl ?_,⋯];show fin (bf (ay fs<|N-1) Do [y' (.int m),y' (.lst<|FR.map λ(p:Nat)=>Dt.int p),y' (.int g),B',B'] B')=_;have h0:=xE (m:=m) 0 ⋯;exact ax (by simp only[RX,h0];rfl) rfl<|bW rfl rfl s<|aC rfl
theorem Lw(B:fs[ip]?=y' #[2,2,J',vV])(A:fs[ic]?=y' #[2,7,J',Ha ip])(t:2<=N){k:List (Nat×List Int)}(E:m<=4)(st:xV m m k LS)(K:SR m q)(hs:∀x∈q,vB x):
  ay fs N ic [tI q,.lst (k.map pD)] B'= .ok (((cM q k q).elim .bj tI),B'):=by
 have c:=jo (tg:=.tp [3,4]) (body:=bf (ay fs (N-1)) (z9 ip)) (ds:=k.map pD)
  (λpre ρ=>∃w H b x5 x6,SR m w/\(∀F,k=k.take pre.length++F->cM q F w=cM q k q)/\ρ=[y' (tI q),y' (.lst (k.map pD)),y' (.lst (w.map Dt.int)),H,b,x5,x6]) (λd=>d= .bj/\cM q k q=B') #[q,B',B',B',B',K,λF e=>by rw[Y2,ZE,Zl]at e;rw[<-e],rfl] (by
   rintro pre x o ρ e ⟨w,H,b,x5,x6,hw,P,rfl⟩;obtain⟨z,u,rfl⟩:∃z,k[pre.length]?=y' z/\pD z=x:=by
    have Z:=aab (λl=>l[pre.length]?) e;simp only[Xn,XQ (W9 _),ZT]at Z;cases v:k[pre.length]? with
    |none=>rw[v]at Z;cases Z
    |some z=>rw[v]at Z;exact#[z,rfl,ZY Z]
   have g:=Zj u;have u4:k=k.take pre.length++z::k.drop (pre.length+1):=by
    have cO:=(W6.mp u).1
    conv=>lhs;rw[<-Zy pre.length k]
    rw[YJ cO,(W6.mp u).2]
   have KN:=P _ u4;have U0:∀F,k=k.take (pre.length+1)++F->F=k.drop (pre.length+1):=λF er=>by have:=aab (List.drop (pre.length+1)) er;rw[List.drop_append_of_le_length (by have cO:=(W6.mp u).1;rw[Y8];lia)]at this;rw[this,List.drop_take,ZT,ZE,Zl]
   obtain⟨O,X,I⟩:=st.pl z g;have Uk:z.2≠[]:=λh=>by rw[h]at X;simp at X
   obtain⟨l,y,ey⟩:∃l y,z.2=l++[y]:=(sU z.2).resolve_left Uk;have hi:cq (tI z.2) (.int (-1))= .ok (.int y):=by show zV (z.2.map Dt.int) (-1)=_;rw[ey,XS];unfold zV;have:uo (l.map Dt.int++[y].map Dt.int) (-1)=y' (.int y):=Mx.zW _ _;rw[this]
   have J:eJ (tI z.2) B' (y' (-1))= .ok (tI l):=by show R.ok (Dt.tup (cutD (z.2.map Dt.int) B' (y' (-1))))=_;rw[AD _ (by rw[Ne,List.map_eq_nil_iff];exact Uk),ey,XS];simp[tI]
   have W:l.length=m:=by rw[ey,Xk]at X;simpa using X
   have Re:=ES (N:=N-1) B ⋯ (a:=l) hs ⋯;have Q3:=gJ (l:=z.2) (p:=z.1) ⋯;have S:=Xf (st.pb z g _ (dD (by lia:z.1<z.2.length))) (uH E);have Pr:cG .dvm [.int (y-af l q),.int (gI z.2 z.1)]= .ok (.tup [.int ((y-af l q).fdiv (gI z.2 z.1)),.int ((y-af l q).fmod (gI z.2 z.1))]):=by show aa (decide (gI z.2 z.1≠0)&&decide ((gI z.2 z.1).natAbs.log2<9000)) _=_;rw[Xx I,Xx (yJ S I)];rfl
   have kM:=Int.mul_fdiv_add_fmod (y-af l q) (gI z.2 z.1);have L5:(y-af l q).natAbs<2^200:=by
    have Vj:=uH E;have b1:∀x∈z.2,x.natAbs<=kW 4:=λx U=>Xf (st.pb z g x U) Vj
    have b2:=qI (λx U=>b1 x (by rw[ey];exact Ze _ U)) λx U=>ZK (hs x U)
    have s:=b1 y (by rw[ey];simp);have b5:l.length*(kW 4*2^64)<=4*(kW 4*2^64):=ZR _ ⋯;have b6:=Int.natAbs_sub_le y (af l q);have b7:kW 4+4*(kW 4*2^64)<2^200:=by decide
    exact ZN (Xf b6 (Nat.add_le_add s (Xf b2 b5))) b7
   have Pt:fZ z.2 q=y-af l q:=by
    unfold fZ;rw[ey,jH y (by rw[W,K.1])]
    lia
   rw[cM,Pt]at KN;generalize KR:y-af l q=nm at Pr kM L5 KN;generalize nm.fdiv (gI z.2 z.1)=n at Pr kM KN;generalize nm.fmod (gI z.2 z.1)=F at Pr kM KN;have mJ:∀{ts:Ts}{r:RS},bf (ay fs (N-1)) ts [y' (tI q),y' (.lst (k.map pD)),y' (.lst (w.map Dt.int)),y' (.int z.1),y' (tI z.2),y' (.int n),y' (.int F)] B'=r->
     bf (ay fs (N-1)) (.cons (.asgT [5,6] (.bi .dvm (.cons (.bin .Sub (.idx (.var 4) (.neg (.con (.int 1)))) (.call ip (.cons (.sliH (.var 4) (.neg (.con (.int 1)))) (.cons (.var 0) .nil)) [])) (.cons (.idx (.var 4) (.var 3)) .nil)))) ts) [y' (tI q),y' (.lst (k.map pD)),y' (.lst (w.map Dt.int)),y' (.int z.1),y' (tI z.2),x5,x6] B'=r:=λ {ts r} h=>by
    refine nx ?_ h;have M:ev (ay fs (N-1)) (.bi .dvm (.cons (.bin .Sub (.idx (.var 4) (.neg (.con (.int 1)))) (.call ip (.cons (.sliH (.var 4) (.neg (.con (.int 1)))) (.cons (.var 0) .nil)) [])) (.cons (.idx (.var 4) (.var 3)) .nil))) [y' (tI q),y' (.lst (k.map pD)),y' (.lst (w.map Dt.int)),y' (.int z.1),y' (tI z.2),x5,x6] B'= .ok (.tup [.int n,.int F],B'):=by simp only[RX,hi,J,Re,Q3,KR,Pr]
    rw[tM,M];rfl
   refine#[[y' (tI q),y' (.lst (k.map pD)),y' (.lst (w.map Dt.int)),y' (.int z.1),y' (tI z.2),x5,x6],?_];by_cases L:(!(F==0))=G'\/n<0
   ·refine#[[y' (tI q),y' (.lst (k.map pD)),y' (.lst (w.map Dt.int)),y' (.int z.1),y' (tI z.2),y' (.int n),y' (.int F)],rfl,.inr #[.bj,mJ (ni ?_ (qF rfl)),rfl,by rw[<-KN,aaf L]]];simp only[RX];rcases L with h|h
    ·rw[h];rfl
    ·cases (!(F==0)) with
     |true=>rfl
     |false=>rw[aae (by simp),Xx h]
   ·have Z:(!(F==0))=J':=by cases h:(!(F==0))with|true=>exact absurd (.inl h) L|false=>rfl
    have Y:¬n<0:=λz=>L (.inr z)
    refine#[_,rfl,.inl #[mJ (iW (by simp only[RX,Z,Xt Y];rfl) (nx (wo (j:=z.1) rfl rfl rfl rfl ?_) rfl)),w.set z.1 n,y' (.int z.1),y' (tI z.2),y' (.int n),y' (.int F),#[by rw[Y6];exact hw.1,λx U=>?_],?_,?_]]
    ·unfold rA;rw[Xd,aaf ⋯,aaf ⋯];simp
    ·rcases List.mem_or_eq_of_mem_set U with U|U
     ·exact hw.2 x U
     ·subst U;refine#[⋯,ZN ?_ L5];have Q:F=0:=by simpa using Z
      have e:nm.natAbs=(gI z.2 z.1).natAbs*x.natAbs:=by rw[<-kM,Q,Int.add_zero,Yq]
      rw[e];exact ZJ _ (Int.natAbs_pos.mpr I)
    ·intro rs er;rw[Xk,Y7]at er;rw[U0 rs er,<-KN,aae L]
    ·rw[List.map_set];rfl)
 have body:∀{x:R (Dt×Sx)},fin (bf (ay fs (N-1)) (.cons (.fr (.tp [3,4]) (.seq (.var 1)) (z9 ip)) (.cons (.ret (.bi .tuple (.cons (.mvr 2) .nil))) .nil)) [y' (tI q),y' (.lst (k.map pD)),y' (.lst (q.map Dt.int)),B',B',B',B'] B')=x->ay fs N ic [tI q,.lst (k.map pD)] B'=x:=λ {x} h=>by refine aO A ⋯ rfl ?_;exact du rfl rfl h
 rcases c with ⟨i,Z,w,H,b,x5,x6,hw,P,rfl⟩|⟨d,i,Z,rfl,P⟩
 ·have:=P [] (by simp);rw[<-this];exact body (bW rfl rfl Z (aC rfl))
 ·rw[P];refine body (hJ (ρ1:=i) ?_);rw[kr];exact Z
theorem OC(A:fs[iu]?=y' #[2,4,J',Dm])(t:1<=N)(a b):ay fs N iu [tI a,tI b] B'= .ok (.bl<|dG a b,B'):=by
 have c:=jo (tg:=.tp [2,3]) (body:=bf (ay fs<|N-1)<|.cons (.ifs (.cmp .Gt (.var 2)<|.var 3) (.cons (.ret<|.con<|.bl J') .nil) .nil) .nil) (ds:=dH (a.map Dt.int)<|b.map Dt.int)
  (λpre ρ=>(∀q∈(a.zip b).take pre.length,q.1<=q.2)/\∃x y,ρ=[y' (tI a),y' (tI b),x,y]) (λd=>d= .bl J'/\dG a b=J') #[by simp,B',B',rfl] (by
   rintro pre x o ρ e ⟨u,U,H,rfl⟩;rw[aY]at e;obtain⟨q,k,rfl⟩:∃q,(a.zip b)[pre.length]?=y' q/\ .tup [.int q.1,.int q.2]=x:=by
    have Z:=aab (λl=>l[pre.length]?) e;simp only[Xn,XQ (W9 _),ZT]at Z;cases v:(a.zip b)[pre.length]? with
    |none=>rw[v]at Z;cases Z
    |some z=>rw[v]at Z;exact#[z,rfl,ZY Z]
   refine#[_,[y' (tI a),y' (tI b),y' (.int q.1),y' (.int q.2)],rfl,?_];by_cases h:q.2<q.1
   ·exact .inr #[_,ni (S1:=B') (by simp only[RX,Xx h])<|qF rfl,rfl,by unfold dG;rw[List.all_eq_false];exact#[q,Zj k,by simp;omega]]
   ·refine .inl #[iW (by simp only[RX,Xt h]) rfl,λz g=>?_,_,_,rfl];rw[Xk,Y7,Zx,k]at g;rcases Xq.mp g with g|g
    ·exact u z g
    ·have:z=q:=by simpa using g
     subst this;omega)
 have it:dq (ay fs<|N-1) (.zip (.var 0)<|.var 1) [y' (tI a),y' (tI b),B',B'] B'= .ok (dH (a.map Dt.int)<|b.map Dt.int,B'):=d8 rfl rfl rfl rfl;rcases c with ⟨i,Z,u,x,y,rfl⟩|⟨d,i,Z,rfl,J⟩
 ·have:dG a b=G':=by unfold dG;rw[XF];intro q K;refine Xx<|u q ?_;rw[aY,Xd,Zz];exact K
  rw[this];exact aO A t rfl<|bW it rfl Z<|aC rfl
 ·rw[J];refine aO A t rfl<|hJ (ρ1:=i) ?_;rw[kr];exact(aab (R.bind · _) it).trans Z
theorem Np(J:fs[iu]?=y' #[2,4,J',Dm])(A:fs[io]?=y' #[2,3,J',Hc iu])(t:2<=N)(a)(M):ay fs N io [tI a,lI M] B'= .ok (.bl<|ei a M,B'):=by
 have c:=jo (tg:=.nm 2) (body:=bf (ay fs<|N-1)<|.cons (.ifs (.call iu (.cons (.var 2)<|.cons (.var 0) .nil) []) (.cons (.ret<|.con<|.bl G') .nil) .nil) .nil) (ds:=M.map tI)
  (λpre ρ=>(∀q∈M.take pre.length,dG q a=J')/\∃x,ρ=[y' (tI a),y' (lI M),x]) (λd=>d= .bl G'/\ei a M=G') #[by simp,B',rfl] (by
   rintro pre x o ρ e ⟨u,U,rfl⟩;obtain⟨q,k,rfl⟩:∃q,M[pre.length]?=y' q/\tI q=x:=by
    have Z:=aab (λl=>l[pre.length]?) e;simp only[Xn,XQ (W9 _),ZT]at Z;cases v:M[pre.length]? with
    |none=>rw[v]at Z;cases Z
    |some z=>rw[v]at Z;exact#[z,rfl,ZY Z]
   refine#[_,[y' (tI a),y' (lI M),y' (tI q)],rfl,?_];have hv:=OC J (N:=N-1) ⋯ q a;cases K:dG q a with
   |true=>rw[K]at hv;exact .inr #[_,ni (S1:=B') (by simp only[RX,hv])<|qF rfl,rfl,by unfold ei;rw[XH];exact#[q,Zj k,K]]
   |false=>
    rw[K]at hv;refine .inl #[iW (by simp only[RX,hv]) rfl,λz g=>?_,_,rfl];rw[Xk,Y7,Zx,k]at g;rcases Xq.mp g with g|g
    ·exact u z g
    ·have:z=q:=by simpa using g
     subst this;exact K)
 rcases c with ⟨i,Z,u,x,rfl⟩|⟨d,i,Z,rfl,J⟩
 ·have:ei a M=J':=by unfold ei;rw[YE];intro q K;rw[u q (by rw[Xd,Zz];exact K)];exact X7
  rw[this];exact aO A ⋯ rfl (bW rfl rfl Z<|aC rfl)
 ·rw[J];refine aO A ⋯ rfl (hJ (ρ1:=i) ?_);rw[kr];exact Z
variable{fs:List Fn}
structure jR(m:Nat)(M:List (List Int))(r:List Int):Prop where
 m1:1<=m
 m4:m<=4
 ln:M.length<=16
 rl:r.length=M.length
 wd:∀q∈M,q.length=m
 bd:∀q∈M,∀x∈q,x.natAbs<=3
 rb:∀x∈r,x.natAbs<=20
def cv(m:Nat)(M:List (List Int))(r:List Int):List (Nat×List Int):=(bP (rowsOf M r) m).1
def jf(m:Nat)(M:List (List Int))(r:List Int):Int:=mI (cv m M r).length (bN m<|cv m M r).length (gv M)<|ff r
def iJ(m:Nat)(M:List (List Int))(r:List Int):List (List Int):=if rN m (bP (rowsOf M r) m).2=G' then[] else zb m (jf m M r).toNat (cv m M r)
theorem uV(l:s<=4)(S:0<=t)(b:t<=3)(a:0<=g)(i:g<=20):0<=mI s f t g/\(mI s f t g).toNat<=gB s f:=by
 have h:0<=(f:Int)*t/\(f:Int)*t<=3*f:=#[Yo ⋯ S,by have:=Ym b (show (0:Int)<=f by lia);lia];have U:g+(f:Int)*t<=20+3*f:=⋯
 have c:∀n k:Int,n<=k->0<=k->0<=n->0<=n*(g+(f:Int)*t)/\n*(g+(f:Int)*t)<=k*(20+3*f):=λn k P Z Y=>#[Yo Y ⋯,Int.mul_le_mul P U ⋯ Z]
 match s,l with
 |0,_=>exact#[show (0:Int)<=1 by decide,W9 1]
 |1,_=>
  show 0<=1*(g+(f:Int)*t)/\(1*(g+(f:Int)*t)).toNat<=20+3*f
  lia
 |2,_=>
  have:=c (2*t) 6 ⋯ ⋯ ⋯;show 0<=2*t*(g+(f:Int)*t)/\(2*t*(g+(f:Int)*t)).toNat<=6*(20+3*f)
  lia
 |3,_=>
  have q:0<=t*t/\t*t<=9:=#[Yo S S,by have:=Int.mul_le_mul b b S (by decide:(0:Int)<=3);lia];have e3:4*t*t=4*(t*t):=Yk ..;have:=c (4*t*t) 36 ⋯ ⋯ ⋯;show 0<=4*t*t*(g+(f:Int)*t)/\(4*t*t*(g+(f:Int)*t)).toNat<=36*(20+3*f)
  lia
 |4,_=>show 0<=(0:Int)*(g+(f:Int)*t)/\((0:Int)*(g+(f:Int)*t)).toNat<=0;rw[Yw];exact#[Yi _,W9 _]
theorem vG(M):0<=gv M:=by
 unfold gv;by_cases e:G6 M=[]
 ·rw[e];exact Yi 0
 ·obtain⟨q,K,y⟩:=Zh.mp (cA _ e).1;obtain⟨x,U,ex⟩:=XD.mp y;rw[<-ex]
  lia
theorem hZ(h:∀x∈r,x.natAbs<=20):0<=ff r/\ff r<=20:=by
 unfold ff;by_cases e:(r.map λx=>(x.natAbs:Int))=[]
 ·rw[e];exact#[Yi 0,by decide]
 ·obtain⟨x,U,ex⟩:=XD.mp (cA _ e).1;rw[<-ex];have:=h x U
  lia
section
variable{ip il is ig iw ic io:Nat}(H:zO fs ip il is ig iw ic io)
include H
theorem Of(hD:bL D M)(hN:4<=N)(E:jR m M r):ay fs N io [D,.int m,tI r] B'= .ok (lI<|iJ m M r,B')/\(iJ m M r).length<=900000:=by
 have cN:lim=1000000:=rfl;obtain⟨h,sq⟩:=N5 H.l H.s (N:=N-1) ⋯ hD E.m4 E.ln (by rw[E.rl];exact E.ln) E.wd E.bd E.rb;have st:=sq.st;cases S:rN m (bP (rowsOf M r) m).2 with
 |true=>
  rw[S,aaf rfl]at h;have e:iJ m M r=[]:=by unfold iJ;rw[S,aaf rfl]
  rw[e];refine#[aO H.o ⋯ rfl ?_,by simp];show fin (bf (ay fs<|N-1) (Dl is ig iw ic) [y' D,y' (.int m),y' (tI r),B',B',B',B',B'] B')=_;exact ax (d:=.bj) (S1:=B') (by simp only[RX,h]) rfl<|gF rfl<|aC rfl
 |false=>
 rw[S,aae (by simp)]at h;have eV:iJ m M r=zb m (jf m M r).toNat (cv m M r):=by unfold iJ;rw[S,aae (by simp)]
 have W:jf m M r=mI (cv m M r).length (bN m<|cv m M r).length (gv M) (ff r):=rfl;have ep:cv m M r=(bP (rowsOf M r) m).1:=rfl;rw[eV,ep];rw[ep]at W;have F:(bP (rowsOf M r) m).1≠[]->M≠[]:=λo e=>by
  obtain⟨z,hz⟩:=YO _ o;have e0:∀p,bP (rowsOf [] r) p=([],[]):=λp=>by
   induction p with
   |zero=>rfl
   |succ p O=>unfold bP;rw[O];rfl
  rw[e,e0 m]at hz;cases hz
 generalize (bP (rowsOf M r) m).1=PS at *;generalize (bP (rowsOf M r) m).2=LS at *;have jZ:∀p∈PS.map (·.1),p<m:=λp B=>by obtain⟨q,K,rfl⟩:=XD.mp B;exact(st.pl q K).1
 have Gh:=sk st.nd jZ;rw[Xd]at Gh
 let FR:=(List.range m).filter λp=> !decide (p∈PS.map (·.1))
 have h4:ev (ay fs<|N-1) (.comp [B',B',B'] (.seq<|.var 3) (.tp [1,2]) .nil<|.var 1) [y' D,y' (.int m),y' (tI r),y' (.lst<|PS.map pD),B',B',B',B'] B'= .ok (.lst ((PS.map (·.1)).map λ(p:Nat)=>Dt.int p),B'):=by
  have J:az (aF (.tp [1,2]) (aZ (ay fs<|N-1) .nil) (aX (ay fs<|N-1)<|.var 1) [B',B',B']) (PS.map pD) B'= .ok (PS.map λq=>.int q.1,B'):=aR λq K=>aE rfl rfl rfl
  have e:(PS.map λq=>Dt.int (q.1:Int))=(PS.map (·.1)).map λ(p:Nat)=>Dt.int p:=by rw[Zc];rfl
  rw[e]at J;exact aJ rfl (by rw[Xd];have:=E.m4;lia) rfl J
 have h5:ev (ay fs<|N-1) (.comp [B',B',y' 4] (.rng1<|.var 1) (.nm 1) (.cons (.cmp .NotIn (.var 1)<|.var 2) .nil)<|.var 1) [y' D,y' (.int m),y' (tI r),y' (.lst<|PS.map pD),y' (.lst ((PS.map (·.1)).map λ(p:Nat)=>Dt.int p)),B',B',B'] B'= .ok (.lst<|FR.map λ(p:Nat)=>Dt.int p,B'):=by
  have er:bu 0 m=(List.range m).map λ(n:Nat)=>Dt.int n:=by unfold bu;exact Za λi _=>by rw[Yv]
  have J:az (aF (.nm 1) (aZ (ay fs<|N-1)<|.cons (.cmp .NotIn (.var 1)<|.var 2) .nil) (aX (ay fs<|N-1)<|.var 1) [B',B',y' (.lst ((PS.map (·.1)).map λ(p:Nat)=>Dt.int p))]) (bu 0 m) B'= .ok ((List.range m).flatMap λp=>if (!decide (p∈PS.map (·.1)))=G' then[Dt.int p] else[],B'):=by
   rw[er];refine bV λp B=>?_
   have w:=D4 p (PS.map (·.1));exact turn_if rfl (by rw[tE];show (ck .NotIn (.int p) _).bind _=_;rw[w];rfl) λ_=>#[rfl,rfl]
  rw[fL]at J;exact aJ (eN rfl<|by have:=E.m4;lia) (by simp[bu];have:=E.m4;lia) rfl J
 have v:FR.length+PS.length=m:=Gh;have m4:=E.m4;have o:PS.length≠0->M≠[]:=λz=>F λe=>z (by rw[e];rfl)
 have Z:=LL H.g (N:=N-1) ⋯ hD E.m1 o (λz e=>o z<|YM<|by rw[<-E.rl,e];rfl) E.ln (by rw[E.rl];exact E.ln) E.wd E.m4 E.bd E.rb (f:=FR.length) ⋯ ⋯;have j:=uV (s:=PS.length) (f:=FR.length) ⋯ (vG M) (vF (λq K z hz=>by have:=E.bd q K z hz;lia)<|by decide) (hZ E.rb).1 (hZ E.rb).2;have UG:bN m PS=FR:=rfl;rw[UG]at W;obtain⟨g,Y⟩:∃g:Nat,(jf m M r).toNat=g:=#[_,rfl];have UN:mI PS.length FR.length (gv M) (ff r)=(g:Int):=by rw[<-W];rw[<-W]at j;lia
 have t:ay fs (N-1) ig [D,tI r,.int PS.length,.int FR.length] B'= .ok (.int g,B'):=by rw[<-UN];exact Z
 have Tw:g<=gB PS.length FR.length:=by rw[<-Y,W];exact j.2
 rw[Y];have KS:=Ny ⋯ E.m4 Tw;obtain⟨K,u⟩:=OG H.w (N:=N-1) ⋯ (FR:=FR) E.m4 (λp B=>XU.mp (Zf.mp B).1) KS;have L:∀q∈f9 g FR [List.replicate m 0],q.length=m/\∀x∈q,(0:Int)<=x/\x<=(g:Int):=λq a=>by
  obtain⟨q0,k0,k1,k2,k3⟩:=gO.mp a;rw[XC]at k0;subst k0;rw[Y5]at k1 k2 k3;refine#[k1,λx U=>?_];obtain⟨i,hi,rfl⟩:=eK U;by_cases A:i∈FR
  ·obtain⟨n,I,e⟩:=k3 i A ⋯
   lia
  ·rw[k2 i ⋯ A,cn]
   lia
 have eL:zb m g PS=(f9 g FR [List.replicate m 0]).filterMap λq=>cM q PS q:=rfl
 rw[eL];generalize f9 g FR [List.replicate m 0]=Q at K u L;have Wy:g<2^64:=ZN Tw (by
  have hs:PS.length<=4:=⋯
  have A:FR.length<=4:=⋯
  generalize PS.length=s at hs;generalize FR.length=f at A
  match s,hs with
  |0,_=>simp only[gB];lia
  |1,_=>simp only[gB];lia
  |2,_=>simp only[gB];lia
  |3,_=>simp only[gB];lia
  |4,_=>simp only[gB];lia)
 let c:List Int->Dt:=λq=>(cM q PS q).elim .bj tI
 have S5:∀q∈Q,ay fs (N-1) ic [tI q,.lst (PS.map pD)] B'= .ok (c q,B')/\(c q= .bj\/∃P,c q=tI P):=λq a=>by
  have k:=L q a;refine#[Lw H.p H.c ⋯ E.m4 st #[k.1,λx U=>#[(k.2 x U).1,by have:=k.2 x U;lia]] (λx U=>by have:=k.2 x U;show x.natAbs<_;lia),?_];show (cM q PS q).elim Dt.bj tI= .bj\/∃P,(cM q PS q).elim Dt.bj tI=tI P;cases cM q PS q with
  |none=>exact .inl rfl
  |some x=>exact .inr #[x,rfl]
 have Ma:ev (ay fs<|N-1) (.call iw (.cons (.var 1)<|.cons (.var 5)<|.cons (.var 6) .nil) []) [y' D,y' (.int m),y' (tI r),y' (.lst<|PS.map pD),y' (.lst ((PS.map (·.1)).map λp=>Dt.int p)),y' (.lst<|FR.map λ(p:Nat)=>Dt.int p),y' (.int g),B'] B'= .ok (lI Q,B'):=by simp only[RX,K]
 have X:ev (ay fs<|N-1) (.comp [B',B',y' 3] (.seq<|.call iw (.cons (.var 1)<|.cons (.var 5)<|.cons (.var 6) .nil) []) (.nm 1) .nil<|.call ic (.cons (.var 1)<|.cons (.var 2) .nil) []) [y' D,y' (.int m),y' (tI r),y' (.lst<|PS.map pD),y' (.lst ((PS.map (·.1)).map λp=>Dt.int p)),y' (.lst<|FR.map λ(p:Nat)=>Dt.int p),y' (.int g),B'] B'= .ok (.lst<|Q.map c,B'):=by
  have J:az (aF (.nm 1) (aZ (ay fs<|N-1) .nil) (aX (ay fs<|N-1)<|.call ic (.cons (.var 1)<|.cons (.var 2) .nil) []) [B',B',y' (.lst<|PS.map pD)]) (Q.map tI) B'= .ok (Q.map c,B'):=aR λq a=>by
   obtain⟨k1,k2⟩:=S5 q a;exact aE rfl (by simp only[RX,k1]) (by
    unfold cJ;rcases k2 with e|⟨P,e⟩
    ·rw[e];exact Yb _
    ·rw[e,qE,Yb])
  exact aJ (fN Ma rfl) (by rw[Xd];lia) rfl J
 let keep:List (List Int):=Q.filterMap λq=>cM q PS q
 have h8:ev (ay fs<|N-1) (.comp [B',B'] (.seq<|.var 7) (.nm 1) (.cons (.cmp .IsNot (.var 1)<|.con .bj) .nil)<|.var 1) [y' D,y' (.int m),y' (tI r),y' (.lst<|PS.map pD),y' (.lst ((PS.map (·.1)).map λp=>Dt.int p)),y' (.lst<|FR.map λ(p:Nat)=>Dt.int p),y' (.int g),y' (.lst<|Q.map c)] B'= .ok (lI keep,B'):=by
  have J:az (aF (.nm 1) (aZ (ay fs<|N-1)<|.cons (.cmp .IsNot (.var 1)<|.con .bj) .nil) (aX (ay fs<|N-1)<|.var 1) [B',B']) (Q.map c) B'= .ok (Q.flatMap λq=>(match c q with|.tup ds=>[Dt.tup ds]|_=>[]),B'):=bV λq a=>by
   rcases (S5 q a).2 with e|⟨P,e⟩
   ·rw[e];exact turn_if (b:=J') (y:=.bj) rfl rfl λz=>by cases z
   ·rw[e];exact turn_if (b:=G') (y:=tI P) rfl rfl λz=>#[rfl,by unfold cJ;rw[qE,Yb]]
  have e:(Q.flatMap λq=>(match c q with|.tup ds=>[Dt.tup ds]|_=>[]))=keep.map tI:=by
   have:∀l:List (List Int),(l.flatMap λq=>(match c q with|.tup ds=>[Dt.tup ds]|_=>[]))=(l.filterMap λq=>cM q PS q).map tI:=by
    intro l
    induction l with
    |nil=>rfl
    |cons q l O=>
     rw[YR,YQ,O];show (match (cM q PS q).elim Dt.bj tI with|.tup ds=>[Dt.tup ds]|_=>[])++_=_;cases cM q PS q with
     |none=>rfl
     |some x=>rfl
   exact this Q
  rw[e]at J;exact aJ rfl (by rw[Xd];lia) rfl J
 refine#[aO H.o ⋯ rfl ?_,Xf (List.length_filterMap_le _ _) u];show fin (bf (ay fs<|N-1) (Dl is ig iw ic) [y' D,y' (.int m),y' (tI r),B',B',B',B',B'] B')=_;refine ax (S1:=B') (by simp only[RX,h]) rfl<|cD rfl<|ax h4 rfl<|ax h5 rfl<|ax ?_ rfl<|ax X rfl<|aC h8;have l4:cG .len [.lst ((PS.map (·.1)).map λ(p:Nat)=>Dt.int p)]= .ok (.int PS.length):=by show R.ok (Dt.int (((PS.map (·.1)).map λ(p:Nat)=>Dt.int p).length:Nat))=_;rw[Xd,Xd]
 have l5:cG .len [.lst (FR.map λ(p:Nat)=>Dt.int p)]= .ok (.int FR.length):=by show R.ok (Dt.int ((FR.map λ(p:Nat)=>Dt.int p).length:Nat))=_;rw[Xd]
 simp only[RX,l4,l5,t]
end
variable{fs:List Fn}
theorem J7(E:1<=m)(W:Q.length<=900000)(h:∀q∈Q,q.length=m):cG .sorted [lI Q]= .ok (lI<|jK Q):=by
 have hd:∀q:List Int,Mx.D.gh (q.map Mx.D.int)=0:=λq=>by
  induction q with
  |nil=>rfl
  |cons x q O=>simp[Mx.D.gh,Mx.D.dep,O]
 have a:kL (Q.map dI)=G':=by
  refine Hv .ti (by rw[Xd];lia) (v9 λd Y=>?_) (λd Y=>?_) λd Y e he=>?_
  ·obtain⟨q,_,rfl⟩:=XD.mp Y;simp[dI,Mx.D.dep,hd]
  ·obtain⟨q,K,rfl⟩:=XD.mp Y;have:=h q K;cases q with
   |nil=>simp at this;lia
   |cons x q=>rfl
  ·obtain⟨q,_,rfl⟩:=XD.mp Y;obtain⟨A,_,rfl⟩:=XD.mp he;simp only[dI];exact wQ q A
 have pm:=i3<|Q.map dI;unfold jK;rw[Gu,(xX a).1,Gu,Zc];congr 3;have:∀l:List Mx.D,(∀y∈l,y∈Q.map dI)->l.map (dI ∘ OB)=l:=by
  intro l
  induction l with
  |nil=>intro _;rfl
  |cons y l O=>intro h;obtain⟨q,_,rfl⟩:=XD.mp<|h y Xa;rw[XR,O λz g=>h z<|W7 _ g];simp only[Function.comp,nW]
 exact(this _ λy F=>pm.mem_iff.mp F).symm
theorem Fq(Q):(jK Q).length=Q.length:=by unfold jK;rw[Xd,(i3 _).length_eq,Xd]
def zeros(n:Nat):List Int:=List.replicate n 0
def aI(m:Nat)(M:List (List Int)):List (List Int):=aW (jK<|iJ m M<|zeros M.length) []
theorem jR.brk(E:jR m M r)(h:∀x∈r',x.natAbs<=20):Rx.brk M m r'=J':=by
 have Z:Dw M=J':=by
  unfold Dw;rw[YE];intro q K z;obtain⟨x,U,g⟩:=XH.mp z;have:=W5 g;have:=E.bd q K x U
  lia
 have Y:Dx r'=J':=by
  unfold Dx;rw[YE];intro x U z;have:=W5 z;have:=h x U
  lia
 unfold Rx.brk;rw[Z,Y,Xt (by have:=E.ln;lia),Xt (by have:=E.m4;lia)];rfl
theorem jR.Uc(E:jR m M r):xV m 0 [] (rowsOf M r):=by
 refine#[λq K=>?_,λq K x U=>?_,by simp,by simp,by simp,by simp,by simp]
 ·obtain⟨z,g,rfl⟩:=XD.mp K;rw[Xk,E.wd _ (Zn g).1];rfl
 ·obtain⟨z,g,rfl⟩:=XD.mp K;show x.natAbs<=20;rcases Xq.mp U with U|U
  ·have:=E.bd _ (Zn g).1 x U;lia
  ·rw[XC]at U;subst U;exact E.rb _ (Zn g).2
theorem jR.sq(E:jR m M r):Sq m m (rowsOf M r) (cv m M r) (bP (rowsOf M r) m).2:=Sq.all E.Uc m<|W9 _
theorem jR.Uz(E:jR m M r):0<=jf m M r:=by have h:=mG (p:=0) E.sq;exact(uV (by have:=E.m4;lia) (vG M) (vF (λq K z g=>by have:=E.bd q K z g;lia)<|by decide) (hZ E.rb).1 (hZ E.rb).2).1
theorem gN(E:jR m M r):x∈iJ m M r↔x.length=m/\(∀i,i<m->0<=gI x i)/\fH M r x/\∀i∈bN m (cv m M r),gI x i<=jf m M r:=by
 have L:=E.Uz;unfold iJ;cases S:rN m (bP (rowsOf M r) m).2 with
 |true=>
  rw[aaf rfl];constructor
  ·intro h;cases h
  ·rintro⟨Z,_,u,_⟩;have:=((E.sq.sol E.wd Z).mp u).1;rw[S]at this;cases this
 |false=>
  rw[aae (by simp),Ei E.sq];constructor
  ·rintro⟨Z,Y,u,Q⟩;exact#[Z,Y,(E.sq.sol E.wd Z).mpr #[S,u],λi hi=>by have:=Q i hi;lia]
  ·rintro⟨Z,Y,u,Q⟩;exact#[Z,Y,((E.sq.sol E.wd Z).mp u).2,λi hi=>by have:=Q i hi;lia]
theorem yq(n):ff (zeros n)=0:=by
 unfold ff;by_cases e:((zeros n).map λx=>(x.natAbs:Int))=[]
 ·rw[e];rfl
 ·obtain⟨x,U,ex⟩:=XD.mp (cA _ e).1;rw[<-ex,YN U];rfl
theorem fO(E:jR m M (zeros M.length)):
  (∀f∈aI m M,f.length=m/\(∀i,i<m->0<=gI f i)/\(∀q∈M,af q f=0)/\0<f.sum)/\(aI m M).Pairwise O8:=by
 refine#[λf A=>?_,jw (λq K=>((gN E).mp<|lU.mp K).1) (by simp) (vC _) (by simp) List.Pairwise.nil];rcases j5 A with h|⟨Z,Y⟩
 ·cases h
 ·obtain⟨k1,k2,k3,_⟩:=(gN E).mp<|lU.mp Z;exact#[k1,k2,dC.mp k3,Y]
def Es(l:List Int):List Int:=l.map λz=>0-z
theorem BB(l):(Es l).length=l.length:=by simp[Es]
theorem Na(l)(i):gI (Es l) i= - gI l i:=by
 unfold Es gI;rw[List.getD,Xn,List.getD];cases l[i]? with
 |none=>rfl
 |some z=>show 0-z= -z;lia
variable{fs:List Fn}
theorem vc(Q z F):aW (Q++z) F=aW z (aW Q F):=by
 induction Q generalizing F with
 |nil=>rfl
 |cons q Q O=>rw[YH,aW,aW,O]
theorem mW(Q F):(aW Q F).length<=Q.length+F.length:=by
 induction Q generalizing F with
 |nil=>simp[aW]
 |cons q Q O=>
  rw[aW,Xm];refine Xf (O _) ?_;split
  ·rw[Xk,Y7];lia
  ·lia
structure FH(fs:List Fn)(ip il is ig iw ic io ik iu iv ie:Nat):Prop where
 S:zO fs ip il is ig iw ic io
 k:fs[ik]?=y' #[3,3,J',Dg]
 u:fs[iu]?=y' #[2,4,J',Dm]
 v:fs[iv]?=y' #[2,3,J',Hc iu]
 e:fs[ie]?=y' #[2,4,J',Hb ik io iv]
section
variable{ip il is ig iw ic io ik iu iv ie:Nat}(H:FH fs ip il is ig iw ic io ik iu iv ie)
include H
theorem Gx(O:bL D M)(t:6<=N)(E:jR m M (zeros M.length)):ay fs N ie [D,.int m] B'= .ok (lI<|aI m M,B')/\(aI m M).length<=900000:=by
 have cN:lim=1000000:=rfl;have P:=F0 H.k (N:=N-1) ⋯ O (M:=M) (many:=m) (r:=[]) (by have:=E.ln;lia) (λq K=>by rw[E.wd q K];have:=E.m4;lia) (by simp) (E.brk (r':=[])<|by simp);have P:ay fs (N-1) ik [D,.int m,.tup []] B'= .ok (.bj,B'):=P;obtain⟨K,u⟩:=Of H.S (N:=N-1) O ⋯ E;have L:∀q∈iJ m M (zeros M.length),q.length=m:=λq h=>((gN E).mp h).1
 have hs:=J7 E.m1 u L;have ln:=O.ln;have b:=xE (m:=M.length) 0 (by have:=E.ln;lia);have l2:(jK<|iJ m M<|zeros M.length).length<=900000:=by rw[Fq];exact u
 have a:aI m M=aW (jK<|iJ m M<|zeros M.length) []:=rfl;rw[a];have K:ay fs (N-1) io [D,.int m,tI (List.replicate M.length 0)] B'= .ok (lI<|iJ m M<|zeros M.length,B'):=K;generalize iJ m M (zeros M.length)=Q at K hs l2 L;generalize jK Q=Q' at hs l2;have c:=d5 (S:=B') (tg:=.nm 3) (body:=bf (ay fs<|N-1)<|.cons (.ifs (.and (.cmp .Gt (.bi .sum<|.cons (.var 3) .nil)<|.con<|.int 0)<|.nt<|.call iv (.cons (.var 3)<|.cons (.mvr 2) .nil) []) (.cons (.app 2<|.var 3) .nil) .nil) .nil) (ds:=Q'.map tI) (ρ:=[y' D,y' (.int m),y' (lI []),B'])
  (λpre ρ=>∃x,ρ=[y' D,y' (.int m),y' (lI<|aW (Q'.take pre.length) []),x]) #[B',by rw[Y2,ZE];rfl] (by
   rintro pre x o ρ e ⟨x3,rfl⟩;obtain⟨q,k,rfl⟩:∃q,Q'[pre.length]?=y' q/\tI q=x:=by
    have Z:=aab (λl=>l[pre.length]?) e;simp only[Xn,XQ (W9 _),ZT]at Z;cases v:Q'[pre.length]? with
    |none=>rw[v]at Z;cases Z
    |some z=>rw[v]at Z;exact#[z,rfl,ZY Z]
   have e1:aW (Q'.take (pre++[tI q]).length) []=if (decide (0<q.sum)&& !ei q (aW (Q'.take pre.length) []))=G' then aW (Q'.take pre.length) []++[q] else aW (Q'.take pre.length) []:=by rw[Xk,Y7,Zx,k,vc];rfl
   have n:(aW (Q'.take pre.length) []).length<=900000:=by
    have:=mW (Q'.take pre.length) [];rw[Y8,Y2]at this
    lia
   have hv:=Np H.u H.v (N:=N-1) ⋯ q (aW (Q'.take pre.length) []);generalize aW (Q'.take pre.length) []=F at *;have g:=Fu q;by_cases h0:0<q.sum
   ·cases j:ei q F with
    |true=>rw[j]at hv e1;exact#[_,_,rfl,iW (S1:=B') (by simp only[RX,g,Xx h0,hv];rfl) rfl,y'<|tI q,by rw[e1,X9,X3,aae (by simp)];rfl]
    |false=>rw[j]at hv e1;refine#[_,_,rfl,ni (S1:=B') (by simp only[RX,g,Xx h0,hv];rfl)<|nk (d:=tI q) (S1:=B') rfl rfl rfl (by rw[Xd];lia) rfl,y'<|tI q,?_];rw[e1,Bool.not_false,X4,Xx h0,aaf rfl];unfold lI;rw[XS];rfl
   ·exact#[_,_,rfl,iW (S1:=B') (by simp only[RX,g,Xt h0];rfl) rfl,y'<|tI q,by rw[e1,Xt h0,Bool.false_and,aae (by simp)];rfl])
 obtain⟨ρ1,s,x3,rfl⟩:=c;rw[Xd,Zz]at s;have i:=mW Q' [];rw[Y2]at i;refine#[aO H.e ⋯ rfl ?_,⋯];show fin (bf (ay fs<|N-1) (Hb ik io iv) [y' (D),y' (.int m),B',B'] B')=_;refine dw (ρ1:=[y' (D),y' (.int m),B',B']) (S1:=B') (by rw[lQ];simp only[RX,P])<|du (S1:=B') rfl rfl<|bW (S1:=B') (fN (d:=lI Q') ?_ rfl) rfl s<|aC rfl;simp only[RX,ln,b,K,hs]
end
variable{fs:List Fn}
theorem zX{α:Type}{t:α->Dt}{L:List α}(e:L.map t=pre++x::post):∃q,L[pre.length]?=y' q/\t q=x:=by
 have Z:=aab (λl=>l[pre.length]?) e;simp only[Xn,XQ (W9 _),ZT]at Z;cases v:L[pre.length]? with
 |none=>rw[v]at Z;cases Z
 |some z=>rw[v]at Z;exact#[z,rfl,ZY Z]
theorem iF{α:Type}{L:List α}{q:α}(h:L[k]?=y' q):L.take (k+1)=L.take k++[q]:=by rw[Zx,h];rfl
theorem IH(l):cG .len [tI l]= .ok (.int l.length):=by show R.ok (Dt.int ((l.map Dt.int).length:Nat))=_;rw[Xd]
theorem qv(M):cG .len [lI M]= .ok (.int M.length):=(bL.lst M).ln
theorem mO{k:Nat}(h:M[k]?=y' q):cq (lI M) (.int k)= .ok (tI q):=(mM<|by rw[Xn,h];rfl).2
theorem A3(h:k<l.length):l[k]?=y' (gI l k):=by simp[gI,h]
def Li:Ts:=(.cons (.ret<|.and (.bi (.isi "int")<|.cons (.var 0) .nil)<|.nt<|.bi (.isi "bool")<|.cons (.var 0) .nil) .nil)
theorem Kq(A:fs[iw]?=y' #[1,1,J',Li])(t:1<=N)(i):ay fs N iw [.int i] B'= .ok (.bl G',B'):=by refine aO A t rfl ?_;exact aC rfl
def Af:Ts:=(.cons (.asg 2<|.con<|.int 0)<|.cons (.fr (.nm 3) (.rng1<|.bi .len<|.cons (.var 0) .nil)<|.cons (.asg 2<|.bin .Add (.var 2)<|.bin .Mult (.idx (.var 0)<|.var 3)<|.idx (.var 1)<|.var 3) .nil)<|.cons (.ret<|.var 2) .nil)
theorem px:∀{a b:List Int}{k:Nat},k<a.length->k<b.length->af (a.take<|k+1) b=af (a.take k) b+gI a k*gI b k
 |[],_,_,h,_=>by simp at h
 |_::_,[],_,_,h=>by simp at h
 |x::a,y::b,0,_,_=>by
  show x*y+af (a.take 0) b=0+x*y;rw[ZE,dX]
  lia
 |x::a,y::b,k+1,Z,Y=>by
  rw[ZD,ZD,aA,aA,px (by simpa using Z) (by simpa using Y),aB,aB]
  lia
theorem OE(A:fs[iw]?=y' #[2,4,J',Af])(t:1<=N){a b:List Int}(ha:∀x∈a,vB x)(W:a.length<=b.length)(g:a.length<=1000)(O:∀k,k<b.length->cq D (.int k)= .ok (.int<|gI b k)):ay fs N iw [tI a,D] B'= .ok (.int<|af a b,B'):=by
 have H:lim=1000000:=rfl;have c:=d5 (S:=B') (tg:=.nm 3) (body:=bf (ay fs<|N-1)<|.cons (.asg 2<|.bin .Add (.var 2)<|.bin .Mult (.idx (.var 0)<|.var 3)<|.idx (.var 1)<|.var 3) .nil) (ds:=bu 0 a.length)
  (λpre ρ=>∃x,ρ=[y' (tI a),y' D,y' (.int<|af (a.take pre.length) b),x]) #[B',rfl] (by
   rintro pre y o ρ e ⟨x,rfl⟩;obtain⟨Z,rfl⟩:=dY e;have e1:(pre++[Dt.int pre.length]).length=pre.length+1:=by simp
   generalize pre.length=k at *;have i1:=gJ Z;have i2:=O k ⋯;have m:=aU (j:=gI b k)<|.inl<|ha _<|dD Z;refine#[_,_,rfl,a6 (d:=.int<|af (a.take k) b+gI a k*gI b k) (by simp only[RX,i1,i2,m]) rfl rfl,y'<|.int k,?_];rw[e1,px Z ⋯];rfl)
 obtain⟨ρ1,s,x,rfl⟩:=c;have Q:(bu 0 a.length).length=a.length:=by simp[bu]
 rw[Q,Zz]at s;have ln:=IH a;refine aO A t rfl ?_;show fin (bf (ay fs<|N-1) Af [y' (tI a),y' D,B',B'] B')=_;exact ax rfl rfl<|bW (eN (by simp only[RX,ln]) ⋯) rfl s<|aC rfl
theorem Kp(A:fs[iw]?=y' #[2,4,J',Af])(t:1<=N)(m:∀x∈a,vB x)(W:a.length<=b.length)(g:a.length<=1000):ay fs N iw [tI a,tI b] B'= .ok (.int<|af a b,B'):=OE A t m W g λ_ h=>gJ h
def Lb(iw:Nat):Ts:=(.cons (.fr (.nm 3) (.rng1<|.bi .len<|.cons (.var 0) .nil)<|.cons (.ifs (.cmp .NotEq (.call iw (.cons (.idx (.var 0)<|.var 3)<|.cons (.var 1) .nil) [])<|.idx (.var 2)<|.var 3) (.cons (.ret<|.con<|.bl J') .nil) .nil) .nil)<|.cons (.ret<|.con<|.bl G') .nil)
def kz(M:List (List Int))(r x:List Int):Bool:=(M.zip r).all λq=>af q.1 x==q.2
theorem nL:kz M r x=G'↔fH M r x:=by unfold kz fH;rw[XF];exact#[λh q K=>by simpa using h q K,λh q K=>by simpa using h q K]
theorem IM(B:fs[iw]?=y' #[2,4,J',Af])(A:fs[is]?=y' #[3,4,J',Lb iw])(t:2<=N){r x:List Int}(O:∀k(h:k<r.length),cq D (.int k)= .ok (.int<|gI r k))(hr:r.length=M.length)(hM:M.length<=1000)(L:∀q∈M,∀z∈q,vB z)(E:m<=1000)(W:∀q∈M,q.length=m)(U:x.length=m):
  ay fs N is [lI M,tI x,D] B'= .ok (.bl<|kz M r x,B'):=by
 have H:lim=1000000:=rfl;have g:(M.zip r).length=M.length:=by rw[Y9];lia
 have c:=jo (tg:=.nm 3) (body:=bf (ay fs<|N-1)<|.cons (.ifs (.cmp .NotEq (.call iw (.cons (.idx (.var 0)<|.var 3)<|.cons (.var 1) .nil) [])<|.idx (.var 2)<|.var 3) (.cons (.ret<|.con<|.bl J') .nil) .nil) .nil)
  (λpre ρ=>(∀q∈(M.zip r).take pre.length,af q.1 x=q.2)/\∃y,ρ=[y' (lI M),y' (tI x),y' D,y]) (λd=>d= .bl J'/\kz M r x=J') #[by simp,B',rfl] (by
   rintro pre y o ρ e ⟨u,p,rfl⟩;obtain⟨Z,rfl⟩:=dY e;have e1:(pre++[Dt.int pre.length]).length=pre.length+1:=by simp
   generalize pre.length=k at *;obtain⟨q,K⟩:∃q,M[k]?=y' q:=#[M[k],Xs Z];have i1:=mO K;have i2:=O k ⋯;have a:=Zj K;have w:=Kp B (N:=N-1) ⋯ (b:=x) (L q a) (by rw[W q a,U];lia) (by rw[W q a];exact E);have j:(M.zip r)[k]?=y' (q,gI r k):=by rw[List.getElem?_zip_eq_some];exact#[K,A3 ⋯]
   refine#[_,[y' (lI M),y' (tI x),y' D,y' (.int k)],rfl,?_];by_cases h:af q x=gI r k
   ·refine .inl #[iW (S1:=B') (by simp only[RX,i1,i2,w,h];simp) rfl,λz g=>?_,_,rfl];rw[e1,iF j]at g;rcases Xq.mp g with g|g
    ·exact u z g
    ·rw[XC]at g;subst g;exact h
   ·have L:=Z8.mpr h;refine .inr #[_,ni (by simp only[RX,i1,i2,w,L,Bool.not_false])<|qF rfl,rfl,?_];unfold kz;rw[List.all_eq_false];exact#[_,Zj j,by simpa using h])
 have ln:=qv M;have it:dq (ay fs<|N-1) (.rng1<|.bi .len<|.cons (.var 0) .nil) [y' (lI M),y' (tI x),y' D,B'] B'= .ok (bu 0 M.length,B'):=eN (by simp only[RX,ln]) ⋯;rcases c with ⟨i,Z,u,y,rfl⟩|⟨d,i,Z,rfl,J⟩
 ·have:kz M r x=G':=by
   rw[nL];intro q K;refine u q ?_;have Q:(bu 0 M.length).length=M.length:=by simp[bu]
   rw[Q,<-g,Zz];exact K
  rw[this];exact aO A ⋯ rfl (bW it rfl Z<|aC rfl)
 ·rw[J];refine aO A ⋯ rfl (hJ (ρ1:=i) ?_);rw[kr];exact(aab (R.bind · _) it).trans Z
section
variable{n:Nat}{D:Nat->Nat->Int}{x:Nat->Int}
theorem qj(c:∀i j,i<n->j<n->D i j= - D j i)(A:∀i j k,i<n->j<n->k<n->D j k*x i-D i k*x j+D i j*x k=0):∀L:List Nat,L≠[]->(∀i∈L,i<n/\0<x i)->∃j∈L,∀i∈L,0<=D j i
 |[],h,_=>absurd rfl h
 |[a],_,y=>#[a,by simp,λi hi=>by
   rw[XC]at hi;subst hi;have:=c i i (y i<|by simp).1 (y i<|by simp).1
   lia]
 |a::b::L,_,y=>by
  obtain⟨j,F,E⟩:=qj c A (b::L) (by simp) λi hi=>y i (W7 _ hi)
  have m:=y a Xa;have l:=y j<|W7 _ F;rcases aV (D a j) 0 with z|z
  ·refine#[j,W7 _ F,λi hi=>?_];rcases Xg.mp hi with rfl|hi
   ·have:=c i j m.1 l.1
    lia
   ·exact E i hi
  ·refine#[a,Xa,λi hi=>?_];rcases Xg.mp hi with rfl|hi
   ·have:=c i i m.1 m.1
    lia
   ·have q:=y i<|W7 _ hi;have r:=A a j i m.1 l.1 q.1;have Z:=Yo (E i hi)<|Int.le_of_lt m.2;have Y:=Yo z<|Int.le_of_lt q.2;rcases aV (D a i) 0 with w|w
    ·have:=Int.mul_neg_of_neg_of_pos w l.2
     lia
    ·exact w
theorem Nv(c:∀i j,i<n->j<n->D i j= - D j i)(A:∀i j k,i<n->j<n->k<n->D j k*x i-D i k*x j+D i j*x k=0)(nn:∀i,i<n->0<=x i)(bd:∀i j,i<n->j<n->D i j<=h/\ - h<=D i j)(J:u<n)(M:v<n)(O:D u v≠0)(U:x u≠0\/x v≠0):
  (∀i,i<n->x i<=2*h)\/∃(s:Int)(j:Nat),(s=1\/s= -1)/\j<n/\(∀i,i<n->0<=s*D j i/\s*D j i<=x i)/\∃i,i<n/\0<s*D j i:=by
 by_cases X:∃k,k<n/\x k=0/\∃j,j<n/\0<x j/\D j k≠0
 ·obtain⟨k,P,xk,j,F,Q,Mk⟩:=X;obtain⟨s,S,B⟩:∃s:Int,(s=1\/s= -1)/\0<s*D k j:=by
   have:=c j k F P;rcases Yj Mk with z|z
   ·exact#[1,.inl rfl,⋯]
   ·exact#[-1,.inr rfl,⋯]
  have key:∀i,i<n->(s*D k i)*x j=(s*D k j)*x i:=λi hi=>by
   have r:=A i j k hi F P;rw[c k i P hi,c k j P F]
   grind
  have e0:∀i,i<n->0<=s*D k i:=λi hi=>by
   have:=Yo (Int.le_of_lt B)<|nn i hi;rw[<-key i hi]at this;rcases aV (s*D k i) 0 with w|w
   ·have:=Int.mul_neg_of_neg_of_pos w Q;lia
   ·exact w
  rcases aV (x j) (s*D k j)with w|w
  ·refine .inl λi hi=>?_
   have Z:(s*D k j)*x i<=(s*D k j)*(s*D k i):=by rw[<-key i hi,Yl (s*D k j)];exact Ym (Int.le_of_lt w) (e0 i hi)
   have Y:=Int.le_of_mul_le_mul_left Z B;have:=bd k i P hi;rcases S with rfl|rfl<;>lia
  ·refine .inr #[s,k,S,P,λi hi=>#[e0 i hi,?_],j,F,B];have Z:(s*D k i)*x j<=x i*x j:=by rw[key i hi,Yl (x i)];exact Yn w (nn i hi)
   exact Int.le_of_mul_le_mul_right Z Q
 ·have g:∀k j,k<n->j<n->x k=0->0<x j->D j k=0:=λk j P F Z Y=>Yc λw=>X #[k,P,Z,j,F,Y,w]
  let L:=(List.range n).filter λi=>decide (0<x i)
  have y:∀i,i∈L↔i<n/\0<x i:=λi=>by simp[L]
  have o:L≠[]:=by
   rcases U with w|w
   ·have:=nn u J;exact List.ne_nil_of_mem<|(y u).mpr #[J,⋯]
   ·have:=nn v M;exact List.ne_nil_of_mem ((y v).mpr #[M,⋯])
  obtain⟨j,F,E⟩:=qj c A L o λi hi=>(y i).mp hi
  obtain⟨l,W,hM⟩:=qj (λi j hi F=>c j i F hi) (λi j k hi F P=>by have:=A i j k hi F P;have a1:=c k j P F;have a2:=c k i P hi;have a3:=c j i F hi;show D k j*x i-D k i*x j+D j i*x k=0;rw[a1,a2,a3];grind) L o λi hi=>(y i).mp hi
  obtain⟨b,I⟩:=(y j).mp F;obtain⟨ln,H⟩:=(y l).mp W;have p:∀i,i<n->0<=D j i:=λi hi=>by
   by_cases w:0<x i
   ·exact E i<|(y i).mpr #[hi,w]
   ·have:=nn i hi;rw[g i j hi b ⋯ I]
    lia
  have t:∀i,i<n->0<=D i l:=λi hi=>by
   by_cases w:0<x i
   ·exact hM i<|(y i).mpr #[hi,w]
   ·have:=nn i hi;rw[c i l hi ln,g i l hi ln ⋯ H]
    lia
  have rl:∀i,i<n->D j l*x i=x j*D i l+x l*D j i:=λi hi=>by
   grind
  have B:0<D j l:=by
   rcases aV 0 (D j l)with w|w
   ·exact w
   ·exfalso;have q:D j l=0:=by have:=p l ln;lia
    have dj:∀i,i<n->0<x i->D j i=0:=λi hi K=>by
     have:=rl i hi;rw[q,Yw]at this;have a1:=Yo (Int.le_of_lt I)<|t i hi;have a2:=Yo (Int.le_of_lt H)<|p i hi;have a3:x l*D j i=0:=⋯
     exact(Int.mul_eq_zero.mp a3).resolve_left ⋯
    have all:∀i k,i<n->k<n->0<x i->0<x k->D i k=0:=λi k hi P K xk=>by have:=A j i k b hi P;rw[dj i hi K,dj k P xk,Yw,Yw,Yt,Int.add_zero]at this;exact(Int.mul_eq_zero.mp this).resolve_right ⋯
    have nu:=nn u J;have nv:=nn v M;by_cases xu:0<x u
    ·by_cases m:0<x v
     ·exact O<|all u v J M xu m
     ·exact O<|g v u M J ⋯ xu
    ·have m:0<x v:=⋯
     have:=g u v J M ⋯ m;have:=c u v J M
     lia
  rcases aV (x l) (D j l)with w1|w1
  ·rcases aV (x j) (D j l)with w2|w2
   ·refine .inl λi hi=>?_
    have r:=rl i hi;have a1:=Yn (Int.le_of_lt w2)<|t i hi;have a2:=Yn (Int.le_of_lt w1)<|p i hi;have a3:D j l*x i<=D j l*(D i l+D j i):=by rw[Int.mul_add];lia
    have a4:=Int.le_of_mul_le_mul_left a3 B;have:=bd i l hi ln;have:=bd j i b hi
    lia
   ·refine .inr #[-1,l,.inr rfl,ln,λi hi=>?_,j,b,by have:=c l j ln b;lia];have a:=c l i ln hi;refine#[by have:=t i hi;lia,?_];have r:=rl i hi;have a1:=Yn w2<|t i hi;have a2:=Yo (Int.le_of_lt H)<|p i hi;have a3:D j l*D i l<=D j l*x i:=⋯
    have:=Int.le_of_mul_le_mul_left a3 B
    lia
  ·refine .inr #[1,j,.inl rfl,b,λi hi=>?_,l,ln,⋯];refine#[by have:=p i hi;lia,?_];have r:=rl i hi;have a1:=Yn w1<|p i hi;have a2:=Yo (Int.le_of_lt I)<|t i hi;have a3:D j l*D j i<=D j l*x i:=⋯
   have:=Int.le_of_mul_le_mul_left a3 B
   lia
end
theorem basis(h:xV m 0 [] a):∀p,p<=m->∃B:List (List Int),B.length=(bP a p).1.length/\(∀b∈B,b∈a)/\(∀z,(∀b∈B,af b z=0)->∀q∈(bP a p).1,af q.2 z=0)/\
  ∀l∈(bP a p).2,∃o∈a,∀z,(∀b∈B,af b z=0)->af o z=0->af l z=0
 |0,_=>#[[],rfl,λ_ e=>(by cases e),λ_ _ _ e=>(by cases e),λl W=>#[l,W,λ_ _ k=>k]]
 |p+1,hp=>by
  obtain⟨B,b1,b2,s,O⟩:=basis h p ⋯;have S:=(Sq.all h p ⋯).st;show∃B:List (List Int),B.length=(dM p<|bP a p).1.length/\(∀b∈B,b∈a)/\(∀z,(∀b∈B,af b z=0)->∀q∈(dM p<|bP a p).1,af q.2 z=0)/\∀l∈(dM p<|bP a p).2,∃o∈a,∀z,(∀b∈B,af b z=0)->af o z=0->af l z=0;unfold dM;split
  ·exact#[B,b1,b2,s,O]
  ·rename_i b t e;have L:=(Zf.mp<|by rw[e];exact Xa).1;obtain⟨o,j,P⟩:=O b L;have lb:=S.len b L;have key:∀z,(∀c∈B++[o],af c z=0)->(∀c∈B,af c z=0)/\af b z=0:=λz g=>
    have Z:∀c∈B,af c z=0:=λc J=>g c (Ze _ J)
    #[Z,P z Z<|g o<|by simp]
   refine#[B++[o],by simp[b1],λc J=>?_,λz g q K=>?_,λl W=>?_]
   ·rcases Xq.mp J with k|k
    ·exact b2 c k
    ·rw[XC]at k;rw[k];exact j
   ·obtain⟨Z,Y⟩:=key z g;rcases Xq.mp K with k|k
    ·obtain⟨q',k1,rfl⟩:=XD.mp k;rw[gQ z (by rw[lb,(S.pl q' k1).2.1]),s z Z q' k1,Y]
     lia
    ·rw[XC]at k;rw[k];exact Y
   ·obtain⟨u,k1,rfl⟩:=XD.mp W;obtain⟨w,sJ,k2⟩:=O u k1;refine#[w,sJ,λz g k3=>?_];obtain⟨Z,Y⟩:=key z g;rw[gQ z (by rw[lb,S.len u k1]),k2 z Z k3,Y]
    lia
section
variable{m:Nat}{M:List (List Int)}{r:List Int}
def KC(m:Nat)(M:List (List Int))(y:List Int):Prop:=y.length=m/\∀q∈M,af q y=0
theorem fj(g)(h:l.length=x.length):af (l++[g]) (x++[0])=af l x:=by
 induction l generalizing x with
 |nil=>cases x with
  |nil=>show g*0+af [] []=_;rw[Yp];rfl
  |cons=>simp at h
 |cons a l O=>cases x with
  |nil=>simp at h
  |cons b x=>show a*b+af (l++[g]) (x++[0])=_;rw[O (by simpa using h)];rfl
theorem Bj(W:∀q∈M,q.length=m)(F:y.length=m)(w:r.length=M.length):(∀q∈M,af q y=0)↔∀z∈rowsOf M r,af z (y++[0])=0:=by
 constructor
 ·intro h z g;obtain⟨q,K,rfl⟩:=XD.mp g;have:=(Zn K).1;rw[fj _ (by rw[W _ this,F]),h _ this]
 ·intro h q K;obtain⟨k,P,e⟩:=List.mem_iff_getElem.mp K;have:=h (q++[r[k]'⋯])<|XD.mpr #[(q,r[k]'⋯),Zi.mpr #[k,by rw[List.getElem?_zip_eq_some];exact#[by rw[Xs P,e],Xs _]],rfl];rwa [fj _ (by rw[W _ K,F])]at this
theorem wB(E:jR m M r)(F:y.length=m):(∀q∈M,af q y=0)↔∀q∈cv m M r,af q.2 (y++[0])=0:=by rw[Bj E.wd F E.rl,E.sq.ev];refine#[λh=>h.1,λh=>#[h,λl W=>?_]];obtain⟨a,g,rfl,la,_⟩:=j7<|E.sq.st.len l W;rw[fj _ (by rw[la,F])];exact nC y λi hi=>by have:=E.sq.zl _ W i ⋯;rwa [gH hi]at this
theorem sM(E:jR m M r)(hy:KC m M y)(h0:∀i∈bN m (cv m M r),gI y i=0):∀i,i<m->gI y i=0:=λi hi=>by
 by_cases A:i∈(cv m M r).map (·.1)
 ·obtain⟨q,K,rfl⟩:=XD.mp A;have Z:=(wB E hy.1).mp hy.2 q K;obtain⟨_,Y,u⟩:=E.sq.st.pl q K;obtain⟨a,g,k,la,_⟩:=j7 Y;rw[k,fj _ (by rw[la,hy.1]),ir (q:=List.replicate m 0) (by simp[hy.1]) (by rw[hy.1];exact hi) (by rw[la,hy.1];exact W9 _) λj F o=>?_,fk,cn]at Z
  ·rw[k,gH ⋯]at u;have:gI a q.1*gI y q.1=0:=by rw[<-Z];grind
   exact(Int.mul_eq_zero.mp this).resolve_left u
  ·rw[hy.1]at F;rw[cn,Yp];by_cases A:j∈(cv m M r).map (·.1)
   ·obtain⟨P,k9,rfl⟩:=XD.mp A;have:=E.sq.pz q K P k9 o;rw[k,gH ⋯]at this;rw[this,Yw]
   ·rw[h0 j (fg.mpr #[F,A]),Yp]
 ·exact h0 i<|fg.mpr #[hi,A]
theorem base(E:jR m M r):∃B:List (List Int),B.length=(cv m M r).length/\(∀b∈B,b∈M)/\(∀b∈B,∀x,x.length=m->fH M r x->((af b x).natAbs:Int)<=ff r)/\∀y,y.length=m->(∀b∈B,af b y=0)->KC m M y:=by
 obtain⟨B,b1,b2,s,_⟩:=basis E.Uc m<|W9 _;have mem:∀b∈B,∃q∈M.zip r,b=q.1++[q.2]:=λb L=>by obtain⟨q,K,e⟩:=XD.mp<|b2 b L;exact#[q,K,e.symm]
 have tk:∀b∈B,∀q∈M.zip r,b=q.1++[q.2]->b.take m=q.1:=λb L q K e=>by rw[e,<-E.wd _ (Zn K).1,List.take_left]
 refine#[B.map<|List.take m,by rw[Xd,b1];rfl,λc J=>?_,λc J x U l=>?_,λy F P=>#[F,(wB E F).mpr<|s _ λb L=>?_]]
 ·obtain⟨b,L,rfl⟩:=XD.mp J;obtain⟨q,K,e⟩:=mem b L;rw[tk b L q K e];exact(Zn K).1
 ·obtain⟨b,L,rfl⟩:=XD.mp J;obtain⟨q,K,e⟩:=mem b L;rw[tk b L q K e,l q K];exact wV<|XD.mpr #[q.2,(Zn K).2,rfl]
 ·obtain⟨q,K,e⟩:=mem b L;have:=P _<|XD.mpr #[b,L,rfl];rw[tk b L q K e]at this;rw[e,fj _ (by rw[E.wd _ (Zn K).1,F]),this]
end
theorem line{e x:Nat->Int}(P:k<n)(e0:e k≠0)(K:((e k).natAbs:Int)<=E)(I:∀j,j<n->0<=x j)(J:∀j,j<n->((x j*e k-x k*e j).natAbs:Int)<=c)(U:c+E<x k):
  ∃s:Int,(s=1\/s= -1)/\0<s*e k/\∀j,j<n->0<=s*e j/\s*e j<=x j:=by
 obtain⟨s,S,B⟩:∃s:Int,(s=1\/s= -1)/\0<s*e k:=by
  rcases Yj e0 with z|z
  ·exact#[-1,.inr rfl,⋯]
  ·exact#[1,.inl rfl,⋯]
 refine#[s,S,B,λj F=>?_];have h:((x j*(s*e k)-x k*(s*e j)).natAbs:Int)<=c:=by
  have:=J j F;rcases S with rfl|rfl
  ·rw[Int.one_mul,Int.one_mul];exact this
  ·rw[show x j*(-1*e k)-x k*(-1*e j)= -(x j*e k-x k*e j) by grind,Int.natAbs_neg];exact this
 have a:s*e k<=E:=by rcases S with rfl|rfl<;>lia
 generalize s*e k=p at *;generalize s*e j=q at *;have l:=I j F;have Z:=Yo l<|Int.le_of_lt B;have g:0<=q:=by
  rcases aV q 0 with w|w
  ·have:=Ym (show q<= -1 by lia) (I k P)
   lia
  ·exact w
 refine#[g,?_];rcases aV (x j) q with w|w
 ·have Y:=Yn (show x j<=q-1 by lia)<|Int.le_of_lt B;have u:=Yn (show (1:Int)<=q by lia) (show 0<=x k-p by lia);have Q:(q-1)*p=q*p-p:=by grind
  have A:q*(x k-p)=x k*q-q*p:=by grind
  lia
 ·exact w
theorem qt{a1 a2 b1 b2:Int}(U:∀r n,a1*r+a2*n=0->b1*r+b2*n=0->r=0/\n=0):a1*b2-a2*b1≠0:=λh=>by
 have Z:=U (-a2) a1 (by grind) (by grind);have Y:=U (-b2) b1 (by grind) (by grind);have:=U 1 0 (by grind) (by grind)
 lia
def qc(a1 a2 a3 b1 b2 s v X H:Int):Int:=a1*(b2*H-s*X)+a2*(s*v-b1*H)+a3*(b1*X-b2*v)
theorem Ec(U:∀r n p,a1*r+a2*n+a3*p=0->b1*r+b2*n+b3*p=0->c1*r+c2*n+c3*p=0->r=0/\n=0/\p=0):qc a1 a2 a3 b1 b2 b3 c1 c2 c3≠0:=λh=>by
 unfold qc at h;have S:=U (a2*c3-a3*c2) (a3*c1-a1*c3) (a1*c2-a2*c1) (by grind) (by grind) (by grind);have g:=U (a2*b3-a3*b2) (a3*b1-a1*b3) (a1*b2-a2*b1) (by grind) (by grind) (by grind);have Z:=U (-a2) a1 0 (by grind) (by grind) (by grind);have Y:=U (-b2) b1 0 (by grind) (by grind) (by grind);have u:=U (-c2) c1 0 (by grind) (by grind) (by grind);have:=U 1 0 0 (by grind) (by grind) (by grind)
 lia
theorem lH(h:(b.natAbs:Int)<=t):b*v<=t*v.natAbs:=by
 have Z:(b*v)<=((b*v).natAbs:Int):=⋯
 rw[Yq,Yr]at Z;exact Int.le_trans Z<|Yn h ⋯
theorem zS(h1:z<=g)(h2: -z<=g):(z.natAbs:Int)<=g:=by omega
theorem jl{p q r s t g:Int}(B:(p.natAbs:Int)<=t)(K:(q.natAbs:Int)<=g)(w:(r.natAbs:Int)<=t)(l:(s.natAbs:Int)<=g):((p*q-r*s).natAbs:Int)<=2*t*g:=by
 have k1:∀{u v:Int},(u.natAbs:Int)<=t->(v.natAbs:Int)<=g->u*v<=t*g:=λJ M=>Int.le_trans (lH J) (Ym M ⋯)
 have e:2*t*g=t*g+t*g:=by grind
 have Z:=k1 B K;have Y:=k1 w l;have h3:=k1 (u:= -p) ⋯ K;have Q:=k1 (u:= -r) ⋯ l;rw[Int.neg_mul]at h3 Q;exact zS ⋯ ⋯
theorem sgn(x):∃s:Int,(s=1\/s= -1)/\(x.natAbs:Int)=s*x:=by
 rcases aV x 0 with h|h
 ·exact#[-1,.inr rfl,⋯]
 ·exact#[1,.inl rfl,⋯]
theorem AG(h0:(b0.natAbs:Int)<=t)(Z:(b1.natAbs:Int)<=t)(Y:(b2.natAbs:Int)<=t):b0*v0+b1*v1+b2*v2<=t*(v0.natAbs+v1.natAbs+v2.natAbs):=by
 have:=lH (v:=v0) h0;have:=lH (v:=v1) Z;have:=lH (v:=v2) Y;rw[Int.mul_add,Int.mul_add]
 lia
theorem uy(h:s=1\/s= -1)(J:(c.natAbs:Int)<=t):((s*c).natAbs:Int)<=t:=by rw[Yq];rcases h with rfl|rfl<;>simpa using J
theorem uz(l:s=1\/s= -1)(J:u=1\/u= -1):(c*s-d*u).natAbs=(u*c-s*d).natAbs:=by
 rcases l with rfl|rfl<;>rcases J with rfl|rfl
 ·rw[show c*1-d*1=1*c-1*d by grind]
 ·rw[<-Int.natAbs_neg,show -(c*1-d * -1)= -1*c-1*d by grind]
 ·rw[<-Int.natAbs_neg,show -(c * -1-d*1)=1*c - -1*d by grind]
 ·rw[show c * -1-d * -1= -1*c - -1*d by grind]
theorem xW{p q r t:Int}(B:(p.natAbs:Int)<=t)(K:(q.natAbs:Int)<=t)(w:(r.natAbs:Int)<=t):(((q-r).natAbs:Int)+(r-p).natAbs+(p-q).natAbs)<=4*t:=by
 have na:∀x:Int,(x.natAbs:Int)=x\/(x.natAbs:Int)= -x:=λx=>by lia
 have l:∀x:Int,(x.natAbs:Int)<=t-> -t<=x/\x<=t:=λx h=>by lia
 obtain⟨Z,Y⟩:=l p B;obtain⟨u,Q⟩:=l q K;obtain⟨A,j⟩:=l r w;rcases na (q-r)with a|a<;>rcases na (r-p)with b|b<;>rcases na (p-q)with c|c<;>rw[a,b,c]<;>clear a b c na<;>lia
theorem wb(m:(a1.natAbs:Int)<=t/\(a2.natAbs:Int)<=t/\(a3.natAbs:Int)<=t)(L:(b1.natAbs:Int)<=t/\(b2.natAbs:Int)<=t/\(b3.natAbs:Int)<=t)(J:(c1.natAbs:Int)<=t/\(c2.natAbs:Int)<=t/\(c3.natAbs:Int)<=t):
  qc a1 a2 a3 b1 b2 b3 c1 c2 c3<=4*t*t*t:=by
 refine Int.le_trans (AG m.1 m.2.1 m.2.2) ?_;have S:0<=t:=⋯
 have e:4*t*t*t=t*(t*(4*t)):=by grind
 rw[e];refine Ym ?_ S;obtain⟨s1,Z,e1⟩:=sgn<|b2*c3-b3*c2;obtain⟨p,Y,e2⟩:=sgn<|b3*c1-b1*c3;obtain⟨g,u,l⟩:=sgn<|b1*c2-b2*c1;rw[e1,e2,l,show s1*(b2*c3-b3*c2)+p*(b3*c1-b1*c3)+g*(b1*c2-b2*c1)=b1*(c2*g-c3*p)+b2*(c3*s1-c1*g)+b3*(c1*p-c2*s1) by grind];refine Int.le_trans (AG L.1 L.2.1 L.2.2)<|Ym ?_ S;rw[uz u Y,uz Z u,uz Y Z];exact xW (uy Z J.1) (uy Y J.2.1)<|uy u J.2.2
theorem Fe{D:Nat->Nat->Int}{x:Nat->Int}(c:∀i j,i<n->j<n->D i j= - D j i)(h:∀i j k,i<j->j<k->k<n->D j k*x i-D i k*x j+D i j*x k=0):∀i j k,i<n->j<n->k<n->D j k*x i-D i k*x j+D i j*x k=0:=by
 have z:∀i,i<n->D i i=0:=λi hi=>by have:=c i i hi hi;lia
 have s1:∀i j k,i<n->j<n->k<n->D i k*x j-D j k*x i+D j i*x k=0->D j k*x i-D i k*x j+D i j*x k=0:=λi j k hi F P q=>by rw[c i j hi F];grind
 have p:∀i j k,i<n->j<n->k<n->D k j*x i-D i j*x k+D i k*x j=0->D j k*x i-D i k*x j+D i j*x k=0:=λi j k hi F P q=>by rw[c j k F P];grind
 have lo:∀i j k,i<j->j<n->k<n->D j k*x i-D i k*x j+D i j*x k=0:=λi j k K F P=>by
  have hi:i<n:=⋯
  rcases Nat.lt_trichotomy j k with w|w|w
  ·exact h i j k K w P
  ·rw[<-w,z j F];grind
  ·refine p i j k hi F P ?_;rcases Nat.lt_trichotomy i k with u|u|u
   ·exact h i k j u w F
   ·rw[<-u,z i hi];grind
   ·exact s1 i k j hi P F (h k i j u K F)
 intro i j k hi F P;rcases Nat.lt_trichotomy i j with w|w|w
 ·exact lo i j k w F P
 ·rw[<-w,z i hi];grind
 ·exact s1 i j k hi F P<|lo j i k w hi P
theorem tv(s):∀(b e:List Int),af b (e.map (s * ·))=s*af b e
 |[],_=>by rw[dX,dX,Yp]
 |_,[]=>by rw[Zd,nz,Yp]
 |b::bs,e::es=>by rw[XR,aA,aA,tv s bs es];grind
theorem AY(f:Int->Int)(h:f 0=0)(e)(i):gI (e.map f) i=f (gI e i):=by
 unfold gI;rw[YU,YU,Xn];cases e[i]? with
 |none=>exact h.symm
 |some v=>rfl
theorem lL:∀{l y:List Int}{n:Nat},l.length=n+1->y.length=n+1->af l y=gI l 0*gI y 0+af l.tail y.tail
 |_::_,_::_,_,_,_=>rfl
theorem wy:∀(l:List Int)(i:Nat),gI l.tail i=gI l (i+1)
 |[],_=>rfl
 |_::_,_=>(aB ..).symm
theorem iX(W:l.length=3)(F:y.length=3):af l y=gI l 0*gI y 0+gI l 1*gI y 1+gI l 2*gI y 2:=by
 rw[lL W F,lL (n:=1) (by simp[W]) (by simp[F]),lL (n:=0) (by simp[W]) (by simp[F]),List.length_eq_zero_iff.mp (show l.tail.tail.tail.length=0 by simp[W])];simp only[wy];show _+(gI l 1*gI y 1+(gI l 2*gI y 2+0))=_
 lia
theorem et(W:l.length=4)(F:y.length=4):af l y=gI l 0*gI y 0+gI l 1*gI y 1+gI l 2*gI y 2+gI l 3*gI y 3:=by
 rw[lL W F,iX (by simp[W]) (by simp[F])];simp only[wy];show _+(gI l 1*gI y 1+gI l 2*gI y 2+gI l 3*gI y 3)=_
 lia
def Lies(m:Nat)(B:List (List Int))(g:Int)(x:List Int):Prop:=∃y:List Int,y.length=m/\(∀b∈B,af b y=0)/\(∀i,i<m->0<=gI y i/\gI y i<=gI x i/\gI y i<=g)/\∃i,i<m/\0<gI y i
theorem Lies.of(le:e.length=m)(K:∀b∈B,af b e=0)(S:ε=1\/ε= -1)(t:∀i,i<m->((gI e i).natAbs:Int)<=g)(P:k<m)(hp:0<ε*gI e k)(h:∀i,i<m->0<=ε*gI e i/\ε*gI e i<=gI x i):Lies m B g x:=
 #[e.map (ε * ·),by rw[Xd,le],λb L=>by rw[tv,K b L,Yp],λi hi=>by
  rw[AY _ (Yp _)];have:=t i hi;refine#[(h i hi).1,(h i hi).2,?_];rcases S with rfl|rfl<;>lia,k,P,by rw[AY _ (Yp _)];exact hp]
theorem PC:∀{i:Nat},i<3->i=0\/i=1\/i=2:=λ {i}=>(by decide:∀i,i<3->i=0\/i=1\/i=2) i
theorem Bw:∀{i:Nat},i<4->i=0\/i=1\/i=2\/i=3:=λ {i}=>(by decide:∀i,i<4->i=0\/i=1\/i=2\/i=3) i
section
variable{a b x:List Int}{t G:Int}{k:Nat}
theorem MS(la:a.length=3)(lb:b.length=3)(H:x.length=3)(m:∀i,i<3->((gI a i).natAbs:Int)<=t)(L:∀i,i<3->((gI b i).natAbs:Int)<=t)(I:∀i,i<3->0<=gI x i)(hr:((af a x).natAbs:Int)<=G)(l:((af b x).natAbs:Int)<=G)(P:k<3)
  (U:∀y:List Int,y.length=3->af a y=0->af b y=0->gI y k=0->∀i,i<3->gI y i=0) (hx:2*t*(G+t)<gI x k):Lies 3 [a,b] (2*t*t) x:=by
 let e:List Int:=[gI a 1*gI b 2-gI a 2*gI b 1,gI a 2*gI b 0-gI a 0*gI b 2,gI a 0*gI b 1-gI a 1*gI b 0]
 have K:∀i,i<3->((gI e i).natAbs:Int)<=2*t*t:=λi hi=>by
  rcases PC hi with rfl|rfl|rfl
  ·exact jl (m 1<|by decide) (L 2<|by decide) (m 2<|by decide)<|L 1<|by decide
  ·exact jl (m 2<|by decide) (L 0<|by decide) (m 0<|by decide)<|L 2<|by decide
  ·exact jl (m 0<|by decide) (L 1<|by decide) (m 1<|by decide) (L 0<|by decide)
 have e0:gI e k≠0:=by
  have E:∀r n p:Int,gI a 0*r+gI a 1*n+gI a 2*p=0->gI b 0*r+gI b 1*n+gI b 2*p=0->gI [r,n,p] k=0->r=0/\n=0/\p=0:=λr n p Z Y u=>
   have q:=U [r,n,p] rfl (by rw[iX la rfl];exact Z) (by rw[iX lb rfl];exact Y) u
   #[q 0<|by decide,q 1<|by decide,q 2<|by decide]
  rcases PC P with rfl|rfl|rfl
  ·exact qt λr n Z Y=>(E 0 r n ⋯ ⋯ rfl).2
  ·have:=qt (a1:=gI a 0) (a2:=gI a 2) (b1:=gI b 0) (b2:=gI b 2) λr n Z Y=>(λz:_/\_/\_=>#[z.1,z.2.2]) (E r 0 n ⋯ ⋯ rfl)
   exact λ(z:gI a 2*gI b 0-gI a 0*gI b 2=0)=>this (by omega)
  ·exact qt λr n Z Y=>(λz:_/\_/\_=>#[z.1,z.2.1]) (E r n 0 ⋯ ⋯ rfl)
 have o:∀i,i<3->((af b x*gI a i-af a x*gI b i).natAbs:Int)<=2*t*G:=λi hi=>by rw[show 2*t*G=2*G*t by grind];exact jl l (m i hi) hr (L i hi)
 have J:∀j,j<3->((gI x j*gI e k-gI x k*gI e j).natAbs:Int)<=2*t*G:=λj F=>by
  have c:∀{z w:Int},(z.natAbs:Int)<=2*t*G->(w=z\/w= -z\/w=0)->(w.natAbs:Int)<=2*t*G:=λh q=>by rcases q with rfl|rfl|rfl<;>lia
  have W:=o 0 (by decide);have v:=o 1 (by decide);have X:=o 2 (by decide);rw[iX la H,iX lb H]at W v X;rcases PC P with rfl|rfl|rfl<;>rcases PC F with rfl|rfl|rfl
  ·exact c W<|.inr<|.inr<|Ys _
  ·refine c X<|.inr<|.inl ?_;show gI x 1*(gI a 1*gI b 2-gI a 2*gI b 1)-gI x 0*(gI a 2*gI b 0-gI a 0*gI b 2)=_;grind
  ·refine c v<|.inl ?_;show gI x 2*(gI a 1*gI b 2-gI a 2*gI b 1)-gI x 0*(gI a 0*gI b 1-gI a 1*gI b 0)=_;grind
  ·refine c X<|.inl ?_;show gI x 0*(gI a 2*gI b 0-gI a 0*gI b 2)-gI x 1*(gI a 1*gI b 2-gI a 2*gI b 1)=_;grind
  ·exact c W<|.inr<|.inr<|Ys _
  ·refine c W<|.inr<|.inl ?_;show gI x 2*(gI a 2*gI b 0-gI a 0*gI b 2)-gI x 1*(gI a 0*gI b 1-gI a 1*gI b 0)=_;grind
  ·refine c v<|.inr<|.inl ?_;show gI x 0*(gI a 0*gI b 1-gI a 1*gI b 0)-gI x 2*(gI a 1*gI b 2-gI a 2*gI b 1)=_;grind
  ·refine c W<|.inl ?_;show gI x 1*(gI a 0*gI b 1-gI a 1*gI b 0)-gI x 2*(gI a 2*gI b 0-gI a 0*gI b 2)=_;grind
  ·exact c W (.inr<|.inr<|Ys _)
 obtain⟨s,S,B,h⟩:=line P e0 (K k P) I J (by rw[<-Int.mul_add];exact hx);refine Lies.of rfl (λz g=>?_) S K P B h;rcases Xg.mp g with rfl|g
 ·rw[iX la rfl];show gI z 0*(gI z 1*gI b 2-gI z 2*gI b 1)+gI z 1*(gI z 2*gI b 0-gI z 0*gI b 2)+gI z 2*(gI z 0*gI b 1-gI z 1*gI b 0)=0;grind
 ·rw[XC]at g;subst g;rw[iX lb rfl];show gI z 0*(gI a 1*gI z 2-gI a 2*gI z 1)+gI z 1*(gI a 2*gI z 0-gI a 0*gI z 2)+gI z 2*(gI a 0*gI z 1-gI a 1*gI z 0)=0;grind
end
def p2(a b:List Int)(i j:Nat):Int:=gI a i*gI b j-gI a j*gI b i
def dl(a b:List Int)(i:Nat):List Int:=([[0,p2 a b 2 3,p2 a b 3 1,p2 a b 1 2],[p2 a b 3 2,0,p2 a b 0 3,p2 a b 2 0],[p2 a b 1 3,p2 a b 3 0,0,p2 a b 0 1],[p2 a b 2 1,p2 a b 0 2,p2 a b 1 0,0]]:List (List Int)).getD i []
theorem EG(a b)(i j):p2 a b i j= - p2 a b j i:=by unfold p2;grind
theorem SA(K:i<j)(s:j<k)(P:k<4):(i=0/\j=1/\k=2)\/(i=0/\j=1/\k=3)\/(i=0/\j=2/\k=3)\/(i=1/\j=2/\k=3):=by
 have two:∀{i j:Nat},i<j->j<3->(i=0/\j=1)\/(i=0/\j=2)\/(i=1/\j=2):=λ {i j} Z Y=>(by decide:∀j,j<3->∀i,i<j->(i=0/\j=1)\/(i=0/\j=2)\/(i=1/\j=2)) j Y i Z
 rcases Bw P with rfl|rfl|rfl|rfl
 ·lia
 ·lia
 ·exact .inl #[⋯,⋯,rfl]
 ·exact .inr<|(two K s).imp (λq=>#[q.1,q.2,rfl]) λq=>q.imp (λq=>#[q.1,q.2,rfl]) λq=>#[q.1,q.2,rfl]
section
variable{a b c x:List Int}{t:Int}{k:Nat}
theorem Jw(la:a.length=4)(lb:b.length=4)(H:x.length=4)(m:∀i,i<4->((gI a i).natAbs:Int)<=t)(L:∀i,i<4->((gI b i).natAbs:Int)<=t)(I:∀i,i<4->0<=gI x i)(hr:af a x=0)(l:af b x=0)(J:u<v)(M:v<4)(hx:gI x u≠0\/gI x v≠0)
  (U:∀y:List Int,y.length=4->af a y=0->af b y=0->gI y u=0->gI y v=0->∀i,i<4->gI y i=0):(∀i,i<4->gI x i<=2*(2*t*t))\/Lies 4 [a,b] (2*t*t) x:=by
 have c:∀i j,i<4->j<4->gI (dl a b i) j= - gI (dl a b j) i:=λi j hi F=>by rcases Bw hi with rfl|rfl|rfl|rfl<;>rcases Bw F with rfl|rfl|rfl|rfl<;>first|exact EG a b _ _|rfl
 have pE:∀i j,i<4->j<4->((p2 a b i j).natAbs:Int)<=2*t*t:=λi j hi F=>jl (m i hi) (L j F) (m j F) (L i hi)
 have S:(0:Int)<=2*t*t:=by have:=pE 0 0 (by decide) (by decide);lia
 have bd:∀i j,i<4->j<4->((gI (dl a b i) j).natAbs:Int)<=2*t*t:=λi j hi F=>by rcases Bw hi with rfl|rfl|rfl|rfl<;>rcases Bw F with rfl|rfl|rfl|rfl<;>first|exact S|exact pE _ _ (by decide) (by decide)
 rw[et la H]at hr;rw[et lb H]at l;have A:=Fe c λi j k K s P=>by
  rcases SA K s P with ⟨rfl,rfl,rfl⟩|⟨rfl,rfl,rfl⟩|⟨rfl,rfl,rfl⟩|⟨rfl,rfl,rfl⟩
  ·show p2 a b 0 3*gI x 0-p2 a b 3 1*gI x 1+p2 a b 2 3*gI x 2=0;unfold p2;grind
  ·show p2 a b 2 0*gI x 0-p2 a b 1 2*gI x 1+p2 a b 2 3*gI x 3=0;unfold p2;grind
  ·show p2 a b 0 1*gI x 0-p2 a b 1 2*gI x 2+p2 a b 3 1*gI x 3=0;unfold p2;grind
  ·show p2 a b 0 1*gI x 1-p2 a b 2 0*gI x 2+p2 a b 0 3*gI x 3=0;unfold p2;grind
 have O:gI (dl a b u) v≠0:=by
  have E:∀o r n p:Int,gI a 0*o+gI a 1*r+gI a 2*n+gI a 3*p=0->gI b 0*o+gI b 1*r+gI b 2*n+gI b 3*p=0->gI [o,r,n,p] u=0->gI [o,r,n,p] v=0->o=0/\r=0/\n=0/\p=0:=λo r n p Z Y h3 Q=>
   have q:=U [o,r,n,p] rfl (by rw[et la rfl];exact Z) (by rw[et lb rfl];exact Y) h3 Q
   #[q 0<|by decide,q 1<|by decide,q 2<|by decide,q 3<|by decide]
  rcases (by decide:∀v,v<4->∀u,u<v->(u=0/\v=1)\/(u=0/\v=2)\/(u=0/\v=3)\/(u=1/\v=2)\/(u=1/\v=3)\/(u=2/\v=3)) v M u J with ⟨rfl,rfl⟩|⟨rfl,rfl⟩|⟨rfl,rfl⟩|⟨rfl,rfl⟩|⟨rfl,rfl⟩|⟨rfl,rfl⟩
  ·exact qt λr n Z Y=>(λz:_/\_/\_/\_=>#[z.2.2.1,z.2.2.2])<|E 0 0 r n ⋯ ⋯ rfl rfl
  ·exact qt λr n Z Y=>(λz:_/\_/\_/\_=>#[z.2.2.2,z.2.1])<|E 0 n 0 r ⋯ ⋯ rfl rfl
  ·exact qt λr n Z Y=>(λz:_/\_/\_/\_=>#[z.2.1,z.2.2.1])<|E 0 r n 0 ⋯ ⋯ rfl rfl
  ·exact qt λr n Z Y=>(λz:_/\_/\_/\_=>#[z.1,z.2.2.2])<|E r 0 0 n ⋯ ⋯ rfl rfl
  ·exact qt λr n Z Y=>(λz:_/\_/\_/\_=>#[z.2.2.1,z.1])<|E n 0 r 0 ⋯ ⋯ rfl rfl
  ·exact qt λr n Z Y=>(λz:_/\_/\_/\_=>#[z.1,z.2.1]) (E r n 0 0 ⋯ ⋯ rfl rfl)
 rcases Nv (h:=2*t*t) c A I (λi j hi F=>by have:=bd i j hi F;lia) (show u<4 by lia) M O hx with z|⟨ε,j,hε,F,Z,i,hi,hp⟩
 ·exact .inl z
 ·refine .inr<|Lies.of ?_ (λz g=>?_) hε (λi hi=>bd j i F hi) hi hp Z
  ·rcases Bw F with rfl|rfl|rfl|rfl<;>rfl
  ·have ld:(dl a b j).length=4:=by rcases Bw F with rfl|rfl|rfl|rfl<;>rfl
   have X:z=a\/z=b:=by simpa using g
   have W:z.length=4:=by rcases X with e|e<;>rw[e]<;>assumption
   have key:∀w:List Int,(w=a\/w=b)->gI w 0*gI (dl a b j) 0+gI w 1*gI (dl a b j) 1+gI w 2*gI (dl a b j) 2+gI w 3*gI (dl a b j) 3=0:=λw B=>by
    rcases Bw F with rfl|rfl|rfl|rfl
    ·show gI w 0*0+gI w 1*p2 a b 2 3+gI w 2*p2 a b 3 1+gI w 3*p2 a b 1 2=0;unfold p2;rcases B with rfl|rfl<;>grind
    ·show gI w 0*p2 a b 3 2+gI w 1*0+gI w 2*p2 a b 0 3+gI w 3*p2 a b 2 0=0;unfold p2;rcases B with rfl|rfl<;>grind
    ·show gI w 0*p2 a b 1 3+gI w 1*p2 a b 3 0+gI w 2*0+gI w 3*p2 a b 0 1=0;unfold p2;rcases B with rfl|rfl<;>grind
    ·show gI w 0*p2 a b 2 1+gI w 1*p2 a b 0 2+gI w 2*p2 a b 1 0+gI w 3*0=0;unfold p2;rcases B with rfl|rfl<;>grind
   rw[et W ld];exact key z X
theorem AF(m:(a1.natAbs:Int)<=t/\(a2.natAbs:Int)<=t/\(a3.natAbs:Int)<=t)(L:(b1.natAbs:Int)<=t/\(b2.natAbs:Int)<=t/\(b3.natAbs:Int)<=t)(J:(c1.natAbs:Int)<=t/\(c2.natAbs:Int)<=t/\(c3.natAbs:Int)<=t):
  ((qc a1 a2 a3 b1 b2 b3 c1 c2 c3).natAbs:Int)<=4*t*t*t:=by
 refine zS (wb m L J) ?_;have:=wb (a1:= -a1) (a2:= -a2) (a3:= -a3) (by rw[Int.natAbs_neg,Int.natAbs_neg,Int.natAbs_neg];exact m) L J;rwa [show qc (-a1) (-a2) (-a3) b1 b2 b3 c1 c2 c3= - qc a1 a2 a3 b1 b2 b3 c1 c2 c3 by unfold qc;grind]at this
def d3(a b c:List Int)(i j k:Nat):Int:=qc (gI a i) (gI a j) (gI a k) (gI b i) (gI b j) (gI b k) (gI c i) (gI c j)<|gI c k
def gr(a b c:List Int):List Int:=[d3 a b c 1 2 3,- d3 a b c 0 2 3,d3 a b c 0 1 3,- d3 a b c 0 1 2]
theorem MU(la:a.length=4)(lb:b.length=4)(l:c.length=4)(H:x.length=4)(m:∀i,i<4->((gI a i).natAbs:Int)<=t)(L:∀i,i<4->((gI b i).natAbs:Int)<=t)(J:∀i,i<4->((gI c i).natAbs:Int)<=t)(I:∀i,i<4->0<=gI x i)(P:k<4)
  (O:∀z∈[a,b,c],af z x=0) (U:∀y:List Int,y.length=4->(∀z∈[a,b,c],af z y=0)->gI y k=0->∀i,i<4->gI y i=0) (hx:4*t*t*t<gI x k):Lies 4 [a,b,c] (4*t*t*t) x:=by
 have dE:∀i j k,i<4->j<4->k<4->((d3 a b c i j k).natAbs:Int)<=4*t*t*t:=λi j k hi F P=>AF #[m i hi,m j F,m k P] #[L i hi,L j F,L k P] #[J i hi,J j F,J k P]
 have K:∀i,i<4->((gI (gr a b c) i).natAbs:Int)<=4*t*t*t:=λi hi=>by
  rcases Bw hi with rfl|rfl|rfl|rfl
  ·exact dE 1 2 3 (by decide) (by decide) (by decide)
  ·show ((- d3 a b c 0 2 3).natAbs:Int)<=_;rw[Int.natAbs_neg];exact dE 0 2 3 (by decide) (by decide) (by decide)
  ·exact dE 0 1 3 (by decide) (by decide) (by decide)
  ·show ((- d3 a b c 0 1 2).natAbs:Int)<=_;rw[Int.natAbs_neg];exact dE 0 1 2 (by decide) (by decide) (by decide)
 have v:∀z∈[a,b,c],af z (gr a b c)=0:=λz g=>by
  have W:z.length=4:=by simp only[Xg,Xh,aan]at g;rcases g with rfl|rfl|rfl<;>assumption
  rw[et W rfl];show gI z 0*d3 a b c 1 2 3+gI z 1 * - d3 a b c 0 2 3+gI z 2*d3 a b c 0 1 3+gI z 3 * - d3 a b c 0 1 2=0;unfold d3 qc;simp only[Xg,Xh,aan]at g;rcases g with rfl|rfl|rfl<;>grind
 have e0:gI (gr a b c) k≠0:=by
  have E:∀o r n p:Int,gI a 0*o+gI a 1*r+gI a 2*n+gI a 3*p=0->gI b 0*o+gI b 1*r+gI b 2*n+gI b 3*p=0->gI c 0*o+gI c 1*r+gI c 2*n+gI c 3*p=0->gI [o,r,n,p] k=0->o=0/\r=0/\n=0/\p=0:=λo r n p Z Y u Q=>
   have q:=U [o,r,n,p] rfl (λz g=>by
    simp only[Xg,Xh,aan]at g;rcases g with rfl|rfl|rfl
    ·rw[et la rfl];exact Z
    ·rw[et lb rfl];exact Y
    ·rw[et l rfl];exact u) Q
   #[q 0<|by decide,q 1<|by decide,q 2<|by decide,q 3<|by decide]
  rcases Bw P with rfl|rfl|rfl|rfl
  ·exact Ec λr n p Z Y u=>(E 0 r n p ⋯ ⋯ ⋯ rfl).2
  ·exact λz=>Ec (λr n p Z Y u=>(λq:_/\_/\_/\_=>#[q.1,q.2.2])<|E r 0 n p ⋯ ⋯ ⋯ rfl)<|Int.neg_eq_zero.mp z
  ·exact Ec λr n p Z Y u=>(λq:_/\_/\_/\_=>#[q.1,q.2.1,q.2.2.2])<|E r n 0 p ⋯ ⋯ ⋯ rfl
  ·exact λz=>Ec (λr n p Z Y u=>(λq:_/\_/\_/\_=>#[q.1,q.2.1,q.2.2.1])<|E r n p 0 ⋯ ⋯ ⋯ rfl) (Int.neg_eq_zero.mp z)
 have M:∀j,j<4->gI x j*gI (gr a b c) k-gI x k*gI (gr a b c) j=0:=λj F=>by
  have A:∀w:Nat->Int,∀i,i<4->gI [w 0,w 1,w 2,w 3] i=w i:=λw i hi=>by rcases Bw hi with rfl|rfl|rfl|rfl<;>rfl
  have:=U [gI x 0*gI (gr a b c) k-gI x k*gI (gr a b c) 0,gI x 1*gI (gr a b c) k-gI x k*gI (gr a b c) 1,gI x 2*gI (gr a b c) k-gI x k*gI (gr a b c) 2,gI x 3*gI (gr a b c) k-gI x k*gI (gr a b c) 3] rfl (λz g=>by
   have W:z.length=4:=by simp only[Xg,Xh,aan]at g;rcases g with rfl|rfl|rfl<;>assumption
   have Z:=O z g;have Y:=v z g;rw[et W H]at Z;rw[et W rfl]at Y ⊢;generalize gr a b c=e at Y ⊢;show gI z 0*(gI x 0*gI e k-gI x k*gI e 0)+gI z 1*(gI x 1*gI e k-gI x k*gI e 1)+gI z 2*(gI x 2*gI e k-gI x k*gI e 2)+gI z 3*(gI x 3*gI e k-gI x k*gI e 3)=0
   grind) (by rw[A (λi=>gI x i*gI (gr a b c) k-gI x k*gI (gr a b c) i) k P];exact Ys _) j F
  rwa [A (λi=>gI x i*gI (gr a b c) k-gI x k*gI (gr a b c) i) j F]at this
 obtain⟨s,S,B,h⟩:=line (c:=0) P e0 (K k P) I (λj F=>by rw[M j F];decide) ⋯;exact Lies.of rfl v S K P B h
end
section
variable{m:Nat}{M:List (List Int)}{r x:List Int}{k:Nat}
theorem pe(P:k<m)(j:∀b∈B,b.length=m)(h0:∀b∈B,gI b k=0)(t:1<=g)(I:∀i,i<m->0<=gI x i)(U:1<=gI x k):Lies m B g x:=by
 refine#[unit m k,uc m k,λb L=>by rw[pA (j b L) P,h0 b L],λi hi=>?_,k,P,?_]
 ·have:=I i hi;rw[lX P];split
  ·rename_i e;subst e;lia
  ·lia
 ·rw[lX P,aaf rfl];decide
theorem yI{t G:Int}(la:a.length=m)(H:x.length=m)(J:∀z∈a,(z.natAbs:Int)<=t)(I:∀i,i<m->0<=gI x i)(h:((af a x).natAbs:Int)<=G)(P:k<m)(n:1<=t)(U:G+((m-1:Nat):Int)*t<gI x k)(E:2<=m):Lies m [a] (((m-1:Nat):Int)*t) x:=by
 have Z:t<=((m-1:Nat):Int)*t:=by
  have:(1:Int)*t<=((m-1:Nat):Int)*t:=Yn ⋯ ⋯
  lia
 by_cases h0:gI a k=0
 ·exact pe P (by simp[la]) (by simp[h0]) ⋯ I ⋯
 obtain⟨j,F,o,c,l⟩:=Fg la H I J h rfl P h0 U;have g:=J _ (dD (by lia:j<a.length));have p:=J _ (dD (by lia:k<a.length));have q:gI a j≠0:=λz=>by rw[z,Yp]at c;lia
 refine#[((List.replicate m 0).set k ((gI a j).natAbs:Int)).set j ((gI a k).natAbs:Int),by simp,λb L=>?_,λi hi=>?_,k,P,?_]
 ·rw[XC]at L;rw[L,kl la F _ (by simp),kl la P _ (by simp),fk,bE o,cn,cn];have:=yP c
  grind
 ·have:=I i hi;by_cases e1:i=j
  ·rw[e1,bX (by simpa using F)];lia
  ·rw[bE e1];by_cases e2:i=k
   ·rw[e2,bX (by simpa using P)];lia
   ·rw[bE e2,cn];lia
 ·rw[bE (ZX o),bX (by simpa using P)];lia
theorem Kl{l:List Nat}(h:l.length=2):∃u v,l=[u,v]:=by
 match l with
 |[u,v]=>exact#[u,v,rfl]
theorem Fy(E:jR m M r)(h:cv m M r≠[]):1<=gv M:=by
 obtain⟨q,K⟩:=YO _ h;have B:=(E.sq.st.pl q K).1;rcases aV (gv M) 1 with w|w
 ·exfalso;have g:KC m M (unit m q.1):=#[uc _ _,λb L=>by
   rw[pA (E.wd b L) B];have:=CC L (dD<|by rw[E.wd b L];exact B)
   lia]
  have:=sM E g (λi hi=>by
   rw[lX B,aae];intro e;exact(fg.mp hi).2<|e▸XD.mpr #[q,K,rfl]) q.1 B
  rw[lX B,aaf rfl]at this;cases this
 ·exact w
theorem Lies.Mp(h:Lies m B g x)(F:∀y,y.length=m->(∀b∈B,af b y=0)->KC m M y):∃y,KC m M y/\(∀i,i<m->0<=gI y i/\gI y i<=gI x i/\gI y i<=g)/\∃i,i<m/\0<gI y i:=by obtain⟨y,Z,Y,u,Q⟩:=h;exact#[y,F y Z Y,u,Q]
theorem Lies.up(h:Lies m B g x)(t:g<=g'):Lies m B g' x:=by obtain⟨y,Z,Y,u,Q⟩:=h;exact#[y,Z,Y,λi hi=>#[(u i hi).1,(u i hi).2.1,Int.le_trans (u i hi).2.2 t],Q]
theorem under(E:jR m M r)(H:x.length=m)(I:∀i,i<m->0<=gI x i)(l:fH M r x)(P:k∈bN m (cv m M r))(L:jf m M r<gI x k)(Q:m=4->(cv m M r).length≠1->∀q∈M,af q x=0):
  ∃y,KC m M y/\(∀i,i<m->0<=gI y i/\gI y i<=gI x i/\gI y i<=mI (cv m M r).length (bN m<|cv m M r).length (gv M) 0)/\∃i,i<m/\0<gI y i:=by
 obtain⟨B,b1,b2,s,O⟩:=base E;refine Lies.Mp ?_ O;have j:∀b∈B,b.length=m:=λb L=>E.wd b (b2 b L)
 have J:=mG (p:=0) E.sq;have f1:=List.length_pos_of_mem P;have K:=(fg.mp P).1;have n:B≠[]->1<=gv M:=λo=>Fy E λe=>o (List.length_eq_zero_iff.mp<|by rw[b1,e];rfl)
 have W:∀b∈B,∀z∈b,(z.natAbs:Int)<=gv M:=λb L z g=>CC (b2 b L) g
 have X:∀b∈B,∀i,i<m->((gI b i).natAbs:Int)<=gv M:=λb L i hi=>W b L _ (dD<|by rw[j b L];exact hi)
 have U:∀y,y.length=m->(∀b∈B,af b y=0)->(∀i∈bN m (cv m M r),gI y i=0)->∀i,i<m->gI y i=0:=λy F Z Y=>sM E (O y F Z) Y
 have LR:=(hZ E.rb).1;have one:(bN m<|cv m M r).length=1->∀i∈bN m (cv m M r),i=k:=λh i hi=>by obtain⟨z,g⟩:=List.length_eq_one_iff.mp h;rw[g,XC]at hi P;rw[hi,P]
 unfold jf at L;have Ql:∀b∈B,((af b x).natAbs:Int)<=ff r:=λb L=>s b L x H l
 have Rq:m=4->(cv m M r).length≠1->∀b∈B,af b x=0:=λe h b L=>Q e h b (b2 b L)
 have GM:(bN m<|cv m M r).Pairwise (· < ·):=List.pairwise_lt_range.filter _;have cO:∀i∈bN m (cv m M r),i<m:=λi hi=>(fg.mp hi).1
 rw[<-b1]at J L Rq ⊢;generalize bN m (cv m M r)=FR at *;generalize gv M=t at *;generalize ff r=G at *;have m4:=E.m4
 match B with
 |[]=>have L:(1:Int)<gI x k:=L;exact pe K j (by simp) (show (1:Int)<=1 by decide) I ⋯
 |[a]=>
  have A:FR.length=m-1:=by simp at J;lia
  rw[A]at L ⊢;have L:1*(G+((m-1:Nat):Int)*t)<gI x k:=L;show Lies m [a] (1*(0+((m-1:Nat):Int)*t)) x;rw[Int.one_mul]at L ⊢;rw[Yv];exact yI (j a<|by simp) H (W a<|by simp) I (Ql a<|by simp) K (n<|by simp) L ⋯
 |[a,b]=>
  have hm:(m=3/\FR.length=1)\/(m=4/\FR.length=2):=by simp at J;lia
  rcases hm with ⟨rfl,A⟩|⟨rfl,A⟩
  ·rw[A]at L ⊢;have L:2*t*(G+1*t)<gI x k:=L;show Lies 3 [a,b] (2*t*(0+1*t)) x;rw[Int.one_mul]at L ⊢;rw[Yv];exact MS (j a<|by simp) (j b<|by simp) H (X a<|by simp) (X b<|by simp) I (Ql a<|by simp) (Ql b<|by simp) K (λy F Z Y h3=>U y F (by simp[Z,Y]) λi hi=>by rw[one A i hi];exact h3) L
  ·rw[A]at L ⊢;have L:2*t*(G+2*t)<gI x k:=L;show Lies 4 [a,b] (2*t*(0+2*t)) x;have S:=n (by simp);have tt:0<=2*t*t:=Yo ⋯ ⋯;have e1:2*t*(0+2*t)=2*(2*t*t):=by grind
   have e2:2*t*(G+2*t)=2*t*G+2*(2*t*t):=by grind
   have tG:0<=2*t*G:=Yo ⋯ LR;obtain⟨u,v,g⟩:=Kl A;have hx:=Rq rfl (by simp);rw[g]at GM P;have KU:u<v:=by simpa using GM
   have hv:=cO v (by rw[g];simp);rcases Jw (j a<|by simp) (j b<|by simp) H (X a<|by simp) (X b<|by simp) I (hx a<|by simp) (hx b<|by simp) KU hv (by
    simp only[Xg,Xh,aan]at P;rcases P with rfl|rfl
    ·exact .inl ⋯
    ·exact .inr ⋯) (λy F Z Y h3 Q=>U y F (by simp[Z,Y]) λi hi=>by
     rw[g]at hi;simp only[Xg,Xh,aan]at hi;rcases hi with rfl|rfl<;>assumption)with w|w
   ·have:=w k K;lia
   ·exact w.up ⋯
 |[a,b,c]=>
  have hm:m=4/\FR.length=1:=by simp at J;lia
  obtain⟨rfl,A⟩:=hm;rw[A]at L ⊢;have L:4*t*t*(G+1*t)<gI x k:=L;show Lies 4 [a,b,c] (4*t*t*(0+1*t)) x;have S:=n (by simp);have e1:4*t*t*(0+1*t)=4*t*t*t:=by grind
  have e2:4*t*t*(G+1*t)=4*t*t*t+4*t*t*G:=by grind
  have tG:0<=4*t*t*G:=Yo (Yo ⋯ ⋯) LR;rw[e1];exact MU (j a<|by simp) (j b<|by simp) (j c<|by simp) H (X a<|by simp) (X b<|by simp) (X c<|by simp) I K (Rq rfl<|by simp) (λy F Z Y=>U y F Z λi hi=>by rw[one A i hi];exact Y) ⋯
 |a::b::c::d::R=>simp at J;lia
end
section
variable{m:Nat}{M:List (List Int)}{x:List Int}
theorem Jo(n:∀f∈F,f.length=m)(g:y.length=m)(H:x.length=m)(h:ei y F=G')(J:dG y x=G'):ei x F=G':=by obtain⟨f,A,k⟩:=XH.mp h;exact XH.mpr #[f,A,zk (by rw[n f A,g]) (by rw[g,H]) k J]
theorem pd(E:jR m M (zeros M.length)):∀f∈aI m M,f∈iJ m M (zeros M.length)/\0<f.sum:=λf A=>by
 rcases j5 A with h|⟨Z,Y⟩
 ·cases h
 ·exact#[lU.mp Z,Y]
theorem full(E:jR m M (zeros M.length))(H:x.length=m)(I:∀i,i<m->0<=gI x i)(l:∀q∈M,af q x=0)(B:∃i,i<m/\0<gI x i):ei x (aI m M)=G':=by
 have a:∀y:List Int,y.length=m->(∀i,i<m->0<=gI y i)->(∀q∈M,af q y=0)->(∃i,i<m/\0<gI y i)->(∀i∈bN m (cv m M<|zeros M.length),gI y i<=jf m M (zeros M.length))->ei y (aI m M)=G':=λy g Z Y u Q=>
  o7 (lU.mpr<|(gN E).mpr #[g,Z,dC.mpr Y,Q]) (xO (by rw[g];exact Z)<|by rw[g];exact u)
 by_cases o:∀i∈bN m (cv m M<|zeros M.length),gI x i<=jf m M (zeros M.length)
 ·exact a x H I l B o
 ·obtain⟨k,P,L⟩:∃k∈bN m (cv m M<|zeros M.length),jf m M (zeros M.length)<gI x k:=Yc λJ=>o λi hi=>by
   rcases aV (jf m M<|zeros M.length) (gI x i)with z|z
   ·exact absurd #[i,hi,z] J
   ·exact z
  obtain⟨y,⟨g,F⟩,Z,Y⟩:=under E H I (dC.mpr l) P L λ_ _=>l
  refine Jo (λf A=>((gN E).mp (pd E f A).1).1) g H (a y g (λi hi=>(Z i hi).1) F Y λi hi=>?_)<|(dU<|by rw[g,H]).mpr λi hi=>(Z i ⋯).2.1;unfold jf;rw[yq];exact(Z i (fg.mp hi).1).2.2
end
end Rx
end
section
namespace Rx
open PySem PySem.W PySem.Spec PyProof.Rows L2 PySem.SeqAt
theorem Ck(h:fs[k]?=y' g):ay fs (n+1) k args S=gU (ay fs n) g args S:=by show (match fs[k]? with|some g=>gU (ay fs n) g args S|none=>R.bad)=_;rw[h]
section
variable{g:G}{K:Frag}{mg:Str->Option Value}{P:Program}{w:World}{base:Heap}{fs:List Fn}
theorem u9{o y p pm Y ct t:Value}
   (hm:MG g mg) (r:XG g K mg xv) (ok:rF g K mg 0 g.fns fs) (O:K.lookup f=y' #[t,od,.func<|PySem.W.fnOf "law" "law" params body scope o y p pm an Y ct,w5]) (zw:PySem.W.codeIn K Y "law"=G') (S:fG N ps scope)
  (c:∀i,i<ps.length->M[i]?≠y' G') (B:ps.length=1) (J:Ht m g #[scope.names,N,M,δ,κ] J' fF body=y' ts) (A:fs[L]?=y' #[1,N.length,J',ts])
  (I:∀ns:List Int,ns.length<=63->∃S,ay fs (n+1) L [.iZ ns] B'= .ok (.bl G',S)):
  jS P w K mg base (uk P w) (n+1) f (PySem.W.fnOf "law" "law" params body scope o y p pm an Y ct) ps (Cr K):=by
 have h:=oY O zw S hm r (nE (P:=P) (w:=w) (base:=base) hm r ok n) c (λz=>by cases z) J;refine h.imp λU H Q E q=>?_
 obtain⟨a,ns,rfl,l,W,hq⟩:=q;obtain⟨k,hS⟩:=I ns W;rw[Ck A]at hS;rw[B];refine#[rfl,N0,B',[.iZ ns],B',[.ref a],#[rfl,rfl,rfl],ar.cons ?_ ar.nil,λb z=>z.elim,?_]
 ·unfold RV;refine#[a,rfl,?_];rcases l with l|l
  ·exact .inl #[l,λz=>z]
  ·exact .inr l
 ·rw[hS];intro v j fo;rw[fo.val.bO];exact hq j
end
theorem walkR{l:PySem.W.OpenLaw}{K:Params->PySem.W.Frag}(I:l.most=y' 63)(m:d.params.defaults=[])(hr:jb k callerA)
  (E:∀(w:World)(h:Heap),YP w h->(K w.params).In h)
  (F:∀(w:World)(mg:Str->Option Value)(y:Addr)(h:Heap),(K w.params).In h->h.Ns mainGlobals mg->mg d.name=y' (.ref y)->
   ∃g:FuncData,(∀(s:Shared)(u:Value),BindsTo s g #[[u],[]] [("_law_script",u)])/\∀base:Heap,(K w.params).In base->base.Ns mainGlobals mg->jS l.prog w (K w.params) mg base (uk l.prog w) k y g ["_law_script"] (Cr<|K w.params)):
  PySem.W.WalkO q loose XP YP l.row.toRowW d [] (λf U=>PySem.call f U):=
 L2.rh I (by decide) m hr E F (λ_ _ a ns W _ hS=>#[a,ns,rfl,hS,W,λ_=>rfl]) λ_ _ _ _ _ z=>by obtain⟨_,_,_,_,_,_,_,_,_,z⟩:=z;exact z
structure Row where
 nm:Str
 s:Stmt
 ps:List Str
 ms:List Str:=[]
 dr:Option Str:=B'
 dp:Bool:=J'
 fJ:List Dt:=[]
 dk:Option Str:=B'
namespace Row
def N(r:Row):List Str:=V3 (bM r.s).names r.ps
def gm(r:Row):Gm:=#[(bM r.s).names,r.N,MZ r.N r.ms,if r.dp then y' 0 else r.dr.bind (Bp · r.N),r.dk.bind (Bp · r.N)]
def fn(g:G)(j:Nat)(r:Row):Option Fn:=(Ht 60 g r.gm r.dp (g.fr j)<|jk r.s).map λts=>#[r.ps.length,r.N.length,r.dp,ts]
def ent(r:Row):Str×Nat×List Dt×Bool:=(r.nm,r.ps.length,r.fJ,r.dp)
def ok(r:Row):Bool:=
 ((bM r.s).kind== .function)&& !(bM r.s).isCoroutine&& !(bM r.s).isGenerator&&decide r.N.Nodup&&decide (r.N.take r.ps.length=r.ps)&&
 (r.ps.all λx=>(bM r.s).names.lookup x==y' .local||(bM r.s).names.lookup x==y' .cell)&&((bM r.s).names.all λy=>y.2 != .free)&&
 ((MZ r.N r.ms).take r.ps.length).all (λb=> !b)&&r.fJ.all rE
theorem scope{r:Row}(h:r.ok=G'):fG r.N r.ps (bM r.s)/\(∀i,i<r.ps.length->(MZ r.N r.ms)[i]?≠y' G')/\r.fJ.all rE=G':=by
 unfold ok at h;simp only[W3]at h;obtain⟨⟨⟨⟨⟨⟨⟨⟨Z,Y⟩,u⟩,Q⟩,A⟩,j⟩,X⟩,a⟩,L⟩:=h;refine#[#[Xr Z,by simpa using Y,by simpa using u,W5 Q,W5 A,λx U=>?_,λy F e=>?_],MX a,L]
 ·have:=XF.mp j x U;rcases Ya.mp this with z|z
  ·exact .inl<|Xr z
  ·exact .inr<|Xr z
 ·have:=XF.mp X y F;rw[e]at this;cases this
end Row
def sj(g:G):Nat->List Row->Option (List Fn)
 |_,[]=>y' []
 |j,r::rs=>(r.fn g j).bind λf=>(sj g (j+1) rs).map (f:: ·)
def Fd(K:Frag)(nm:Str)(s:Stmt)(ps:List Str)(fJ:List Dt):Prop:=∃(y:Addr)(t o kV p pm Y ct:Value)(od k:Option Addr)(J:Array (Option Value)),
 nsIn K mainGlobals nm=y' (y'<|.ref y)/\K.lookup y=y' #[t,od,.func<|fnOf nm nm (qa s) (jk s) (bM s) o kV p pm k Y ct,J]/\codeIn K Y nm=G'/\keepIn K (.ref y)=G'/\(fJ=[]->o= .none)/\
 ∀j,j<=fJ.length->∃ds,aw ((fJ.drop j).map qR) ds/\Binds K (fnOf nm nm (qa s) (jk s) (bM s) o kV p pm k Y ct) ps ds
def OX(K:Frag):List Row->Prop
 |[]=>True
 |r::rs=>Fd K r.nm r.s r.ps r.fJ/\OX K rs
section
variable{g:G}{K:Frag}{mg:Str->Option Value}{h:Heap}{fs:List Fn}
theorem AW(X:K.In h)(j:h.Ns mainGlobals mg):∀{rs:List Row}{i:Nat}{fs:List Fn},rs.all Row.ok=G'->sj g i rs=y' fs->OX K rs->rF g K mg i (rs.map Row.ent) fs
 |[],i,fs,_,e,_=>by cases e;trivial
 |r::rs,i,fs,P,e,F=>by rw[YD,W3]at P;obtain⟨f,e1,e⟩:=W0.mp e;obtain⟨m,e2,rfl⟩:=Xj.mp e;obtain⟨ts,v,rfl⟩:=Xj.mp e1;obtain⟨⟨y,t,o,kV,doc,pm,Y,ct,od,an,J,a,l,c,k,_,b⟩,F⟩:=F;obtain⟨s1,p,s3⟩:=Row.scope P.1;exact#[#[y,r.ps,r.N,_,_,_,60,t,od,an,J,_,_,_,o,kV,doc,pm,Y,ct,l,c,k,mg_of X j a,s1,p,λz=>aaf z,rfl,v,rfl,rfl,rfl,b,s3],AW X j P.2 e2 F]
theorem HK:∀{L i:Nat}{fs:List Fn}{r:Row},sj g i rs=y' fs->rs[L]?=y' r->∃ts,Ht 60 g r.gm r.dp (g.fr<|i+L) (jk r.s)=y' ts/\fs[L]?=y' #[r.ps.length,r.N.length,r.dp,ts]:=by
 induction rs with
 |nil=>intro L i fs r _ e;simp at e
 |cons Q rs O=>
  intro L i fs r e w;obtain⟨f,e1,e⟩:=W0.mp e;obtain⟨m,e2,rfl⟩:=Xj.mp e;cases L with
  |zero=>cases w;obtain⟨ts,v,rfl⟩:=Xj.mp e1;exact#[ts,v,rfl]
  |succ L=>obtain⟨ts,v,X⟩:=O e2 (by simpa using w);exact#[ts,by rw[show i+(L+1)=i+1+L by lia];exact v,by simpa using X]
theorem AQ:∀{rs:List Row}{L:Nat}{r:Row},OX K rs->rs[L]?=y' r->Fd K r.nm r.s r.ps r.fJ
 |[],L,r,_,e=>by simp at e
 |Q::rs,0,r,F,e=>by cases e;exact F.1
 |Q::rs,L+1,r,F,e=>AQ F.2 (by simpa using e)
def Qa(K:Frag):List Str->Prop
 |[]=>True
 |x::xs=>nsIn K mainGlobals x=y' B'/\Qa K xs
def P4(K:Frag):List (Str×Dt)->Prop
 |[]=>True
 |x::xs=>(∃u,nsIn K mainGlobals x.1=y' (y' u)/\rE x.2=G'/\RelV (qR x.2) u)/\P4 K xs
theorem BD:∀{xs:List Str},Qa K xs->x∈xs->nsIn K mainGlobals x=y' B'
 |y::xs,h,U=>by
  rcases Xg.mp U with rfl|U
  ·exact h.1
  ·exact BD h.2 U
theorem AB:∀{xs:List (Str×Dt)},P4 K xs->xs.lookup x=y' d->∃u,nsIn K mainGlobals x=y' (y' u)/\rE d=G'/\RelV (qR d) u
 |[],_,e=>by simp at e
 |y::xs,h,e=>by
  rw[Xu]at e;split at e
  ·rename_i q;cases e;rw[Xr q];exact h.1
  ·exact AB h.2 e
def Qg(K:Frag)(C:Addr):List (Str×Bool)->Prop
 |[]=>True
 |x::xs=>(∃c,(nsIn K mainGlobals x.1=y' (y' c)/\(∃D,c= .ref D)\/nsIn K mainGlobals x.1=y' B'/\x.1="ValueError"/\c= .type "ValueError")/\kitOne K (.ref C) c=y' x.2/\(x.2=G'->exmOne K (.ref C) c=y' G'))/\Qg K C xs
def Qf(K:Frag):List (Str×List (Str×Bool))->Prop
 |[]=>True
 |x::xs=>(∃C,nsIn K mainGlobals x.1=y' (y'<|.ref C)/\excIn K C Ho "ValueError.__new__"=G'/\zQ K C/\Qg K C x.2)/\Qf K xs
theorem CS(X:K.In h)(j:h.Ns mainGlobals mg){C:Addr}:∀{xs:List (Str×Bool)},Qg K C xs->xs.lookup t=y' b->∃c,(mg t=y' c/\(∃D,c= .ref D)\/mg t=B'/\t="ValueError"/\c= .type "ValueError")/\kitOne K (.ref C) c=y' b/\(b=G'->exmOne K (.ref C) c=y' G')
 |[],_,e=>by simp at e
 |y::xs,U,e=>by
  rw[Xu]at e;split at e
  ·rename_i q;cases e;rw[Xr q];obtain⟨c,Z,Y⟩:=U.1;exact#[c,Z.imp (λz=>#[mg_of X j z.1,z.2]) λz=>#[mg_none_of X j z.1,z.2],Y]
  ·exact CS X j U.2 e
def OU(g:G)(mg:Str->Option Value)(k:Nat):Value:=((g.xs[k]?).bind λx=>mg x.1).getD .none
theorem CO(X:K.In h)(j:h.Ns mainGlobals mg):∀{xs:List (Str×List (Str×Bool))}{k:Nat}{x:Str}{ts:List (Str×Bool)},Qf K xs->xs[k]?=y' (x,ts)->∃C,mg x=y' (.ref C)/\KF K mg C ts
 |[],k,x,ts,_,e=>by simp at e
 |y::xs,0,x,ts,U,e=>by cases e;obtain⟨C,Z,Y,u,Q⟩:=U.1;exact#[C,mg_of X j Z,Y,u,λt b q=>CS X j Q q]
 |y::xs,k+1,x,ts,U,e=>CO X j U.2 (by simpa using e)
theorem law_mk{l:OpenLaw}{dr q:Option Str}(X:K.In h)(j:h.Ns mainGlobals mg)(m:mg "law"=y' (.ref fa))
  (y:rs[L]?=y' #["law",sL,["_law_script"],ms,dr,J',[],q]) (P:rs.all Row.ok=G') (i:sj #[rs.map Row.ent,cons,bls,fr,xs] 0 rs=y' fs)
  (hb:∀(s:Shared)(v:Value)(kV p pm gw ct:Value)(an:Option Addr),BindsTo s (fnOf "law" "law" (qa sL) (jk sL) (bM sL) .none kV p pm an gw ct) #[[v],[]] [("_law_script",v)])
  (I:∀ns:List Int,ns.length<=63->∃S,ay fs (n+1) L [.iZ ns] B'= .ok (.bl G',S)) (B:Qa K bls) (C:P4 K cons) (F:OX K rs) (E:Qf K xs):
  ∃g:FuncData,(∀(s:Shared)(v:Value),BindsTo s g #[[v],[]] [("_law_script",v)])/\∀base:Heap,K.In base->base.Ns mainGlobals mg->jS l.prog w K mg base (uk l.prog w) (n+1) fa g ["_law_script"] (Cr K):=by
 have r:XG #[rs.map Row.ent,cons,bls,fr,xs] K mg (OU #[rs.map Row.ent,cons,bls,fr,xs] mg):=λk x ts e=>by obtain⟨C,Z,Y⟩:=CO X j E e;exact#[C,by simp[OU,e,Z],Z,Y]
 have hm:MG #[rs.map Row.ent,cons,bls,fr,xs] mg:=#[λx d U=>by
   obtain⟨u,k1,k2,k3⟩:=AB C U;exact#[u,k2,mg_of X j k1,k3],λx U=>mg_none_of X j<|BD B U]
 have ok:=AW X j P i F;obtain⟨z,t,o,kV,p,pm,gw,ct,od,an,J,a,lk,c,k,hd,b⟩:=AQ F y;cases hd rfl;have e:=m.symm.trans<|mg_of X j a;cases e;obtain⟨ts,c1,c2⟩:=HK i y;have hok:=Row.scope<|XF.mp P _<|Zi.mpr #[L,y];exact#[_,λs v=>hb s v kV p pm gw ct an,λbase _ _=>u9 hm r ok lk c hok.1 hok.2.1 rfl c1 c2 I]
end
end Rx
end
section
namespace K23
open PySem PySem.W PySem.Spec PyProof.Rows L2 Mx Rx
def top(i:Nat):Stmt:=PySem.Challenge.pw_mixform_k23_whole_sums.main.body.getD i<|.Pass #[0,0,0,0]
abbrev rows:List Rx.Row:=[#["product",top 7,["one","other"],[],B',J',[],B'],
 #["solves",top 8,["rows","row","right"],[],B',J',[.bj],B'],
 #["cleared",top 10,["row","place","by"],[],B',J',[],B'],
 #["settled",top 11,["rows","many","right"],[],B',J',[],B'],
 #["greatest",top 12,["rows","right","settled_many","free_many"],[],B',J',[],B'],
 #["walked",top 13,["many","free","bound"],[],B',J',[],B'],
 #["completed",top 14,["row","pairs"],["whole"],B',J',[],B'],
 #["solutions",top 15,["rows","many","right"],[],B',J',[],B'],
 #["check_bounds",top 21,["rows","many","right"],[],B',J',[],B'],
 #["lies_under",top 22,["one","other"],[],B',J',[],B'],
 #["lies_over",top 23,["row","found"],[],B',J',[],B'],
 #["least",top 24,["rows","many"],["found"],B',J',[],B'],
 #["shares",top 25,["rows","row"],["pairs"],B',J',[],B'],
 #["_law_draws",top 27,["_law_script"],["_law_draws_here","_law_left"],B',J',[],B'],
 #["_law_take",top 28,["_law_draws_here","_law_many"],[],B',G',[],B'],
 #["_law_wide",top 29,["_law_draws_here","_law_many"],[],B',G',[],B'],
 #["_law_whole",top 30,["_law_found"],[],B',J',[],B'],
 #["_law_weighed",top 31,["_law_line","_law_row"],[],B',J',[],B'],
 #["_law_solves",top 32,["_law_rows_here","_law_row","_law_right"],[],B',J',[],B'],
 #["_law_rows",top 33,["_law_draws_here","_law_many"],["_law_rows_here"],B',G',[],B'],
 #["_law_taken",top 34,["_law_draws_here","_law_smalls","_law_many","_law_far","_law_times_at_most"],[],B',G',[],B'],
 #["_law_good",top 35,["_law_found","_law_smalls","_law_row"],["_law_seen"],B',J',[],B'],
 #["_law_refused",top 36,["_law_rows_here","_law_row"],[],B',J',[],B'],
 #["law",top 37,["_law_script"],["_law_found"],y' "_law_draws_here",J',[],B']]
abbrev cons:List (Str×Dt):=[("MOST_ROWS",(.int 16)),("MOST_MANY",(.int 4)),("MOST_NUMBER",(.int 3)),("MOST_RIGHT",(.int 20))]
abbrev bls:List Str:=["abs","all","any","bool","divmod","int","isinstance","len","list","max","min","range","sorted","sum","tuple","zip"]
abbrev fr(i:Nat):Bool:=[J',J',J',J',J',J',J',G',J',J',J',G',G',G',J',G',J',J',J',G',J',J',J',J'].getD i J'
abbrev xs:List (Str×List (Str×Bool)):=[("TooMany",[("MixError",G'),("NoRow",J'),("NoRule",J'),("NoText",J'),("TooMany",G'),("ValueError",G')]),("NoRow",[("MixError",G'),("NoRow",G'),("NoRule",J'),("NoText",J'),("TooMany",J'),("ValueError",G')])]
def Uv:Ts:=(.cons (.asg 1<|.bi .list<|.cons (.sliH (.var 0)<|.con<|.int 63) .nil)<|.cons (.asgM 2<|.bi .list<|.cons (.var 1) .nil)<|.cons (.asgM 3<|.lst .nil)<|.cons (.fr (.nm 4) (.rng1<|.con<|.int 1500)<|.cons (.asg 5<|.bin .Mod (.var 4)<|.bi .max2<|.cons (.con<|.int 1)<|.cons (.bi .len<|.cons (.var 1) .nil) .nil)<|.cons (.asg 6<|.bin .Add (.bin .Mult (.var 4)<|.con<|.int 7919)<|.con<|.int 5)<|.cons (.ifs (.cmp .Gt (.bi .len<|.cons (.var 1) .nil)<|.con<|.int 0) (.cons (.asg 6<|.bin .Mult (.bin .Mod (.idx (.var 1)<|.var 5)<|.con<|.int 2147483647)<|.con<|.int 48271)<|.cons (.asg 6<|.bin .Add (.bin .Add (.var 6)<|.bin .Mult (.bin .Mult (.var 4)<|.var 4)<|.con<|.int 7919)<|.con<|.int 11) .nil) .nil)<|.cons (.asg 6<|.bin .Add (.bin .Mod (.bin .Mult (.var 6)<|.var 6)<|.con<|.int 2147483629)<|.bin .Mult (.con<|.int 3)<|.var 4)<|.cons (.asg 6<|.bin .FloorDiv (.bin .Mod (.bin .Mult (.var 6)<|.var 6)<|.con<|.int 2147483587)<|.con<|.int 7)<|.cons (.ifs (.and (.cmp .Gt (.bi .len<|.cons (.var 1) .nil)<|.con<|.int 0)<|.and (.cmp .GtE (.idx (.var 1)<|.var 5)<|.bin .Pow (.con<|.int 10)<|.con<|.int 18)<|.cmp .Gt (.idx (.mvr 2)<|.var 5)<|.con<|.int 0) (.cons (.asg 6<|.bin .Mod (.idx (.mvr 2)<|.var 5)<|.con<|.int 2147483629)<|.cons (.tR 2 (.var 5)<|.bin .FloorDiv (.idx (.mvr 2)<|.var 5)<|.con<|.int 2147483629) .nil) .nil)<|.cons (.app 3<|.var 6) .nil)<|.cons (.rvs 3)<|.cons (.ret<|.mvr 3) .nil)
def Uw:Ts:=(.cons (.ifs (.cmp .Eq .lenD<|.con<|.int 0) (.cons (.ret<|.con<|.int 0) .nil) .nil)<|.cons (.ret<|.bin .Mod .popD<|.var 1) .nil)
def Ux:Ts:=(.cons (.ret<|.bin .Mod (.bin .Add (.bin .Mult (.callD 14<|.cons (.con<|.int 2147483629) .nil)<|.con<|.int 2147483629)<|.callD 14<|.cons (.con<|.int 2147483629) .nil)<|.var 1) .nil)
def Qj:Ts:=(.cons (.asg 2<|.idx (.lst<|.cons (.con<|.int 1)<|.cons (.con<|.int 1)<|.cons (.con<|.int 2)<|.cons (.con<|.int 2)<|.cons (.con<|.int 3)<|.cons (.con<|.int 0)<|.cons (.con<|.int 4) .nil)<|.callD 14<|.cons (.con<|.int 7) .nil)<|.cons (.asg 3<|.con<|.int 3)<|.cons (.ifs (.and (.cmp .Gt (.var 2)<|.con<|.int 1)<|.cmp .Eq (.var 1)<|.con<|.int 4) (.cons (.asg 3<|.bin .Sub (.con<|.int 4)<|.bi .min2<|.cons (.var 2)<|.cons (.con<|.int 3) .nil) .nil) .nil)<|.cons (.asgM 4<|.lst .nil)<|.cons (.fr (.nm 5) (.rng1<|.var 2)<|.cons (.asg 6<|.comp [B',B',y' 0,y' 3] (.rng1<|.var 1) (.nm 1) .nil<|.bin .Sub (.callD 14<|.cons (.bin .Add (.bin .Mult (.con<|.int 2)<|.var 3)<|.con<|.int 1) .nil)<|.var 3)<|.cons (.ifs (.and (.cmp .Gt (.var 5)<|.con<|.int 0)<|.cmp .Eq (.callD 14<|.cons (.con<|.int 3) .nil)<|.con<|.int 0) (.cons (.asg 6<|.comp [B',B',B'] (.zip (.idx (.mvr 4)<|.con<|.int 0)<|.idx (.mvr 4)<|.bin .Sub (.var 5)<|.con<|.int 1) (.tp [1,2]) .nil<|.bin .Add (.var 1)<|.var 2)<|.cons (.asg 6<|.comp [B',B',y' 3] (.seq<|.var 6) (.nm 1) .nil<|.bi .max2<|.cons (.bin .Sub (.con<|.int 0)<|.var 2)<|.cons (.bi .min2<|.cons (.var 2)<|.cons (.var 1) .nil) .nil) .nil) .nil)<|.cons (.app 4<|.bi .tuple<|.cons (.var 6) .nil) .nil)<|.cons (.ret<|.mvr 4) .nil)
def SV:Ts:=(.cons (.asg 6<|.comp [B',B'] (.rng1<|.var 2) (.nm 1) .nil<|.con<|.int 0)<|.cons (.fr (.nm 5) (.rng1<|.bi .max2<|.cons (.bi .len<|.cons (.var 1) .nil)<|.cons (.var 4) .nil)<|.cons (.ifs (.cmp .Gt (.bi .len<|.cons (.var 1) .nil)<|.con<|.int 0) (.cons (.asg 7<|.callD 15<|.cons (.bin .Add (.var 3)<|.con<|.int 1) .nil)<|.cons (.asg 6<|.comp [B',B',B',y' 7] (.zip (.var 6)<|.idx (.var 1)<|.bin .Mod (.var 5)<|.bi .len<|.cons (.var 1) .nil) (.tp [1,2]) .nil<|.bin .Add (.var 1)<|.bin .Mult (.var 3)<|.var 2) .nil) .nil) .nil)<|.cons (.ret<|.bi .tuple<|.cons (.var 6) .nil) .nil)
def SW:Ts:=(.cons (.ifs (.nt<|.bi (.isi "list")<|.cons (.var 0) .nil) (.cons (.ret<|.con<|.bl J') .nil) .nil)<|.cons (.asgM 3<|.lst .nil)<|.cons (.asg 4<|.comp [B',B'] (.seq<|.var 2) (.nm 1) .nil<|.con<|.int 0)<|.cons (.fr (.nm 5) (.seq<|.var 0)<|.cons (.ifs (.or (.nt<|.bi (.isi "tuple")<|.cons (.var 5) .nil)<|.or (.cmp .NotEq (.bi .len<|.cons (.var 5) .nil)<|.con<|.int 2)<|.or (.cmp .NotIn (.idx (.var 5)<|.con<|.int 0)<|.var 1)<|.cmp .In (.idx (.var 5)<|.con<|.int 0)<|.mvr 3) (.cons (.ret<|.con<|.bl J') .nil) .nil)<|.cons (.ifs (.or (.nt<|.bi (.isi "tuple")<|.cons (.idx (.var 5)<|.con<|.int 0) .nil)<|.or (.nt<|.call 16 (.cons (.idx (.var 5)<|.con<|.int 1) .nil) [])<|.cmp .Lt (.idx (.var 5)<|.con<|.int 1)<|.con<|.int 1) (.cons (.ret<|.con<|.bl J') .nil) .nil)<|.cons (.app 3<|.idx (.var 5)<|.con<|.int 0)<|.cons (.asg 4<|.comp [B',B',B',y' 5] (.zip (.var 4)<|.idx (.var 5)<|.con<|.int 0) (.tp [1,2]) .nil<|.bin .Add (.var 1)<|.bin .Mult (.idx (.var 3)<|.con<|.int 1)<|.var 2) .nil)<|.cons (.ret<|.cmp .Eq (.var 4)<|.bi .list<|.cons (.var 2) .nil) .nil)
def Uy:Ts:=(.cons (.tr (.cons (.DF<|.call 12 (.cons (.var 0)<|.cons (.var 1) .nil) []) .nil) [y' J',y' G'])<|.cons (.ret<|.con<|.bl J') .nil)
def Qk:Ts:=(.cons (.asgD 1<|.call 13 (.cons (.var 0) .nil) [])<|.cons (.asg 2<|.bin .Add (.con<|.int 1)<|.callD 14<|.cons (.con<|.int 4) .nil)<|.cons (.asg 3<|.callD 19<|.cons (.var 2) .nil)<|.cons (.asg 4<|.idx (.lst<|.cons (.con<|.int 3)<|.cons (.bin .Pow (.con<|.int 10)<|.con<|.int 6)<|.cons (.bin .Pow (.con<|.int 10)<|.con<|.int 14) .nil)<|.callD 14<|.cons (.con<|.int 3) .nil)<|.cons (.asg 5<|.callD 14<|.cons (.con<|.int 4) .nil)<|.cons (.asg 6<|.bin .Sub (.con<|.int 1)<|.bin .Mult (.con<|.int 2)<|.callD 14<|.cons (.con<|.int 2) .nil)<|.cons (.asg 7<|.callD 14<|.cons (.con<|.int 2) .nil)<|.cons (.asg 8<|.callD 14<|.cons (.con<|.int 60) .nil)<|.cons (.asg 9<|.call 11 (.cons (.var 3)<|.cons (.var 2) .nil) [])<|.cons (.asg 10<|.callD 20<|.cons (.var 9)<|.cons (.var 2)<|.cons (.var 4)<|.cons (.callD 14<|.cons (.con<|.int 64) .nil) .nil)<|.cons (.asg 11<|.bi .list<|.cons (.var 3) .nil)<|.cons (.asgM 12<|.call 12 (.cons (.var 11)<|.cons (.var 10) .nil) [])<|.cons (.ifs (.or (.nt<|.call 21 (.cons (.mvr 12)<|.cons (.var 9)<|.cons (.var 10) .nil) [])<|.cmp .NotEq (.var 11)<|.var 3) (.cons (.ret<|.con<|.bl J') .nil) .nil)<|.cons (.clr 12)<|.cons (.ifs (.nt<|.call 21 (.cons (.call 12 (.cons (.var 11)<|.cons (.var 10) .nil) [])<|.cons (.var 9)<|.cons (.var 10) .nil) []) (.cons (.ret<|.con<|.bl J') .nil) .nil)<|.cons (.asg 13<|.bin .Mod (.var 5)<|.var 2)<|.cons (.asg 14<|.bin .Add (.bin .Add (.sliH (.var 10)<|.var 13)<|.tup<|.cons (.bin .Add (.idx (.var 10)<|.var 13)<|.var 6) .nil)<|.sliL (.var 10)<|.bin .Add (.var 13)<|.con<|.int 1)<|.cons (.ifs (.and (.cmp .GtE (.bi .minL<|.cons (.var 14) .nil)<|.con<|.int 0)<|.call 18 (.cons (.var 3)<|.cons (.var 14)<|.cons (.comp [B',B'] (.seq<|.var 3) (.nm 1) .nil<|.con<|.int 0) .nil) []) (.cons (.ifs (.nt<|.call 21 (.cons (.call 12 (.cons (.var 11)<|.cons (.var 14) .nil) [])<|.cons (.var 9)<|.cons (.var 14) .nil) []) (.cons (.ret<|.con<|.bl J') .nil) .nil) .nil)<|.cons (.ifs (.nt<|.call 22 (.cons (.var 11)<|.cons (.var 14) .nil) []) (.cons (.ret<|.con<|.bl J') .nil) .nil) .nil)<|.cons (.asg 15<|.idx (.lst<|.cons (.bin .Add (.var 10)<|.tup<|.cons (.con<|.int 0) .nil)<|.cons (.sliL (.var 10)<|.con<|.int 1) .nil)<|.var 7)<|.cons (.ifs (.and (.cmp .Gt (.bi .len<|.cons (.var 3) .nil)<|.con<|.int 0)<|.and (.cmp .Lt (.bi .len<|.cons (.var 15) .nil)<|.con<|.int 5)<|.nt<|.call 22 (.cons (.var 11)<|.cons (.var 15) .nil) []) (.cons (.ret<|.con<|.bl J') .nil) .nil)<|.cons (.ifs (.cmp .Gt (.bi .len<|.cons (.var 9) .nil)<|.con<|.int 0) (.cons (.asg 16<|.bi .tuple<|.cons (.comp [B',B'] (.seq<|.idx (.var 9)<|.bin .Mod (.var 8)<|.bi .len<|.cons (.var 9) .nil) (.nm 1) .nil<|.bin .Sub (.con<|.int 0)<|.var 1) .nil)<|.cons (.ifs (.nt<|.call 22 (.cons (.var 11)<|.cons (.var 16) .nil) []) (.cons (.ret<|.con<|.bl J') .nil) .nil) .nil) .nil)<|.cons (.asg 17<|.bi .tuple<|.cons (.comp [B',B'] (.seq<|.var 10) (.nm 1) .nil<|.con<|.int 0) .nil)<|.cons (.ret<|.and (.cmp .Eq (.call 12 (.cons (.var 11)<|.cons (.var 17) .nil) [])<|.lst .nil)<|.call 21 (.cons (.call 12 (.cons (.bi .tuple<|.cons (.var 3) .nil)<|.cons (.var 10) .nil) [])<|.cons (.var 9)<|.cons (.var 10) .nil) []) .nil)
def fs:List Fn:=[#[2,2,J',vV],#[3,3,J',Lh 0],#[3,3,J',Dh],#[3,8,J',Hd 2],#[4,7,J',Dj],#[3,5,J',Do],#[2,7,J',Ha 0],#[3,8,J',Dl 3 4 5 6],#[3,3,J',Dg],#[2,4,J',Dm],#[2,3,J',Hc 9],#[2,4,J',Hb 8 7 10],#[2,7,J',Lg 8 1 11],#[1,7,J',Uv],#[2,2,G',Uw],#[2,2,G',Ux],#[1,1,J',Li],#[2,4,J',Af],#[3,4,J',Lb 17],#[2,7,G',Qj],#[5,8,G',SV],#[3,6,J',SW],#[2,4,J',Uy],#[1,18,J',Qk]]
theorem hok:rows.all Rx.Row.ok=G':=by decide +kernel
theorem hfs:sj #[rows.map Rx.Row.ent,cons,bls,fr,xs] 0 rows=y' fs:=by kernel_rfl
end K23
end
section
namespace Rx
open PySem PySem.W PySem.Spec PyProof.Rows L2
variable{fs:List Fn}
def rM:Ts:=(.cons (.ifs (.cmp .Eq .lenD<|.con<|.int 0) (.cons (.ret<|.con<|.int 0) .nil) .nil)<|.cons (.ret<|.bin .Mod .popD<|.var 1) .nil)
def FS(it:Nat):Ts:=(.cons (.ret<|.bin .Mod (.bin .Add (.bin .Mult (.callD it<|.cons (.con<|.int 2147483629) .nil)<|.con<|.int 2147483629)<|.callD it<|.cons (.con<|.int 2147483629) .nil)<|.var 1) .nil)
def La:Ts:=(.cons (.app 3<|.var 6) .nil)
def yg:C:=(.and (.cmp .Gt (.bi .len<|.cons (.var 1) .nil)<|.con<|.int 0)<|.and (.cmp .GtE (.idx (.var 1)<|.var 5)<|.bin .Pow (.con<|.int 10)<|.con<|.int 18)<|.cmp .Gt (.idx (.mvr 2)<|.var 5)<|.con<|.int 0)
def K9:Ts:=(.cons (.ifs yg (.cons (.asg 6<|.bin .Mod (.idx (.mvr 2)<|.var 5)<|.con<|.int 2147483629)<|.cons (.tR 2 (.var 5)<|.bin .FloorDiv (.idx (.mvr 2)<|.var 5)<|.con<|.int 2147483629) .nil) .nil) La)
def Di:Ts:=(.cons (.asg 6<|.bin .Add (.bin .Mod (.bin .Mult (.var 6)<|.var 6)<|.con<|.int 2147483629)<|.bin .Mult (.con<|.int 3)<|.var 4)<|.cons (.asg 6<|.bin .FloorDiv (.bin .Mod (.bin .Mult (.var 6)<|.var 6)<|.con<|.int 2147483587)<|.con<|.int 7) K9)
def K8:Ts:=(.cons (.asg 5<|.bin .Mod (.var 4)<|.bi .max2<|.cons (.con<|.int 1)<|.cons (.bi .len<|.cons (.var 1) .nil) .nil)<|.cons (.asg 6<|.bin .Add (.bin .Mult (.var 4)<|.con<|.int 7919)<|.con<|.int 5)<|.cons (.ifs (.cmp .Gt (.bi .len<|.cons (.var 1) .nil)<|.con<|.int 0) (.cons (.asg 6<|.bin .Mult (.bin .Mod (.idx (.var 1)<|.var 5)<|.con<|.int 2147483647)<|.con<|.int 48271)<|.cons (.asg 6<|.bin .Add (.bin .Add (.var 6)<|.bin .Mult (.bin .Mult (.var 4)<|.var 4)<|.con<|.int 7919)<|.con<|.int 11) .nil) .nil) Di)
def Aa:Ts:=(.cons (.asg 1<|.bi .list<|.cons (.sliH (.var 0)<|.con<|.int 63) .nil)<|.cons (.asgM 2<|.bi .list<|.cons (.var 1) .nil)<|.cons (.asgM 3<|.lst .nil)<|.cons (.fr (.nm 4) (.rng1<|.con<|.int 1500) K8)<|.cons (.rvs 3)<|.cons (.ret<|.mvr 3) .nil)
section
variable{F:FT}{ρ:ah}{s s1:List Int}
theorem mE(K:fK F es ρ (y' s)= .ok (args,y' s1))(A:F f args (y' s1)= .ok y):ev F (.callD f es) ρ (y' s)= .ok y:=by rw[pB];rw[K];exact A
theorem wx(P:List Dt->ah->List Int->Prop)(h0:P [] ρ s)
  (g:∀pre x o ρ s,ds=pre++x::o->P pre ρ s->∃ρ1 a p,fv tg x ρ= .ok ρ1/\body ρ1 (y' s)= .ok (.next,a,y' p)/\P (pre++[x]) a p):∃i S,forL tg body ds ρ (y' s)= .ok (.next,i,y' S)/\P ds i S:=by
 have key:∀(o pre:List Dt)(ρ:ah)(s:List Int),ds=pre++o->P pre ρ s->∃i S,forL tg body o ρ (y' s)= .ok (.next,i,y' S)/\P ds i S:=by
  intro o
  induction o with
  |nil=>intro pre ρ s e h;rw[XM]at e;subst e;exact#[ρ,s,rfl,h]
  |cons x o O=>intro pre ρ s e h;obtain⟨ρ1,a,p,Z,Y,u⟩:=g pre x o ρ s e h;obtain⟨i,S,Q,A⟩:=O (pre++[x]) a p (by rw[e];simp) u;refine#[i,S,?_,A];rw[forL,Z,R.ao,Y];exact Q
 exact key ds [] ρ s rfl h0
theorem rV{P:Int->Prop}:∀{ds:List Dt}{s:List Int},(∀d∈ds,∀s:List Int,∃(z:Int)(S:List Int),f d (y' s)= .ok ([.int z],y' S)/\P z)->
  ∃(t S:List Int),az f ds (y' s)= .ok (t.map Dt.int,y' S)/\t.length=ds.length/\∀z∈t,P z
 |[],s,_=>#[[],s,rfl,rfl,λ_ h=>by cases h]
 |d::ds,s,h=>by
  obtain⟨z,s1,Z,Y⟩:=h d Xa s;obtain⟨t,p,u,Q,A⟩:=rV λy F=>h y (W7 _ F)
  refine#[z::t,p,by rw[az,Z,R.ao,u];rfl,by rw[Xm,Xm,Q],λy F=>?_];rcases Xg.mp F with rfl|F
  ·exact Y
  ·exact A y F
end
theorem fq(h:fs[k]?=y' #[ps,m,G',body])(I:1<=n)(W:args.length+1=ps)(q:fin (bf (ay fs<|n-1) body (B'::args.map y'++List.replicate (m-ps) B') S)=r):ay fs n k args S=r:=by obtain⟨n,rfl⟩:∃m,n=m+1:=#[n-1,⋯];rw[xI h];unfold gU;simp only[aag,W];exact q
theorem xQ(A:fs[it]?=y' #[2,2,G',rM])(t:1<=N)(P:0<k)(s):∃(z:Int)(S:List Int),ay fs N it [.int k] (y' s)= .ok (.int z,y' S)/\0<=z/\z<k:=by
 by_cases h:s=[]
 ·subst h;refine#[0,[],fq A t rfl ?_,⋯,P];exact gF rfl<|aC rfl
 ·refine#[s.getLastD 0 % k,s.dropLast,fq A t rfl ?_,XI _ ⋯,XJ _ P];have Z:s.length≠0:=λz=>h (List.length_eq_zero_iff.mp z)
  have L:(((s.length:Nat):Int)==0)=J':=Z8.mpr ⋯;have K:s.isEmpty=J':=by cases s with
   |nil=>exact absurd rfl h
   |cons=>rfl
  have e1:∀ρ,ev (ay fs<|N-1) .lenD ρ (y' s)= .ok (.int s.length,y' s):=λ_=>rfl
  have e2:∀ρ,ev (ay fs<|N-1) .popD ρ (y' s)= .ok (.int<|s.getLastD 0,y' s.dropLast):=λ_=>by rw[B9];simp only[K];rfl
  show fin (bf (ay fs<|N-1) rM [B',y' (.int k)]<|y' s)=_;exact cD (S1:=y' s) (by simp only[RX,e1,L])<|aC<|by simp only[RX,e2,dh P]
theorem jm(A:fs[it]?=y' #[2,2,G',rM])(t:1<=N)(J:∀S,ev (ay fs N) c ρ S= .ok (.int k,S))(P:0<k)(s):∃(z:Int)(s':List Int),ev (ay fs N) (.callD it<|.cons c .nil) ρ (y' s)= .ok (.int z,y' s')/\0<=z/\z<k:=by obtain⟨z,s',Z,Y,u⟩:=xQ A t P s;exact#[z,s',mE (by simp only[RX,J]) Z,Y,u]
theorem FF(J:fs[it]?=y' #[2,2,G',rM])(A:fs[iw]?=y' #[2,2,G',FS it])(t:2<=N)(P:0<k)(s):∃(z:Int)(S:List Int),ay fs N iw [.int k] (y' s)= .ok (.int z,y' S)/\0<=z/\z<k:=by obtain⟨O,s1,Z,_,_⟩:=jm (ρ:=[B',y' (.int k)]) J (N:=N-1) ⋯ (c:=.con (.int 2147483629)) (λ_=>rfl) (by decide) s;obtain⟨X,p,Y,_,_⟩:=jm (ρ:=[B',y' (.int k)]) J (N:=N-1) ⋯ (c:=.con (.int 2147483629)) (λ_=>rfl) (by decide) s1;refine#[(O*2147483629+X) % k,p,fq A ⋯ rfl ?_,XI _ ⋯,XJ _ P];have m1:=aU (i:=O) (j:=2147483629) (.inr (by decide));show fin (bf (ay fs (N-1)) (FS it) [B',y' (.int k)] (y' s))=_;exact aC (by simp only[RX,Z,Y,m1,dh P])
theorem k7(h:k<l.length):l[k]?=y' (gI l k):=by simp[gI,h]
theorem DE{α j:Type}(f:α->j)(xs:List α)(lo hi):∃C:List α,cutD (xs.map f) lo hi=C.map f:=#[((xs.drop<|HT.cw (xs.map f).length 0 lo).take<|HT.cw (xs.map f).length (xs.map f).length hi-HT.cw (xs.map f).length 0 lo),by unfold cutD;rw[<-List.map_drop,<-List.map_take]]
def dE(u:Option Dt)(C L A:List Int)(k p:Nat)(z:Int):ah:=[u,y' (.lst<|C.map Dt.int),y' (.lst<|L.map Dt.int),y' (.lst<|A.map Dt.int),y' (.int k),y' (.int p),y' (.int z)]
section
variable{F:FT}{x0:Option Dt}{C L A:List Int}{k p:Nat}{z:Int}
theorem F9(X:A.length<=lim):bf F La (dE x0 C L A k p z) B'= .ok (.next,dE x0 C L (A++[z]) k p z,B'):=by unfold dE;rw[XS];exact nk rfl rfl rfl (by rw[Xd];exact X) rfl
theorem uP(h:p<C.length):cq (.lst<|C.map Dt.int) (.int p)= .ok (.int<|gI C p):=(mM<|by rw[Xn,k7 h];rfl).2
theorem AI(C:List Int):cG .len [.lst (C.map Dt.int)]= .ok (.int C.length):=by show R.ok (Dt.int ((C.map Dt.int).length:Nat))=_;rw[Xd]
theorem F8(y:L.length=C.length)(B:0<C.length->p<C.length)(z0:0<=z)(O:z<2^60)(P:k<=1500)(X:A.length<=lim):∃(c:List Int)(w:Int),c.length=C.length/\bf F Di (dE x0 C L A k p z) B'= .ok (.next,dE x0 C c (A++[w]) k p w,B'):=by
 have a1:=aU (i:=z) (j:=z) (.inl ⋯);have a2:=dh (i:=z*z) (j:=2147483629) (by decide);have m5:=aU (i:=3) (j:=k) (.inl (by decide));have K:=XI (z*z) (b:=2147483629) (by decide);have b1:=XJ (z*z) (b:=2147483629) (by decide);generalize z*z % 2147483629=u at a2 K b1;have a3:=aU (i:=u+3*k) (j:=u+3*k) (.inl ⋯);have Z:=dh (i:=(u+3*(k:Int))*(u+3*k)) (j:=2147483587) (by decide);have W:=XI ((u+3*(k:Int))*(u+3*k)) (b:=2147483587) (by decide);generalize (u+3*(k:Int))*(u+3*k) % 2147483587=v at Z W;have g:=vk (i:=v) (j:=7) (by decide) (by decide);have l:=AI C;have M:kI .Pow (.int 10) (.int 18)= .ok (.int 1000000000000000000):=rfl;have two:∀{r:RS},bf F K9 (dE x0 C L A k p (v/7)) B'=r->bf F Di (dE x0 C L A k p z) B'=r:=λh=>by unfold dE at h ⊢;exact a6 (d:=.int (u+3*k)) (S1:=B') (by simp only[RX,a1,a2,m5]) rfl (a6 (by simp only[RX,a3,Z,g]) rfl h)
 have no:cg F yg (dE x0 C L A k p (v/7)) B'= .ok (J',B')->∃(c:List Int)(w:Int),c.length=C.length/\bf F Di (dE x0 C L A k p z) B'= .ok (.next,dE x0 C c (A++[w]) k p w,B'):=λh=>#[L,v/7,y,two (iW h (F9 X))]
 by_cases J:0<C.length
 ·have o:=uP (B J);have m:=uP (show p<L.length by rw[y];exact B J);have a:decide ((0:Int)<(C.length:Int))=G':=Xx ⋯;by_cases Y:(1000000000000000000:Int)<=gI C p
  ·by_cases h3:0<gI L p
   ·have f1:=dh (i:=gI L p) (j:=2147483629) (by decide);have Q:=vk (i:=gI L p) (j:=2147483629) (by decide) (by decide);refine#[L.set p (gI L p/2147483629),gI L p % 2147483629,by rw[Y6,y],two (ni (S1:=B') (by unfold dE yg;simp only[RX,l,a,o,m,M,Xx Y,Xx h3,aag]) (a6 (d:=.int (gI L p % 2147483629)) (S1:=B') (by unfold dE;simp only[RX,m,f1]) rfl (nx (wo (d:=.int (gI L p/2147483629)) (S2:=B') (j:=p) rfl (by unfold dE;simp only[RX,m,Q]) rfl rfl ?_) ?_)))]
    ·unfold rA;rw[Xd,aaf ⋯,aaf ⋯];exact aab y' (Yu _)
    ·refine Eq.trans ?_ (F9 (F:=F) X);unfold dE;rw[List.map_set];rfl
   ·exact no (by unfold dE yg;simp only[RX,l,a,o,m,M,Xx Y,Xt h3,aag])
  ·exact no (by unfold dE yg;simp only[RX,l,a,o,M,Xt Y,aag,aad,X6])
 ·have a:decide ((0:Int)<(C.length:Int))=J':=Xt ⋯;exact no (by unfold dE yg;simp only[RX,l,a,aad,X6])
theorem LC(I:0<C.length->n=C.length)(K:1<=n)(p:cG .max2 [.int 1,.int C.length]= .ok (.int n))(y:L.length=C.length)(P:k<=1500)(X:A.length<=lim):
  ∃(c:List Int)(w:Int),c.length=C.length/\bf F K8 [x0,y' (.lst (C.map Dt.int)),y' (.lst (L.map Dt.int)),y' (.lst (A.map Dt.int)),y' (.int k),x5,x6] B'= .ok (.next,dE x0 C c (A++[w]) k (k % n) w,B'):=by
 have m1:=dh (i:=k) (j:=n) ⋯;rw[show (k:Int) % (n:Int)=((k % n:Nat):Int) by lia]at m1;have S:=aU (i:=k) (j:=7919) (.inr (by decide));have l:=AI C;have B:0<C.length->k % n<C.length:=λh=>by have:=Nat.mod_lt k (show 0<n by lia);have:=I h;lia
 by_cases J:0<C.length
 ·have g:=aU (i:=k) (j:=k) (.inr ⋯);have m4:=aU (i:=(k:Int)*k) (j:=7919) (.inr (by decide));have k0:(0:Int)<=(k:Int)*k:=Yo ⋯ ⋯;have k1:(k:Int)*k<=2250000:=by have:=ZQ P P;rw[<-Yr];lia
  have o:=uP (B J);have a:decide ((0:Int)<(C.length:Int))=G':=Xx ⋯;have r:=dh (i:=gI C (k % n)) (j:=2147483647) (by decide);have r1:=XI (gI C (k % n)) (b:=2147483647) (by decide);have r2:=XJ (gI C (k % n)) (b:=2147483647) (by decide);generalize gI C (k % n) % 2147483647=u at r r1 r2;have Q:=aU (i:=u) (j:=48271) (.inr (by decide));obtain⟨c,w,M,m⟩:=F8 (z:=u*48271+k*k*7919+11) y B ⋯ ⋯ P X;exact#[c,w,M,a6 (S1:=B') (by simp only[RX,l,p,m1]) rfl (a6 (d:=.int (k*7919+5)) (S1:=B') (by simp only[RX,S]) rfl (ni (S1:=B') (by simp only[RX,l,a]) (a6 (d:=.int (u*48271)) (S1:=B') (by simp only[RX,o,r,Q]) rfl (a6 (by simp only[RX,g,m4]) rfl m))))]
 ·have a:decide ((0:Int)<(C.length:Int))=J':=Xt ⋯;obtain⟨c,w,M,m⟩:=F8 (z:=k*7919+5) y B ⋯ ⋯ P X;exact#[c,w,M,a6 (S1:=B') (by simp only[RX,l,p,m1]) rfl (a6 (S1:=B') (by simp only[RX,S]) rfl (iW (by simp only[RX,l,a]) m))]
end
theorem AH{id N:Nat}(hf:fs[id]?=y' #[1,7,J',Aa])(t:1<=N)(ns):∃ds:List Int,ay fs N id [.iZ ns] B'= .ok (.lst<|ds.map Dt.int,B'):=by
 have H:lim=1000000:=rfl;obtain⟨C,P⟩:=DE Dt.int ns B'<|y' 63;have U:eJ (.iZ ns) B' (y' 63)= .ok (.lst<|C.map Dt.int):=by rw[<-P];rfl
 clear P;obtain⟨n,I,a,p⟩:∃n:Nat,(0<C.length->n=C.length)/\1<=n/\cG .max2 [.int 1,.int C.length]= .ok (.int n):=by
  by_cases h:1<C.length
  ·exact#[C.length,λ_=>rfl,⋯,by show R.ok (Dt.int<|if (C.length:Int)>1 then(C.length:Int) else 1)=_;rw[aaf ⋯]]
  ·exact#[1,λ_=>⋯,⋯,by show R.ok (Dt.int<|if (C.length:Int)>1 then(C.length:Int) else 1)=_;rw[aae ⋯];rfl]
 obtain⟨i,s,L,A,b,x5,x6,hL,X,rfl⟩:=d5 (S:=B') (tg:=.nm 4) (ds:=bu 0 1500)
  (λpre ρ=>∃(L A:List Int)(b x5 x6:Option Dt),L.length=C.length/\A.length=pre.length/\ρ=[y' (.iZ ns),y' (.lst<|C.map Dt.int),y' (.lst<|L.map Dt.int),y' (.lst<|A.map Dt.int),b,x5,x6]) #[C,[],B',B',B',rfl,rfl,rfl] (by
   rintro pre y o ρ e ⟨L,A,b,x5,x6,hL,X,rfl⟩;obtain⟨Z,rfl⟩:=dY e;obtain⟨c,w,M,m⟩:=LC (F:=ay fs<|N-1) (A:=A) (k:=pre.length) (x5:=x5) (x6:=x6) I a p hL ⋯ ⋯;exact#[_,_,rfl,m,c,A++[w],_,_,_,M,by rw[Xk,Xk,X];rfl,rfl])
 refine#[A.reverse,aO hf t rfl ?_];show fin (bf (ay fs<|N-1) Aa [y' (.iZ ns),B',B',B',B',B',B'] B')=_;refine ax (S1:=B') (by simp only[RX,U]) rfl<|du (S1:=B') (by simp only[RX]) rfl<|du (d:=.lst []) (S1:=B') rfl rfl<|bW (ds:=bu 0 1500) (S1:=B') (eN (n:=1500) rfl ⋯) rfl s<|dw (HF rfl)<|aC ?_;rw[List.map_reverse];rfl
section
variable{x w P:List Int}
def kb(w P:List Int)(t:Int):List Int:=List.zipWith (λa b=>a+t*b) w P
theorem vh(h:w.length=P.length)(t):(kb w P t).length=P.length:=by simp[kb,h]
theorem wX(t):∀{w P:List Int}{i:Nat},w.length=P.length->gI (kb w P t) i=gI w i+t*gI P i
 |[],[],i,_=>by simp[kb,gI]
 |x::a,y::b,0,_=>rfl
 |x::a,y::b,i+1,h=>by show gI ((x+t*y)::kb a b t) (i+1)=_;rw[aB,aB,aB];exact wX t (by simpa using h)
theorem qJ(t):∀{l w P:List Int},w.length=P.length->af l (kb w P t)=af l w+t*af l P
 |[],_,_,_=>by rw[dX,dX,dX];simp
 |q::l,[],[],_=>by show af (q::l) []=_;rw[nz];simp
 |q::l,x::a,y::b,h=>by
  show af (q::l) ((x+t*y)::kb a b t)=_;rw[aA,aA,aA,qJ t (by simpa using h)]
  grind
end
end Rx
end
section
namespace K23
open PySem PySem.W PySem.Spec PyProof.Rows L2 Mx Rx
theorem QN:FH fs 0 2 3 4 5 6 7 8 9 10 11:=#[#[rfl,rfl,rfl,rfl,rfl,rfl,rfl],rfl,rfl,rfl,rfl]
def cB:Nat->Nat
 |0=>3
 |p+1=>2*cB p*cB p
theorem FY:∀p,1<=cB p/\cB p<=cB (p+1)
 |0=>by decide
 |p+1=>by
  have h:=(FY p);have Z:1*1<=2*cB p*cB p:=ZQ ⋯ h.1;have Y:1<=cB (p+1):=by rw[cB];simpa using Z
  have u:1*cB (p+1)<=2*cB (p+1)*cB (p+1):=ZQ ⋯ (W9 _);exact#[Y,by show cB (p+1)<=2*cB (p+1)*cB (p+1);rwa [Nat.one_mul]at u]
def zP(m p:Nat)(r:List Int):Prop:=r.length=m+1/\∀x∈r,x.natAbs<=cB p
theorem zP.up(h:zP m p r):zP m (p+1) r:=#[h.1,λx U=>Xf (h.2 x U) (FY p).2]
theorem Cn(h0:∀r∈a,zP m 0 r):∀p,p<=m->(∀q∈(bP a p).1,zP m p q.2)/\∀r∈(bP a p).2,zP m p r
 |0,_=>#[(λq K=>by cases K),h0]
 |p+1,B=>by
  obtain⟨i1,i2⟩:=Cn h0 p ⋯;show (∀q∈(dM p<|bP a p).1,zP m (p+1) q.2)/\∀r∈(dM p<|bP a p).2,zP m (p+1) r;generalize bP a p=S at *;obtain⟨PS,j⟩:=S;unfold dM;cases A:j.filter λq=> !(gI q p==0) with
  |nil=>exact#[λq K=>(i1 q K).up,λr w=>(i2 r w).up]
  |cons b t=>
   have L:=i2 b (Zf.mp<|by rw[A];exact Xa).1;have c:∀r,zP m p r->zP m (p+1) (bU r p b):=λr w=>#[by rw[p7 (by rw[w.1,L.1]),w.1],uM (by rw[w.1];lia) (by rw[L.1];lia) w.2 L.2]
   refine#[λq K=>?_,λr w=>?_]
   ·rcases Xq.mp K with K|K
    ·obtain⟨g,h0,rfl⟩:=XD.mp K;exact c _<|i1 g h0
    ·rw[XC]at K;subst K;exact L.up
   ·obtain⟨Q,h0,rfl⟩:=XD.mp w;exact c _<|i2 Q h0
theorem Hq(E:jR m M (zeros M.length)):(jf m M<|zeros M.length).toNat<=1152:=by
 have st:=E.sq.st;have c:=mG (p:=0) E.sq;have m4:=E.m4;have a:(cv m M<|zeros M.length).length<=4:=by have:=st.ct;lia
 have tp:gv M<=3:=vF (λq K z g=>by have:=E.bd q K z g;lia) (by decide);obtain⟨I,W⟩:=hZ E.rb;have h:=(uV (f:=(bN m<|cv m M<|zeros M.length).length) a (vG M) tp I W).2;exact Xf h<|(by decide:∀s,s<5->∀f,f<5->gB s f<=1152) _ ⋯ _ ⋯
theorem o9(E:jR m M (zeros M.length))(A:f∈aI m M):∀i,i<m->vB (gI f i):=λi hi=>by
 have Z:=(pd E f A).1;unfold iJ at Z;split at Z
 ·cases Z
 ·unfold zb at Z;obtain⟨q,K,J⟩:=Zg.mp Z;obtain⟨q0,h0,l,k1,k2⟩:=gO.mp K;rw[XC]at h0;subst h0;rw[Y5]at l k1 k2;have L:=Hq E;have b:∀j,j<m->(gI q j).natAbs<=1152:=λj F=>by
   by_cases e:j∈bN m (cv m M<|zeros M.length)
   ·obtain⟨n,n1,P⟩:=k2 j e F;rw[P];lia
   ·rw[k1 j F e,cn];decide
  have st:=E.sq.st;have u:=(jh st.nd λz g=>#[by rw[l];exact(st.pl z g).1,(st.pl z g).2.2]).mp J;rw[l]at u;obtain⟨v,c2,H⟩:=u;by_cases e:i∈(cv m M<|zeros M.length).map (·.1)
  ·obtain⟨z,g,rfl⟩:=XD.mp e;obtain⟨h,_⟩:=H z g;have c:∀r∈rowsOf M (zeros M.length),zP m 0 r:=λr w=>by
    obtain⟨p,B,rfl⟩:=XD.mp w;have hm:=Zn B;refine#[by rw[Xk,E.wd _ hm.1];rfl,λx U=>?_];rcases Xq.mp U with U|U
    ·exact E.bd _ hm.1 x U
    ·rw[XC]at U;rw[U,YN hm.2];decide
   obtain⟨O,X⟩:=(Cn c m<|W9 _).1 z g;have pb:=qI (q:=q++[-1]) X (λx U=>by
    rcases Xq.mp U with U|U
    ·obtain⟨j,F,rfl⟩:=eK U;exact b j ⋯
    ·rw[XC]at U;rw[U];decide)
   have a:1<=(gI z.2 z.1).natAbs:=by have:=(st.pl z g).2.2;lia
   have e2:=aab Int.natAbs h;unfold fZ at e2;rw[Int.natAbs_neg,Yq]at e2;have e3:1*(gI f z.1).natAbs<=(gI z.2 z.1).natAbs*(gI f z.1).natAbs:=ZR _ a;have m4:=E.m4;have last:(m+1)*(cB m*1152)<2^64:=(by decide:∀m,m<5->(m+1)*(cB m*1152)<2^64) m ⋯;rw[O]at pb
   lia
  ·have K:=b i hi;rw[c2 i hi e]
   lia
theorem vE:∀{q:List Int},(∀y∈q,y=0)->q.sum=0
 |[],_=>rfl
 |y::q,h=>by rw[Zw,h y Xa,vE λz g=>h z<|W7 _ g];rfl
def ou(l f:List Int):List Int:=((l.zip f).filter λq=>decide (0<q.2)).map λq=>q.1/q.2
def ow(l f:List Int):Int:=fh<|ou l f
def ze(S:List Int×List (List Int×Int))(f:List Int):List Int×List (List Int×Int):=
 if 0<ow S.1 f then(kb S.1 f<|- ow S.1 f,S.2++[(f,ow S.1 f)]) else S
def oI(P:List (List Int×Int))(i:Nat):Int:=(P.map λp=>p.2*gI p.1 i).sum
theorem uU:∀{l f:List Int}{i:Nat},i<l.length->i<f.length->(gI l i,gI f i)∈l.zip f
 |[],_,_,h,_=>by simp at h
 |_::_,[],_,_,h=>by simp at h
 |a::l,b::f,0,_,_=>by simp[gI]
 |a::l,b::f,i+1,Z,Y=>by rw[aB,aB,ZG];exact W7 _<|uU (by simp at Z;omega)<|by simp at Y;omega
theorem CW:∀{l f:List Int}{p:Int×Int},p∈l.zip f->∃i,i<l.length/\i<f.length/\p=(gI l i,gI f i)
 |[],_,_,h=>by simp at h
 |_::_,[],_,h=>by simp at h
 |a::l,b::f,p,h=>by
  rcases Xg.mp h with h|h
  ·exact#[0,by simp,by simp,by simp[h,gI]]
  ·obtain⟨i,Z,Y,u⟩:=CW h;exact#[i+1,by simp;lia,by simp;lia,by rw[aB,aB];exact u]
section
variable{m:Nat}{l f:List Int}(ll:l.length=m)(lf:f.length=m)(hl:∀i,i<m->0<=gI l i)(hf:∀i,i<m->0<=gI f i)(hs:0<f.sum)
include ll lf hf hs
theorem Az:ou l f≠[]:=λh=>by
 obtain⟨i,hi,h0⟩:∃i,i<m/\0<gI f i:=Yc λn=>by
  have:f.sum=0:=vE λy F=>by
   obtain⟨i,hi,rfl⟩:=eK F;have Z:=hf i ⋯;have Y:¬0<gI f i:=λz=>n #[i,⋯,z]
   lia
  lia
 have E:gI l i/gI f i∈ou l f:=XD.mpr #[_,Zf.mpr #[uU ⋯ ⋯,Xx h0],rfl];rw[h]at E;cases E
include hl in
theorem F2:0<=ow l f/\(∀i,i<m->ow l f*gI f i<=gI l i)/\∃i,i<m/\gI l i<(ow l f+1)*gI f i:=by
 obtain⟨Z,Y⟩:=gP _<|Az ll lf hf hs;show 0<=fh (ou l f)/\(∀i,i<m->fh (ou l f)*gI f i<=gI l i)/\∃i,i<m/\gI l i<(fh (ou l f)+1)*gI f i;generalize fh (ou l f)=c at *;obtain⟨p,B,rfl⟩:=XD.mp Z;obtain⟨Q,kN⟩:=Zf.mp B;obtain⟨i,i1,i2,rfl⟩:=CW Q;have b:0<gI f i:=W5 kN;have W:0<=gI l i/gI f i:=Int.ediv_nonneg (hl i ⋯) ⋯;refine#[W,λj F=>?_,i,⋯,?_]
 ·by_cases a:0<gI f j
  ·have:=Y _<|XD.mpr #[_,Zf.mpr #[uU (l:=l) (f:=f) (i:=j) ⋯ ⋯,Xx a],rfl];exact Int.le_trans (Yn this ⋯)<|Int.ediv_mul_le _ ⋯
  ·have e:gI f j=0:=by have:=hf j F;lia
   rw[e,Yp];exact hl j F
 ·exact Int.lt_ediv_add_one_mul_self _ b
end
structure Pc(m:Nat)(M:List (List Int))(bD:List Int)(F:List (List Int))(S:List Int×List (List Int×Int)):Prop where
 ll:S.1.length=m
 nn:∀i,i<m->0<=gI S.1 i
 Mp:∀q∈M,af q S.1=0
 no:∀f∈F,dG f S.1=J'
 sb:(S.2.map (·.1)).Sublist F
 ps:∀p∈S.2,1<=p.2
 Od:∀i,i<m->oI S.2 i+gI S.1 i=gI bD i
theorem CG(h:a.length=b.length)(hi:i<a.length)(t:gI b i<gI a i):dG a b=J':=by
 cases e:dG a b with
 |false=>rfl
 |true=>have:=(dU h).mp e i hi;lia
theorem Pc.next(h:Pc m M bD F S)(n:∀f∈F,f.length=m)(a:f.length=m)(A:∀i,i<m->0<=gI f i)(l:0<f.sum)(E:∀q∈M,af q f=0):Pc m M bD (F++[f]) (ze S f):=by
 obtain⟨W,v,i,hi,X⟩:=F2 h.ll a h.nn A l;unfold ze;generalize ow S.1 f=c at *;have e1:(c+1)*gI f i=c*gI f i+gI f i:=by rw[Int.add_mul,Int.one_mul]
 rw[e1]at X;by_cases J:0<c
 ·rw[aaf J];have at':∀j,gI (kb S.1 f<|-c) j=gI S.1 j-c*gI f j:=λj=>by rw[wX _ (by rw[h.ll,a]),Int.neg_mul];lia
  have b:(kb S.1 f<|-c).length=m:=by rw[vh (by rw[h.ll,a]),a]
  refine#[b,λj hj=>?_,λq K=>?_,λg t=>?_,?_,λp B=>?_,λj hj=>?_]
  ·show 0<=gI (kb S.1 f<|-c) j;rw[at'];have:=v j hj;lia
  ·show af q (kb S.1 f<|-c)=0;rw[qJ _ (by rw[h.ll,a]),h.Mp q K,E q K,Yp];rfl
  ·rcases Xq.mp t with t|t
   ·cases e:dG g (kb S.1 f<|-c) with
    |false=>rfl
    |true=>
     have k:=n g t;have:=h.no g t;have u:=(dU<|by rw[k,b]).mp e;rw[(dU<|by rw[k,h.ll]).mpr λj hj=>by
      have Z:=u j hj;rw[at']at Z;have Y:=Yo W (A j ⋯)
      lia]at this
     cases this
   ·rw[XC]at t;subst t;exact CG (by rw[a];exact b.symm) (i:=i) ⋯ (by show gI (kb S.1 g<|-c) i<_;rw[at'];lia)
  ·show ((S.2++[(f,c)]).map (·.1)).Sublist (F++[f]);rw[XS];exact List.Sublist.append h.sb<|List.Sublist.refl _
  ·rcases Xq.mp B with B|B
   ·exact h.ps p B
   ·rw[XC]at B;subst B;exact J
  ·show oI (S.2++[(f,c)]) j+gI (kb S.1 f<|-c) j=_;have:=h.Od j hj;have e2:oI (S.2++[(f,c)]) j=oI S.2 j+c*gI f j:=by unfold oI;rw[XS,List.sum_append,XR,Zd,Zw,List.sum_nil,Int.add_zero]
   rw[at',e2];lia
 ·rw[aae J];have o:c=0:=⋯
  refine#[h.ll,h.nn,h.Mp,λg t=>?_,h.sb.trans<|List.sublist_append_left _ _,h.ps,h.Od];rcases Xq.mp t with t|t
  ·exact h.no g t
  ·rw[XC]at t;subst t;exact CG (by rw[a,h.ll]) (i:=i) ⋯ (by rw[o,Yw]at X;lia)
def iI(m:Nat)(M:List (List Int))(v:List Int):List Int×List (List Int×Int):=(aI m M).foldl ze (v,[])
theorem qS(E:jR m M (zeros M.length))(u:bD.length=m)(I:∀i,i<m->0<=gI bD i)(W:∀q∈M,af q bD=0):∀k,Pc m M bD ((aI m M).take k) (((aI m M).take k).foldl ze (bD,[]))
 |0=>#[u,I,W,(λf A=>by cases A),List.Sublist.refl _,(λp B=>by cases B),λi hi=>Yv _]
 |k+1=>by
  have O:=qS E u I W k;obtain⟨a,_⟩:=fO E;cases P:(aI m M)[k]? with
  |none=>have:=List.getElem?_eq_none_iff.mp P;rw[ZA (by omega)]at O ⊢;exact O
  |some f=>obtain⟨a1,a2,a3,Z⟩:=a f<|Zj P;rw[iF P,List.foldl_append];exact O.next (λf A=>(a f<|Zk A).1) a1 a2 Z a3
theorem Fj(E:jR m M (zeros M.length))(u:bD.length=m)(I:∀i,i<m->0<=gI bD i)(W:∀q∈M,af q bD=0):
  ((iI m M bD).2.map (·.1)).Sublist (aI m M)/\(∀p∈(iI m M bD).2,1<=p.2)/\∀i,i<m->oI (iI m M bD).2 i=gI bD i:=by
 have h:=qS E u I W (aI m M).length;rw[Zz]at h;refine#[h.sb,h.ps,λi hi=>?_];have h0:gI (iI m M bD).1 i=0:=Yc λn=>by have:=full E h.ll h.nn h.Mp #[i,hi,by have:=h.nn i hi;show 0<gI (iI m M bD).1 i;have:0<=gI (iI m M bD).1 i:=this;lia];obtain⟨f,A,J⟩:=XH.mp this;rw[h.no f A]at J;cases J
 have:=h.Od i hi;have:oI (iI m M bD).2 i+gI (iI m M bD).1 i=gI bD i:=this
 lia
theorem wO(q):cG .len [tI q]= .ok (.int q.length):=by show R.ok (Dt.int ((q.map Dt.int).length:Nat))=_;rw[Xd]
theorem dS(c)(l):cJ c (tI l)=G':=by unfold cJ;rw[qE,Yb]
theorem BZ(t:1<=N)(ha:∀x∈a,vB x)(W:a.length<=1000):ay fs N 0 [tI a,tI b] B'= .ok (.int<|af a b,B'):=by
 have H:lim=1000000:=rfl;refine aO rfl t rfl ?_;refine aC ?_;have J:az (aF (.tp [1,2]) (aZ (ay fs<|N-1) .nil) (aX (ay fs<|N-1)<|.bin .Mult (.var 1)<|.var 2) [B',B',B']) (dH (a.map Dt.int)<|b.map Dt.int) B'= .ok ((a.zip b).map λp=>.int<|p.1*p.2,B'):=by
  rw[aY];refine aR λp B=>?_
  have m:=aU (j:=p.2)<|.inl<|ha p.1 (Zn B).1;exact aE rfl (by simp only[RX,m]) rfl
 rw[cm,aJ (d8 rfl rfl rfl rfl) (by rw[aY,Xd,Y9];lia) rfl J,R.ao];have e:((a.zip b).map λp=>Dt.int<|p.1*p.2)=((a.zip b).map λp=>p.1*p.2).map Dt.int:=by rw[Zc];rfl
 rw[e,Kc];rfl
theorem Ff{n:Nat}(h:n<=1000):kI .Mult (.lst [.int 0]) (.int n)= .ok (.lst<|(zeros n).map Dt.int):=by
 have H:lim=1000000:=rfl;show aa (decide (((n:Int)).natAbs<=lim)&&decide ([Dt.int 0].length*((n:Int)).toNat<=lim)) (R.ok<|Dt.lst (List.replicate ((n:Int)).toNat [Dt.int 0]).flatten)=_;rw[Xx ⋯,Xx (by simp;lia)];have e:∀n:Nat,(List.replicate n [Dt.int 0]).flatten=(List.replicate n 0).map Dt.int:=λn=>by
  rw[List.map_replicate]
  induction n with
  |zero=>rfl
  |succ n O=>rw[Zu,YS,O,Zu];rfl
 rw[Yu,e];rfl
def yN(M:List (List Int))(x:List Int):Bool:= !(x.any λz=>decide (z<0))&&kz M (zeros M.length) x
theorem Oc(t:2<=N){D:Dt}(O:bL D M)(c:M.length<=1000)(L:∀q∈M,q.length<=4/\∀z∈q,vB z)(U:x.length<=1000):ay fs N 1 [D,tI x,.bj] B'= .ok (.bl<|yN M x,B'):=by
 have H:lim=1000000:=rfl;have ln:=O.ln;have h:=Ff c;refine aO rfl ⋯ rfl ?_;show fin (bf (ay fs<|N-1) (Lh 0) [y' D,y' (tI x),y' .bj] B')=_;refine gF rfl<|ax (d:=.lst<|(zeros M.length).map Dt.int) (S1:=B') (by simp only[RX,ln,h]) rfl ?_;have a:cg (ay fs<|N-1) (.bi .any<|.cons (.comp [B',B'] (.seq<|.var 1) (.nm 1) .nil<|.cmp .Lt (.var 1)<|.con<|.int 0) .nil) [y' D,y' (tI x),y' (.lst<|(zeros M.length).map Dt.int)] B'= .ok (x.any λz=>decide (z<0),B'):=by
  have J:az (aF (.nm 1) (aZ (ay fs<|N-1) .nil) (aX (ay fs<|N-1)<|.cmp .Lt (.var 1)<|.con<|.int 0) [B',B']) (x.map Dt.int) B'= .ok (x.map λx=>.bl<|decide (x<0),B'):=bH λx U=>aE rfl rfl rfl
  refine mC ?_;rw[cm,aJ rfl (by rw[Xd];lia) rfl J,R.ao];have e:(x.map λx=>Dt.bl<|decide (x<0))=(x.map λz=>decide (z<0)).map Dt.bl:=by rw[Zc];rfl
  rw[e,l8,YF];rfl
 have o:ev (ay fs<|N-1) (.bi .all<|.cons (.comp [B',B',B',y' 1] (.zip (.var 0)<|.var 2) (.tp [1,2]) .nil<|.cmp .Eq (.call 0 (.cons (.var 1)<|.cons (.var 3) .nil) [])<|.var 2) .nil) [y' D,y' (tI x),y' (.lst<|(zeros M.length).map Dt.int)] B'= .ok (.bl<|kz M (zeros M.length) x,B'):=by
  have J:az (aF (.tp [1,2]) (aZ (ay fs<|N-1) .nil) (aX (ay fs<|N-1)<|.cmp .Eq (.call 0 (.cons (.var 1)<|.cons (.var 3) .nil) [])<|.var 2) [B',B',B',y' (tI x)]) (dH (M.map tI)<|(zeros M.length).map Dt.int) B'= .ok ((M.zip<|zeros M.length).map λq=>.bl<|af q.1 x==q.2,B'):=by
   rw[Rx.zip_rows];refine aR λq K=>?_
   have k:=Zn K;have g:=BZ (N:=N-1) ⋯ (b:=x) (L _ k.1).2 (by have:=(L _ k.1).1;lia);exact aE rfl (by simp only[RX,g]) rfl
  rw[cm,aJ (d8 rfl rfl O.sq rfl) (by rw[Rx.zip_rows,Xd,Y9];lia) rfl J,R.ao];have e:((M.zip<|zeros M.length).map λq=>Dt.bl<|af q.1 x==q.2)=((M.zip<|zeros M.length).map λq=>af q.1 x==q.2).map Dt.bl:=by rw[Zc];rfl
  rw[e,Hi,List.all_map];rfl
 unfold yN;cases U:x.any λz=>decide (z<0) with
 |true=>rw[U]at a;exact gF a<|aC rfl
 |false=>rw[U]at a;exact cD a<|aC o
theorem N7{D:Dt}(O:bL D M){w:Nat}(c:M.length<=1000):ev F Hf [y' D,y' (tI q),y' (.int w),B',B',B',B'] B'= .ok (.int<|de ((w:Int)::M.map λq=>(q.length:Int)),B'):=by
 have H:lim=1000000:=rfl;have J:az (aF (.nm 1) (aZ F .nil) (aX F<|.bi .len<|.cons (.var 1) .nil) [B',B']) (M.map tI) B'= .ok (M.map λq=>.int q.length,B'):=aR λq _=>aE rfl (by simp only[RX,wO]) rfl
 have a:=aJ (cap:=[B',B']) (it:=.seq<|.var 0) (ρ:=[y' D,y' (tI q),y' (.int w),B',B',B',B']) (fN rfl O.it) (by rw[Xd];lia) rfl J;have b:ev F (.bin .Add (.lst<|.cons (.var 2) .nil)<|.comp [B',B'] (.seq<|.var 0) (.nm 1) .nil<|.bi .len<|.cons (.var 1) .nil) [y' D,y' (tI q),y' (.int w),B',B',B',B'] B'= .ok (.lst<|((w:Int)::M.map λq=>(q.length:Int)).map Dt.int,B'):=by rw[qL];show ((ev F _ _ B').bind λy=>(kI .Add (.lst [.int w]) y.1).bind λd=>R.ok (d,y.2))=_;rw[a,R.ao];show (aa (decide (1+(M.map λq=>Dt.int q.length).length<=lim)) _).bind _=_;rw[Xx (by rw[Xd];lia),guard_true,XR,Zc];rfl
 unfold Hf;rw[cm,b,R.ao,pW (by simp)];rfl
theorem N6{D:Dt}(O:bL D M){w:Nat}(c:M.length<=1000):cg F Lf [y' D,y' (tI q),y' (.int w),B',B',B',B'] B'= .ok (M.any λq=> !((q.length:Int)==w),B'):=by
 have H:lim=1000000:=rfl;have J:az (aF (.nm 1) (aZ F .nil) (aX F<|.cmp .NotEq (.bi .len<|.cons (.var 1) .nil)<|.var 2) [B',B',y' (.int w)]) (M.map tI) B'= .ok (M.map λq=>.bl<|!((q.length:Int)==w),B'):=aR λq _=>aE rfl (by simp only[RX,wO]) rfl
 refine mC ?_;rw[cm,aJ (fN rfl O.it) (by rw[Xd];lia) rfl J,R.ao];have e:(M.map λq=>Dt.bl<|!((q.length:Int)==w))=(M.map λq=> !((q.length:Int)==w)).map Dt.bl:=by rw[Zc];rfl
 rw[e,l8,YF];rfl
def Qn:Ts:=(.cons (.asg 3<|.var 1)<|.cons (.asgM 4<|.lst .nil)<|.cons (.fr (.nm 5) (.seq<|.call 11 (.cons (.var 0)<|.cons (.var 2) .nil) []) He)<|.cons (.ret<|.mvr 4) .nil)
theorem GJ(t:3<=N){D:Dt}(O:bL D M)(E:jR m M (zeros M.length))(U:x.length<=4):
  ay fs N 12 [D,tI x] B'=if ((M.any λq=> !((q.length:Int)==x.length))|| !yN M x)=G' then .ex 1 else fin (bf (ay fs<|N-1) Qn [y' D,y' (tI x),y' (.int x.length),B',B',B',B'] B'):=by
 have p:de ((x.length:Int)::M.map λz=>(z.length:Int))<=4:=by
  rcases Xg.mp (cA ((x.length:Int)::M.map λz=>(z.length:Int))<|by simp).1 with e|e
  ·rw[e];lia
  ·obtain⟨z,g,e⟩:=XD.mp e;rw[<-e,E.wd z g];have:=E.m4
   lia
 have c:M.length<=1000:=by have:=E.ln;lia
 have hm:=N7 (F:=ay fs<|N-1) O (w:=x.length) (q:=x) c;have X:=N6 (F:=ay fs<|N-1) O (w:=x.length) (q:=x) c;generalize de ((x.length:Int)::M.map λz=>(z.length:Int))=mx at hm p;have L:brk M mx []=J':=by have h:=E.brk (r':=[]) (by simp);unfold brk at h ⊢;simp only[Bool.or_eq_false_iff]at h ⊢;exact#[#[#[h.1.1.1,Xt ⋯],h.1.2],h.2]
 have P:=F0 QN.k (N:=N-1) ⋯ O c (λq K=>by rw[E.wd q K];have:=E.m4;lia) (by simp) L;have P:ay fs (N-1) 8 [D,.int mx,.tup []] B'= .ok (.bj,B'):=P;refine aO rfl ⋯ rfl ?_;show fin (bf (ay fs<|N-1) (Lg 8 1 11) [y' D,y' (tI x),B',B',B',B',B'] B')=_;refine ax (d:=.int x.length) (S1:=B') (by simp only[RX,wO]) rfl<|dw (ρ1:=[y' D,y' (tI x),y' (.int x.length),B',B',B',B']) (S1:=B') ?_ ?_
 ·rw[lQ];simp only[RX,hm,P]
 ·cases ha:M.any λq=> !((q.length:Int)==x.length) with
  |true=>rw[ha]at X;exact gF (by rw[lO,X];rfl) rfl
  |false=>
   rw[ha]at X;have l:=Oc (N:=N-1) ⋯ O c (λq K=>#[by rw[E.wd q K];exact E.m4,λz g=>by have:=E.bd q K z g;show z.natAbs<2^64;lia]) (x:=x) ⋯;have l:ay fs (N-1) 1 ([D,tI x]++[Dt.bj]) B'= .ok (.bl<|yN M x,B'):=l;cases j:yN M x with
   |true=>rw[j]at l;exact cD (by rw[lO,X];simp only[RX,l];rfl) rfl
   |false=>rw[j]at l;exact gF (by rw[lO,X];simp only[RX,l];rfl) rfl
def pv(p:List Int×Int):Dt:=.tup [tI p.1,.int p.2]
theorem By(t):∀l f:List Int,(l.zip f).map (λq=>q.1-t*q.2)=kb l f (-t)
 |[],_=>rfl
 |_::_,[]=>rfl
 |a::l,b::f=>by show (a-t*b)::_=(a + -t*b)::kb l f (-t);rw[<-By t l f,Int.neg_mul];rfl
theorem Hx(a:f.length<=1000)(A:∀x∈f,vB x)(h:ou l f≠[]):ev F Hg [e0,e1,e2,y' (tI l),e4,y' (tI f),e6] B'= .ok (.int<|ow l f,B'):=by
 have H:lim=1000000:=rfl;have J:az (aF (.tp [1,2]) (aZ F<|.cons (.cmp .Gt (.var 2)<|.con<|.int 0) .nil) (aX F<|.bin .FloorDiv (.var 1)<|.var 2) [B',B',B']) (dH (l.map Dt.int)<|f.map Dt.int) B'= .ok ((l.zip f).flatMap λp=>if decide (0<p.2)=G' then[Dt.int (p.1/p.2)] else[],B'):=by
  rw[aY];refine bV λp B=>?_
  refine turn_if rfl rfl λL=>#[?_,rfl]
  have Y:=W5 L;have gp:=(Nat.log2_lt ⋯).mpr<|A p.2 (Zn B).2;have g:=vk (i:=p.1) Y ⋯;simp only[RX,g]
 rw[fL]at J;unfold Hg;rw[cm,aJ (d8 rfl rfl rfl rfl) (by rw[aY,Xd,Y9];lia) rfl J,R.ao];have e:(((l.zip f).filter λp=>decide (0<p.2)).map λp=>Dt.int<|p.1/p.2)=(ou l f).map Dt.int:=by unfold ou;rw[Zc];rfl
 rw[e,Dv h];rfl
theorem Fk(t:9<=N){D:Dt}(O:bL D M)(E:jR m M (zeros M.length))(u:v.length=m)(I:∀i,i<m->0<=gI v i)(W:∀q∈M,af q v=0):ay fs N 12 [D,tI v] B'= .ok (.lst<|(iI m M v).2.map pv,B'):=by
 have H:lim=1000000:=rfl;have h:=GJ (N:=N) ⋯ O E (x:=v) (by have:=E.m4;lia);have ha:(M.any λq=> !((q.length:Int)==v.length))=J':=by rw[YE];intro q K;rw[E.wd q K,u];simp
 have j:yN M v=G':=by
  unfold yN;have:(v.any λz=>decide (z<0))=J':=by rw[YE];intro z g;obtain⟨i,hi,rfl⟩:=eK g;have:=I i ⋯;rw[decide_eq_true_iff];lia
  have Y:kz M (zeros M.length) v=G':=nL.mpr<|dC.mpr W;rw[this,Y];rfl
 rw[ha,j,aae (by simp)]at h;rw[h];obtain⟨hL,k⟩:=Gx QN (N:=N-1) O ⋯ E;obtain⟨a,_⟩:=fO E;have b:∀f∈aI m M,∀x∈f,vB x:=λf hf x U=>by obtain⟨i,hi,rfl⟩:=eK U;exact o9 E hf i (by rw[(a f hf).1]at hi;exact hi)
 have all:=qS E u I W;unfold iI;generalize aI m M=F at *;have loop:=d5 (tg:=.nm 5) (body:=bf (ay fs<|N-1) He)
  (λpre ρ=>∃x5 x6,ρ=[y' D,y' (tI v),y' (.int v.length),y' (tI ((F.take pre.length).foldl ze (v,[])).1),y' (.lst<|((F.take pre.length).foldl ze (v,[])).2.map pv),x5,x6]) #[B',B',rfl] (by
   rintro pre x o ρ e ⟨x5,x6,rfl⟩;obtain⟨f,hf,rfl⟩:=zX e;have n:=Zj hf;have A:=all pre.length;have e1:(F.take (pre++[tI f]).length).foldl ze (v,[])=ze ((F.take pre.length).foldl ze (v,[])) f:=by rw[Xk,Y7,iF hf,List.foldl_append];rfl
   rw[e1];generalize (F.take pre.length).foldl ze (v,[])=S at *;obtain⟨a1,a2,a3,Z⟩:=a f n;have J:=Hx (F:=ay fs<|N-1) (e0:=y' D) (e1:=y'<|tI v) (e2:=y'<|.int v.length) (e4:=y'<|.lst<|S.2.map pv) (e6:=x6) (by have:=E.m4;lia) (b f n)<|Az A.ll a1 a2 Z;unfold ze;generalize ow S.1 f=c at *;by_cases h0:0<c
   ·rw[aaf h0];have hv:∀y,ev (ay fs<|N-1) (.comp [B',B',B',y' 6] (.zip (.var 3)<|.var 5) (.tp [1,2]) .nil<|.bin .Sub (.var 1)<|.bin .Mult (.var 3)<|.var 2) [y' D,y' (tI v),y' (.int v.length),y' (tI S.1),y,y' (tI f),y' (.int c)] B'= .ok (.lst<|(kb S.1 f<|-c).map Dt.int,B'):=λy=>by
     have J:az (aF (.tp [1,2]) (aZ (ay fs<|N-1) .nil) (aX (ay fs<|N-1)<|.bin .Sub (.var 1)<|.bin .Mult (.var 3)<|.var 2) [B',B',B',y' (.int c)]) (dH (S.1.map Dt.int)<|f.map Dt.int) B'= .ok ((S.1.zip f).map λq=>.int<|q.1-c*q.2,B'):=by
      rw[aY];refine aR λq K=>?_
      have m1:=aU (i:=c)<|.inr<|b f n q.2 (Zn K).2;exact aE rfl (by simp only[RX,m1]) rfl
     have e2:((S.1.zip f).map λq=>Dt.int<|q.1-c*q.2)=(kb S.1 f<|-c).map Dt.int:=by rw[<-By,Zc];rfl
     rw[e2]at J;exact aJ (d8 rfl rfl rfl rfl) (by rw[aY,Xd,Y9,a1];have:=E.m4;lia) rfl J
    have B:(S.2.map pv).length<=lim:=by have:=A.sb.length_le;rw[Xd,Y8]at this;rw[Xd];lia
    refine#[_,_,rfl,a6 J rfl<|ni (S1:=B') (by simp only[RX,Xx h0])<|nk rfl rfl rfl B<|a6 (by rw[cm];show (R.bind (ev (ay fs<|N-1) _ [y' D,y' (tI v),y' (.int v.length),y' (tI S.1),y' (.lst<|S.2.map pv++[pv (f,c)]),y' (tI f),y' (.int c)] B') _)=_;rw[hv];rfl) (dS _ _) rfl,y'<|tI f,y'<|.int c,?_];rw[XS];rfl
   ·rw[aae h0];exact#[_,_,rfl,a6 J rfl<|iW (by simp only[RX,Xt h0]) rfl,y'<|tI f,y'<|.int c,rfl])
 obtain⟨ρ1,s,x5,x6,rfl⟩:=loop;rw[Xd,Zz]at s;have hL:ay fs (N-1) 11 [D,.int v.length] B'= .ok (lI F,B'):=by rw[u];exact hL
 exact ax rfl (dS _ _)<|du rfl rfl<|bW (fN (d:=lI F) (by simp only[RX,hL]) rfl) rfl s<|aC rfl
theorem J4(t:3<=N){D:Dt}(O:bL D M)(E:jR m M (zeros M.length))(U:x.length<=4)(h:(∃q∈M,q.length≠x.length)\/yN M x=J'):ay fs N 12 [D,tI x] B'= .ex 1:=by
 rw[GJ t O E U];refine aaf ?_;rcases h with ⟨q,K,o⟩|h
 ·have:(M.any λq=> !((q.length:Int)==x.length))=G':=XH.mpr #[q,K,by
   have:((q.length:Int)==x.length)=J':=Z8.mpr ⋯;rw[this];rfl]
  rw[this];rfl
 ·rw[h];exact Yb _
theorem JM(t:1<=N){D:Dt}(h:ay fs (N-1) 12 [D,tI x] B'= .ex 1):ay fs N 22 [D,tI x] B'= .ok (.bl G',B'):=by
 refine aO rfl t rfl ?_;refine hJ (ρ1:=[y' D,y' (tI x),B',B']) ?_;have Y:bf (ay fs<|N-1) (.cons (.DF<|.call 12 (.cons (.var 0)<|.cons (.var 1) .nil) []) .nil) [y' D,y' (tI x),B',B'] B'= .ex 1:=by rw[bF,lQ];simp only[RX,h];rfl
 show aa G' (match bf (ay fs<|N-1) (.cons (.DF<|.call 12 (.cons (.var 0)<|.cons (.var 1) .nil) []) .nil) [y' D,y' (tI x),B',B'] B' with|.ex k=>(match [y' J',y' G'][k]? with|some (y' v)=>R.ok (Fl.ret<|.bl v,[y' D,y' (tI x),B',B'],B')|_=>.bad)|r=>r)=_;rw[Y];rfl
theorem PL(l):pl (tI l)=G'/\dp (tI l)<=1:=by
 have:∀l:List Int,kh (l.map Dt.int)=G'/\mz (l.map Dt.int)=0:=by
  intro l
  induction l with
  |nil=>exact#[rfl,rfl]
  |cons x l O=>exact#[by rw[XR,kh,O.1];rfl,by rw[XR,mz,O.2];rfl]
 exact#[by unfold tI;rw[pl];exact(this l).1,by unfold tI;rw[dp,(this l).2];lia]
theorem EK(M:List (List Int)):kh (M.map tI)=G'/\mz (M.map tI)<=1:=by
 induction M with
 |nil=>exact#[rfl,by simp[mz]]
 |cons x l O=>exact#[by rw[XR,kh,O.1,(PL x).1];rfl,by rw[XR,mz];have:=(PL x).2;lia]
theorem Gq(f)(F):ck .In (tI f) (lI F)= .ok (decide (f∈F))/\ck .NotIn (tI f) (lI F)= .ok (!decide (f∈F)):=by
 obtain⟨Z,Y⟩:=EK F;have hi:inD (tI f) (F.map tI)=decide (f∈F):=by
  induction F with
  |nil=>rfl
  |cons g F O=>
   have e:b8 (tI g) (tI f)=decide (g=f):=by rw[Cw,Cw,Gb,Mx.D.kX,X5,decide_eq_true_iff,decide_eq_true_iff];exact#[λh=>by rw[<-nW g,h,nW],λh=>by rw[h]]
   have O:=O (EK F).1 (EK F).2;unfold inD at O ⊢;rw[XR,List.any_cons,O,e,X5,XN,decide_eq_true_iff,decide_eq_true_iff,decide_eq_true_iff,Xg];exact#[λh=>h.imp Eq.symm id,λh=>h.imp Eq.symm id]
 have g:(pl (tI f)&&kh (F.map tI)&&decide (mz (F.map tI)<=100))=G':=by rw[(PL f).1,Z,Xx ⋯];rfl
 constructor
 ·show aa (pl (tI f)&&kh (F.map tI)&&decide (mz (F.map tI)<=100)) (R.ok<|inD (tI f)<|F.map tI)=_;rw[g,hi];rfl
 ·show aa (pl (tI f)&&kh (F.map tI)&&decide (mz (F.map tI)<=100)) (R.ok<|!inD (tI f) (F.map tI))=_;rw[g,hi];rfl
theorem Hz(l:List Int):ck .Eq (.lst<|l.map Dt.int) (.lst<|l.map Dt.int)= .ok G':=by
 have h:=PL l;have Z:pl (.lst<|l.map Dt.int)=G':=h.1;have Y:dp (.lst<|l.map Dt.int)<=1:=h.2;have ok:oy (.lst<|l.map Dt.int) (.lst<|l.map Dt.int)=G':=by unfold oy;rw[Z,Xx ⋯];rfl
 show aa (oy _ _) (R.ok<|b8 _ _)=_;rw[ok,fm _ Z];rfl
def Qm:Ts:=(.cons (.ifs (.or (.nt<|.bi (.isi "tuple")<|.cons (.var 5) .nil)<|.or (.cmp .NotEq (.bi .len<|.cons (.var 5) .nil)<|.con<|.int 2)<|.or (.cmp .NotIn (.idx (.var 5)<|.con<|.int 0)<|.var 1)<|.cmp .In (.idx (.var 5)<|.con<|.int 0)<|.mvr 3) (.cons (.ret<|.con<|.bl J') .nil) .nil)<|.cons (.ifs (.or (.nt<|.bi (.isi "tuple")<|.cons (.idx (.var 5)<|.con<|.int 0) .nil)<|.or (.nt<|.call 16 (.cons (.idx (.var 5)<|.con<|.int 1) .nil) [])<|.cmp .Lt (.idx (.var 5)<|.con<|.int 1)<|.con<|.int 1) (.cons (.ret<|.con<|.bl J') .nil) .nil)<|.cons (.app 3<|.idx (.var 5)<|.con<|.int 0)<|.cons (.asg 4<|.comp [B',B',B',y' 5] (.zip (.var 4)<|.idx (.var 5)<|.con<|.int 0) (.tp [1,2]) .nil<|.bin .Add (.var 1)<|.bin .Mult (.idx (.var 3)<|.con<|.int 1)<|.var 2) .nil)
theorem qC(t):∀l f:List Int,(l.zip f).map (λq=>q.1+t*q.2)=kb l f t
 |[],_=>rfl
 |_::_,[]=>rfl
 |a::l,b::f=>by show (a+t*b)::_=(a+t*b)::kb l f t;rw[<-qC t l f];rfl
theorem DO(t:2<=N)(m4:m<=4)(n:∀f∈F,f.length=m/\∀x∈f,vB x)(nd:F.Nodup)(sb:(P.map (·.1)).Sublist F)(ps:∀p∈P,1<=p.2)(u:bD.length=m)(Od:∀i,i<m->oI P i=gI bD i)(L:F.length<=900000):ay fs N 21 [.lst (P.map pv),lI F,tI bD] B'= .ok (.bl G',B'):=by
 have H:lim=1000000:=rfl;have pn:=nd.sublist sb;have z:P.length<=900000:=by have:=sb.length_le;rw[Xd]at this;lia
 have c:=d5 (tg:=.nm 5) (body:=bf (ay fs<|N-1) Qm)
  (λpre ρ=>∃(T:List Int)(x5:Option Dt),T.length=m/\(∀i,i<m->gI T i=oI (P.take pre.length) i)/\ρ=[y' (.lst<|P.map pv),y' (lI F),y' (tI bD),y' (lI ((P.take pre.length).map (·.1))),y' (.lst<|T.map Dt.int),x5]) #[zeros m,B',by simp[zeros],λi _=>cn m i,rfl] (by
   rintro pre x o ρ e ⟨T,x5,hT,b,rfl⟩;obtain⟨p,B,rfl⟩:=zX e;have l:=Zj B;have hk:=(W6.mp B).1;have e1:P.take (pre++[pv p]).length=P.take pre.length++[p]:=by rw[Xk,Y7,iF B]
   rw[e1];have r:=sb.subset<|XD.mpr #[p,l,rfl];have j:p.1∉(P.take pre.length).map (·.1):=λh=>by
    have e2:P=P.take pre.length++p::P.drop (pre.length+1):=by
     conv=>lhs;rw[<-Zy pre.length P]
     rw[YJ hk,(W6.mp B).2]
    rw[e2,XS,List.nodup_append]at pn;exact pn.2.2 _ h p.1 (by simp) rfl
   have i1:=(Gq p.1 F).2;have i2:=(Gq p.1 ((P.take pre.length).map (·.1))).1;rw[Xx r]at i1;rw[Xt j]at i2;have A:((P.take pre.length).map (·.1)).length<=900000:=by rw[Xd,Y8];lia
   generalize P.take pre.length=Q at *;obtain⟨a,v⟩:=n p.1 r;have p1:=ps p l;have t1:∀ds,cG (.isi "tuple") [.tup ds]= .ok (.bl G'):=λ_=>rfl
   have k:cG (.isi "tuple") [tI p.1]= .ok (.bl G'):=rfl;have wh:=Kq (iw:=16) (fs:=fs) rfl (N:=N-1) ⋯ p.2;have U:(pv p)= .tup [tI p.1,.int p.2]:=rfl;have M:∀y,ev (ay fs<|N-1) (.comp [B',B',B',y' 5] (.zip (.var 4)<|.idx (.var 5)<|.con<|.int 0) (.tp [1,2]) .nil<|.bin .Add (.var 1)<|.bin .Mult (.idx (.var 3)<|.con<|.int 1)<|.var 2) [y' (.lst<|P.map pv),y' (lI F),y' (tI bD),y,y' (.lst<|T.map Dt.int),y' (pv p)] B'= .ok (.lst<|(kb T p.1 p.2).map Dt.int,B'):=λy=>by
    have J:az (aF (.tp [1,2]) (aZ (ay fs<|N-1) .nil) (aX (ay fs<|N-1)<|.bin .Add (.var 1)<|.bin .Mult (.idx (.var 3)<|.con<|.int 1)<|.var 2) [B',B',B',y' (pv p)]) (dH (T.map Dt.int)<|p.1.map Dt.int) B'= .ok ((T.zip p.1).map λq=>.int<|q.1+p.2*q.2,B'):=by
     rw[aY];refine aR λq K=>?_
     have m1:=aU (i:=p.2)<|.inr<|v q.2 (Zn K).2;exact aE rfl (by simp only[RX,U,m1]) rfl
    have e2:((T.zip p.1).map λq=>Dt.int<|q.1+p.2*q.2)=(kb T p.1 p.2).map Dt.int:=by rw[<-qC,Zc];rfl
    rw[e2]at J;exact aJ (d8 (db:=tI p.1) rfl rfl rfl rfl) (by rw[aY,Xd,Y9,a];lia) rfl J
   refine#[_,_,rfl,iW (by simp only[RX,U,i1,i2,Y2];rfl)<|iW (by simp only[RX,U,wh,Xt (show¬p.2<1 by lia)];rfl)<|nk (d:=tI p.1) rfl rfl (dS _ _) (by rw[Xd];lia)<|a6 (M _) rfl rfl,kb T p.1 p.2,y'<|pv p,by rw[vh (by rw[hT,a]),a],λi hi=>?_,?_]
   ·rw[wX _ (by rw[hT,a]),b i hi];unfold oI;rw[XS,List.sum_append,XR,Zd,Zw,List.sum_nil,Int.add_zero]
   ·rw[XS];show _=[_,_,_,y' (Dt.lst ((Q.map (·.1)++[p.1]).map tI)),_,_];rw[XS];rfl)
 obtain⟨ρ1,s,T,x5,hT,b,rfl⟩:=c;rw[Xd,Zz]at b;have w:T=bD:=qi (by rw[hT,u]) λi hi=>by rw[b i ⋯,Od i ⋯]
 subst w;refine aO rfl ⋯ rfl ?_;show fin (bf (ay fs<|N-1) SW [y' (.lst<|P.map pv),y' (lI F),y' (tI T),B',B',B'] B')=_;have t3:∀ds,cG (.isi "list") [.lst ds]= .ok (.bl G'):=λ_=>rfl
 have g:∀y,ev (ay fs<|N-1) (.comp [B',B'] (.seq<|.var 2) (.nm 1) .nil<|.con<|.int 0) [y' (.lst<|P.map pv),y' (lI F),y' (tI T),y,B',B'] B'= .ok (.lst<|(zeros m).map Dt.int,B'):=λy=>by
  have J:az (aF (.nm 1) (aZ (ay fs<|N-1) .nil) (aX (ay fs<|N-1)<|.con<|.int 0) [B',B']) (T.map Dt.int) B'= .ok (T.map λ_=>.int 0,B'):=bH λq _=>aE rfl rfl rfl
  have e:(T.map λ_=>Dt.int 0)=(zeros m).map Dt.int:=by unfold zeros;rw[List.map_replicate,List.map_const',hT]
  rw[e]at J;exact aJ rfl (by rw[Xd];lia) rfl J
 have K:=Hz T;have W:cG .list [tI T]= .ok (.lst<|T.map Dt.int):=rfl;exact cD rfl<|du rfl rfl<|ax (g _) rfl<|bW rfl rfl s<|aC<|by simp only[RX,W,K]
def FL:Ts:=(.cons (.asg 6<|.comp [B',B',y' 0,y' 3] (.rng1<|.var 1) (.nm 1) .nil<|.bin .Sub (.callD 14<|.cons (.bin .Add (.bin .Mult (.con<|.int 2)<|.var 3)<|.con<|.int 1) .nil)<|.var 3)<|.cons (.ifs (.and (.cmp .Gt (.var 5)<|.con<|.int 0)<|.cmp .Eq (.callD 14<|.cons (.con<|.int 3) .nil)<|.con<|.int 0) (.cons (.asg 6<|.comp [B',B',B'] (.zip (.idx (.mvr 4)<|.con<|.int 0)<|.idx (.mvr 4)<|.bin .Sub (.var 5)<|.con<|.int 1) (.tp [1,2]) .nil<|.bin .Add (.var 1)<|.var 2)<|.cons (.asg 6<|.comp [B',B',y' 3] (.seq<|.var 6) (.nm 1) .nil<|.bi .max2<|.cons (.bin .Sub (.con<|.int 0)<|.var 2)<|.cons (.bi .min2<|.cons (.var 2)<|.cons (.var 1) .nil) .nil) .nil) .nil)<|.cons (.app 4<|.bi .tuple<|.cons (.var 6) .nil) .nil)
def Pg(f z:Int):Int:=if (if z<f then z else f)>0-f then(if z<f then z else f) else 0-f
theorem hT:fs[14]?=y' #[2,2,G',rM]:=rfl
theorem Cg(t:1<=N)(E:m<=4)(A:1<=far/\far<=3){h:Nat}(hd:h<=4)(s):
  ∃(R:List (List Int))(s':List Int),R.length<=4/\(∀q∈R,q.length=m/\∀z∈q,z.natAbs<=3)/\
   fin (bf (ay fs N) (.cons (.asgM 4 (.lst .nil)) (.cons (.fr (.nm 5) (.rng1 (.var 2)) FL) (.cons (.ret (.mvr 4)) .nil))) [B',y' (.int m),y' (.int h),y' (.int far),B',B',B'] (y' s))= .ok (lI R,y' s'):=by
 have H:lim=1000000:=rfl;have loop:=wx (tg:=.nm 5) (body:=bf (ay fs N) FL) (ds:=bu 0 h) (s:=s)
  (λpre ρ _=>∃R x5 x6,R.length=pre.length/\(∀q∈R,q.length=m/\∀z∈q,z.natAbs<=3)/\ρ=[B',y' (.int m),y' (.int h),y' (.int far),y' (lI R),x5,x6]) #[[],B',B',rfl,by simp,rfl] (by
   rintro pre y o ρ s e ⟨R,x5,x6,W,J,rfl⟩;obtain⟨Z,rfl⟩:=dY e;have e1:(pre++[Dt.int pre.length]).length=pre.length+1:=by simp
   generalize pre.length=k at *;have m2:=aU (i:=2) (j:=far) (.inl (by decide));obtain⟨B,s1,K,x,O⟩:=rV (f:=aF (.nm 1) (aZ (ay fs N) .nil) (aX (ay fs N) (.bin .Sub (.callD 14 (.cons (.bin .Add (.bin .Mult (.con (.int 2)) (.var 3)) (.con (.int 1))) .nil)) (.var 3))) [B',B',B',y' (.int far)]) (P:=λz=>z.natAbs<=3) (λd _ s=>by
    obtain⟨z,s',I,g2,g3⟩:=jm (ρ:=[B',y' d,B',y' (.int far)]) hT t (k:=2*far+1) (c:=.bin .Add (.bin .Mult (.con (.int 2)) (.var 3)) (.con (.int 1))) (λS=>by simp only[RX,m2]) ⋯ s;exact#[z-far,s',aE rfl (by simp only[RX,I]) rfl,⋯])
   rw[show (bu 0 m).length=m by simp[bu]]at x;have v:ev (ay fs N) (.comp [B',B',y' 0,y' 3] (.rng1 (.var 1)) (.nm 1) .nil (.bin .Sub (.callD 14 (.cons (.bin .Add (.bin .Mult (.con (.int 2)) (.var 3)) (.con (.int 1))) .nil)) (.var 3))) [B',y' (.int m),y' (.int h),y' (.int far),y' (lI R),y' (.int k),x6] (y' s)= .ok (.lst (B.map Dt.int),y' s1):=
    aJ (eN rfl ⋯) (by simp[bu];lia) rfl K
   have VA:(R.map tI).length<=lim:=by rw[Xd];lia
   have n:∀(q:List Int)(p:List Int),bf (ay fs N) (.cons (.app 4 (.bi .tuple (.cons (.var 6) .nil))) .nil) [B',y' (.int m),y' (.int h),y' (.int far),y' (lI R),y' (.int k),y' (.lst (q.map Dt.int))] (y' p)= .ok (.next,[B',y' (.int m),y' (.int h),y' (.int far),y' (lI (R++[q])),y' (.int k),y' (.lst (q.map Dt.int))],y' p):=λq p=>by refine nk rfl rfl (dS _ _) VA ?_;unfold lI;rw[XS];rfl
   have l:∀q:List Int,q.length=m->(∀z∈q,z.natAbs<=3)->∀z∈R++[q],z.length=m/\∀w∈z,w.natAbs<=3:=λq Z Y z g=>by
    rcases Xq.mp g with g|g
    ·exact J z g
    ·rw[XC]at g;subst g;exact#[Z,Y]
   obtain⟨z,p,I,g2,g3⟩:=jm (ρ:=[B',y' (.int m),y' (.int h),y' (.int far),y' (lI R),y' (.int k),y' (.lst (B.map Dt.int))]) hT t (c:=.con (.int 3)) (λ_=>rfl) (by decide) s1;by_cases hk:0<k
   ·have k0:decide ((0:Int)<(k:Int))=G':=Xx ⋯;by_cases g:z=0
    ·subst g;obtain⟨a,ha⟩:∃a,R[0]?=y' a:=#[R[0]'⋯,Xs ⋯];obtain⟨b,L⟩:∃b,R[k-1]?=y' b:=#[R[k-1]'⋯,Xs ⋯];have WI:=J a (Zj ha);have r:=J b (Zj L);have i1:cq (lI R) (.int 0)= .ok (tI a):=mO ha;have i2:=mO L;have U:(k:Int)-1=((k-1:Nat):Int):=⋯
     let r2:List Int:=(a.zip b).map λq=>q.1+q.2
     let F:List Int:=r2.map λz=>Pg far z
     have X:ev (ay fs N) (.comp [B',B',B'] (.zip (.idx (.mvr 4) (.con (.int 0))) (.idx (.mvr 4) (.bin .Sub (.var 5) (.con (.int 1))))) (.tp [1,2]) .nil (.bin .Add (.var 1) (.var 2))) [B',y' (.int m),y' (.int h),y' (.int far),y' (lI R),y' (.int k),y' (.lst (B.map Dt.int))] (y' p)= .ok (.lst (r2.map Dt.int),y' p):=by
      have u:az (aF (.tp [1,2]) (aZ (ay fs N) .nil) (aX (ay fs N) (.bin .Add (.var 1) (.var 2))) [B',B',B']) (dH (a.map Dt.int) (b.map Dt.int)) (y' p)= .ok ((a.zip b).map λq=>.int (q.1+q.2),y' p):=by rw[aY];exact aR λq _=>aE rfl rfl rfl
      have e:((a.zip b).map λq=>Dt.int (q.1+q.2))=r2.map Dt.int:=by simp only[r2,Zc];rfl
      rw[e]at u;exact aJ (d8 (S1:=y' p) (da:=tI a) (db:=tI b) (by simp only[RX,i1]) (by simp only[RX,U,i2]) rfl rfl) (by rw[aY,Xd,Y9];lia) rfl u
     have c3:ev (ay fs N) (.comp [B',B',y' 3] (.seq (.var 6)) (.nm 1) .nil (.bi .max2 (.cons (.bin .Sub (.con (.int 0)) (.var 2)) (.cons (.bi .min2 (.cons (.var 2) (.cons (.var 1) .nil))) .nil)))) [B',y' (.int m),y' (.int h),y' (.int far),y' (lI R),y' (.int k),y' (.lst (r2.map Dt.int))] (y' p)= .ok (.lst (F.map Dt.int),y' p):=by
      have u:az (aF (.nm 1) (aZ (ay fs N) .nil) (aX (ay fs N) (.bi .max2 (.cons (.bin .Sub (.con (.int 0)) (.var 2)) (.cons (.bi .min2 (.cons (.var 2) (.cons (.var 1) .nil))) .nil)))) [B',B',y' (.int far)]) (r2.map Dt.int) (y' p)= .ok (r2.map λz=>.int (Pg far z),y' p):=bH λz _=>aE rfl rfl rfl
      have e:(r2.map λz=>Dt.int (Pg far z))=F.map Dt.int:=by simp only[F,Zc];rfl
      rw[e]at u;exact aJ rfl (by rw[Xd];simp only[r2,Xd,Y9];lia) rfl u
     refine#[_,_,p,rfl,a6 v rfl (ni (by simp only[RX,k0,I];rfl) (a6 X rfl (a6 c3 rfl (n F p)))),R++[F],y' (.int k),_,by rw[e1,Xk,Y7,W],l F (by simp only[F,r2,Xd,Y9];lia) λz g=>?_,rfl];obtain⟨w,_,rfl⟩:=XD.mp g;unfold Pg;split<;>split<;>lia
    ·have M:=Z8.mpr g;exact#[_,_,p,rfl,a6 v rfl (iW (by simp only[RX,k0,I,M,aag]) (n B p)),R++[B],y' (.int k),_,by rw[e1,Xk,Y7,W],l B x O,rfl]
   ·have k0:decide ((0:Int)<(k:Int))=J':=Xt ⋯;exact#[_,_,s1,rfl,a6 v rfl (iW (by simp only[RX,k0,aad,X6]) (n B s1)),R++[B],y' (.int k),_,by rw[e1,Xk,Y7,W],l B x O,rfl])
 obtain⟨ρ1,s',cy,R,x6,x7,W,J,rfl⟩:=loop;have Q:(bu 0 h).length=h:=by simp[bu]
 exact#[R,s',⋯,J,du rfl rfl (bW (eN rfl ⋯) rfl cy (aC rfl))]
theorem Fh(hN:2<=N)(E:m<=4)(s):∃(R:List (List Int))(S:List Int),R.length<=4/\(∀q∈R,q.length=m/\∀z∈q,z.natAbs<=3)/\ay fs N 19 [.int m] (y' s)= .ok (lI R,y' S):=by
 obtain⟨z,s1,I,W,i⟩:=jm (ρ:=[B',y' (.int m),B',B',B',B',B']) hT (N:=N-1) ⋯ (c:=.con<|.int 7) (λ_=>rfl) (by decide) s;obtain⟨q,rfl⟩:∃q:Nat,z=q:=#[z.toNat,⋯];have M:q<7:=⋯
 obtain⟨h,hd,b⟩:∃h:Nat,h<=4/\cq (.lst [.int 1,.int 1,.int 2,.int 2,.int 3,.int 0,.int 4]) (.int q)= .ok (.int h):=by
  match q,M with
  |0,_=>exact#[1,by decide,rfl]
  |1,_=>exact#[1,by decide,rfl]
  |2,_=>exact#[2,by decide,rfl]
  |3,_=>exact#[2,by decide,rfl]
  |4,_=>exact#[3,by decide,rfl]
  |5,_=>exact#[0,by decide,rfl]
  |6,_=>exact#[4,by decide,rfl]
 have w:ev (ay fs<|N-1) (.idx (.lst<|.cons (.con<|.int 1)<|.cons (.con<|.int 1)<|.cons (.con<|.int 2)<|.cons (.con<|.int 2)<|.cons (.con<|.int 3)<|.cons (.con<|.int 0)<|.cons (.con<|.int 4) .nil)<|.callD 14<|.cons (.con<|.int 7) .nil) [B',y' (.int m),B',B',B',B',B'] (y' s)= .ok (.int h,y' s1):=by have mk:Ep .lst [.int 1,.int 1,.int 2,.int 2,.int 3,.int 0,.int 4] (y' s)= .ok (.lst [.int 1,.int 1,.int 2,.int 2,.int 3,.int 0,.int 4],y' s):=rfl;simp only[RX,mk,I];rw[b];rfl
 by_cases J:1<h/\m=4
 ·obtain⟨R,S,Z,Y,u⟩:=Cg (N:=N-1) (far:=((4-min h 3:Nat):Int)) ⋯ E ⋯ hd s1;refine#[R,S,Z,Y,fq rfl ⋯ rfl ?_];show fin (bf (ay fs<|N-1) Qj [B',y' (.int m),B',B',B',B',B']<|y' s)=_;have t:(1:Int)<(h:Int):=⋯
  have v:((m:Int)==4)=G':=by rw[J.2];rfl
  have a:(4:Int)-(if (3:Int)<(h:Int) then 3 else(h:Int))=((4-min h 3:Nat):Int):=by split<;>lia
  exact ax w rfl<|ax rfl rfl<|gF (by simp only[RX,Xx t,v];rfl)<|ax (by simp only[RX,a]) rfl u
 ·obtain⟨R,S,Z,Y,u⟩:=Cg (N:=N-1) (far:=3) ⋯ E ⋯ hd s1;refine#[R,S,Z,Y,fq rfl ⋯ rfl ?_];show fin (bf (ay fs<|N-1) Qj [B',y' (.int m),B',B',B',B',B']<|y' s)=_;refine ax w rfl<|ax rfl rfl<|cD ?_ u;by_cases t:(1:Int)<(h:Int)
  ·have v:((m:Int)==4)=J':=Z8.mpr λz=>J #[⋯,⋯]
   simp only[RX,Xx t,v];rfl
  ·simp only[RX,Xt t];rfl
def Qo:Ts:=(.cons (.ifs (.cmp .Gt (.bi .len<|.cons (.var 1) .nil)<|.con<|.int 0) (.cons (.asg 7<|.callD 15<|.cons (.bin .Add (.var 3)<|.con<|.int 1) .nil)<|.cons (.asg 6<|.comp [B',B',B',y' 7] (.zip (.var 6)<|.idx (.var 1)<|.bin .Mod (.var 5)<|.bi .len<|.cons (.var 1) .nil) (.tp [1,2]) .nil<|.bin .Add (.var 1)<|.bin .Mult (.var 3)<|.var 2) .nil) .nil) .nil)
theorem CA(hN:3<=N)(m4:m<=4){M F:List (List Int)}(hF:∀f∈F,f.length=m/\(∀i,i<m->0<=gI f i)/\∀q∈M,af q f=0)(L:F.length<=900000)(f0:0<=far)(r:far<2^60){t:Nat}(ht:t<=64)(s):
  ∃(v S:List Int),v.length=m/\(∀i,i<m->0<=gI v i)/\(∀q∈M,af q v=0)/\ay fs N 20 [lI F,.int m,.int far,.int t] (y' s)= .ok (tI v,y' S):=by
 have H:lim=1000000:=rfl;have ln:=qv F;obtain⟨n,I,p⟩:∃n:Nat,n<=1000000/\cG .max2 [.int F.length,.int t]= .ok (.int n):=by
  by_cases h:F.length<t
  ·exact#[t,⋯,by show R.ok (Dt.int<|if (t:Int)>F.length then(t:Int) else F.length)=_;rw[aaf ⋯]]
  ·exact#[F.length,⋯,by show R.ok (Dt.int<|if (t:Int)>F.length then(t:Int) else F.length)=_;rw[aae ⋯]]
 have c:=wx (tg:=.nm 5) (body:=bf (ay fs<|N-1) Qo) (ds:=bu 0 n) (s:=s)
  (λpre ρ _=>∃(l:List Int)(x5 x7:Option Dt),l.length=m/\(∀i,i<m->0<=gI l i)/\(∀q∈M,af q l=0)/\ρ=[B',y' (lI F),y' (.int m),y' (.int far),y' (.int t),x5,y' (.lst<|l.map Dt.int),x7]) #[zeros m,B',B',by simp[zeros],λi _=>by rw[show gI (zeros m) i=0 from cn m i];exact Yi 0,λq _=>fk q m,rfl] (by
   rintro pre y o ρ s e ⟨l,x5,x7,Z,Y,u,rfl⟩;obtain⟨P,rfl⟩:=dY e;generalize pre.length=k at *;by_cases h0:0<F.length
   ·have a:decide ((0:Int)<(F.length:Int))=G':=Xx ⋯;obtain⟨z,S,w1,w2,B⟩:=FF (iw:=15) hT rfl (N:=N-1) ⋯ (k:=far+1) ⋯ s;have w:ev (ay fs<|N-1) (.callD 15<|.cons (.bin .Add (.var 3)<|.con<|.int 1) .nil) [B',y' (lI F),y' (.int m),y' (.int far),y' (.int t),y' (.int k),y' (.lst<|l.map Dt.int),x7] (y' s)= .ok (.int z,y' S):=mE rfl w1;have E:=Nat.mod_lt k h0;obtain⟨f,A⟩:∃f,F[k % F.length]?=y' f:=#[F[k % F.length],Xs E];obtain⟨a1,a2,a3⟩:=hF f<|Zj A;have i1:=mO A;have m1:=dh (i:=k) (j:=F.length) ⋯;rw[show (k:Int) % (F.length:Int)=((k % F.length:Nat):Int) by lia]at m1;have hv:ev (ay fs<|N-1) (.comp [B',B',B',y' 7] (.zip (.var 6)<|.idx (.var 1)<|.bin .Mod (.var 5)<|.bi .len<|.cons (.var 1) .nil) (.tp [1,2]) .nil<|.bin .Add (.var 1)<|.bin .Mult (.var 3)<|.var 2) [B',y' (lI F),y' (.int m),y' (.int far),y' (.int t),y' (.int k),y' (.lst<|l.map Dt.int),y' (.int z)] (y' S)= .ok (.lst<|(kb l f z).map Dt.int,y' S):=by
     have J:az (aF (.tp [1,2]) (aZ (ay fs<|N-1) .nil) (aX (ay fs<|N-1)<|.bin .Add (.var 1)<|.bin .Mult (.var 3)<|.var 2) [B',B',B',y' (.int z)]) (dH (l.map Dt.int)<|f.map Dt.int) (y' S)= .ok ((l.zip f).map λq=>.int<|q.1+z*q.2,y' S):=by
      rw[aY];refine aR λq K=>?_
      have m1:=aU (i:=z) (j:=q.2)<|.inl ⋯;exact aE rfl (by simp only[RX,m1]) rfl
     have e2:((l.zip f).map λq=>Dt.int<|q.1+z*q.2)=(kb l f z).map Dt.int:=by rw[<-qC,Zc];rfl
     rw[e2]at J;exact aJ (d8 (db:=tI f) rfl (by simp only[RX,ln,m1,i1]) rfl rfl) (by rw[aY,Xd,Y9,a1];lia) rfl J
    refine#[_,_,S,rfl,ni (by simp only[RX,ln,a])<|a6 w rfl<|a6 hv rfl rfl,kb l f z,y'<|.int k,y'<|.int z,by rw[vh (by rw[Z,a1]),a1],λi hi=>?_,λq K=>?_,rfl]
    ·rw[wX _ (by rw[Z,a1])];have:=Y i hi;have:=Yo w2 (a2 i hi)
     lia
    ·rw[qJ _ (by rw[Z,a1]),u q K,a3 q K,Yp];rfl
   ·have a:decide ((0:Int)<(F.length:Int))=J':=Xt ⋯;exact#[_,_,s,rfl,iW (by simp only[RX,ln,a]) rfl,l,y'<|.int k,x7,Z,Y,u,rfl])
 obtain⟨ρ1,S,cy,l,x5,x7,Z,Y,u,rfl⟩:=c;refine#[l,S,Z,Y,u,fq rfl ⋯ rfl ?_];show fin (bf (ay fs<|N-1) SV [B',y' (lI F),y' (.int m),y' (.int far),y' (.int t),B',B',B']<|y' s)=_;have g:ev (ay fs<|N-1) (.comp [B',B'] (.rng1<|.var 2) (.nm 1) .nil<|.con<|.int 0) [B',y' (lI F),y' (.int m),y' (.int far),y' (.int t),B',B',B'] (y' s)= .ok (.lst<|(zeros m).map Dt.int,y' s):=by
  have J:az (aF (.nm 1) (aZ (ay fs<|N-1) .nil) (aX (ay fs<|N-1)<|.con<|.int 0) [B',B']) (bu 0 m) (y' s)= .ok ((bu 0 m).map λ_=>.int 0,y' s):=oW λq _=>aE rfl rfl rfl
  have e:((bu 0 m).map λ_=>Dt.int 0)=(zeros m).map Dt.int:=by unfold zeros;rw[List.map_replicate,List.map_const'];simp[bu]
  rw[e]at J;exact aJ (eN rfl ⋯) (by simp[bu];lia) rfl J
 exact ax g rfl<|bW (eN (by simp only[RX,ln,p]) ⋯) rfl cy<|aC rfl
section
variable{F:FT}{ρ:ah}{S S1:Sx}{r:R (Dt×Sx)}{ts:Ts}
theorem AR(h:ev F c ρ S= .ok (.lst<|l.map Dt.int,S1))(t:(decide (lk c=0)&&decide (i<ρ.length))=G')(k:fin (bf F ts (ρ.set i B')<|y' l)=r):fin (bf F (.cons (.asgD i c) ts) ρ S)=r:=by refine dw ?_ k;rw[tL,h,R.ao];show (match intsOf (l.map Dt.int)with|some ns=>aa (decide (lk c=0)&&decide (i<ρ.length)) (.ok (Fl.next,ρ.set i B',y' ns))|none=>R.bad)=_;rw[Rx.ints_map,t];rfl
end
theorem jE(h:a.length+b.length<=1000):kI .Add (tI a) (tI b)= .ok (tI<|a++b):=by have H:lim=1000000:=rfl;show aa (decide ((a.map Dt.int).length+(b.map Dt.int).length<=lim)) (R.ok<|Dt.tup<|a.map Dt.int++b.map Dt.int)=_;rw[Xx (by rw[Xd,Xd];lia),<-XS];rfl
theorem Eo(h:l≠[]):cG .minL [tI l]= .ok (.int<|fh l):=by
 show (match intsOf (l.map Dt.int)with|some ns=>aa (!ns.isEmpty) (R.ok<|Dt.int<|fh ns)|none=>.bad)=_;rw[Rx.ints_map];cases l with
 |nil=>exact absurd rfl h
 |cons=>rfl
theorem Ob{p:Nat}(h:p<=l.length):eJ (tI l) B' (y' (p:Int))= .ok (tI<|l.take p):=by show R.ok (Dt.tup<|cutD (l.map Dt.int) B'<|y' (p:Int))=_;rw[AC _ (by rw[Xd];exact h),<-List.map_take];rfl
theorem GK{p:Nat}(h:p<=l.length):eJ (tI l) (y' (p:Int)) B'= .ok (tI<|l.drop p):=by show R.ok (Dt.tup<|cutD (l.map Dt.int) (y' (p:Int)) B')=_;rw[AE _ (by rw[Xd];exact h),<-List.map_drop];rfl
section
variable{m:Nat}{M:List (List Int)}(E:jR m M (zeros M.length))
include E
theorem IL:(aI m M).Nodup:=(fO E).2.imp λ {a b} h e=>by rw[e]at h;have:=h.2.1;rw[nX]at this;cases this
theorem pass(t:9<=N){D:Dt}(O:bL D M)(L:(aI m M).length<=900000)(H:x.length=m)(I:∀i,i<m->0<=gI x i)(W:∀q∈M,af q x=0):
  ay fs N 12 [D,tI x] B'= .ok (.lst<|(iI m M x).2.map pv,B')/\ay fs N 21 [.lst ((iI m M x).2.map pv),lI (aI m M),tI x] B'= .ok (.bl G',B'):=by
 obtain⟨Z,Y,u⟩:=Fj E H I W;have n:∀f∈aI m M,f.length=m/\∀x∈f,vB x:=λf A=>#[((fO E).1 f A).1,λx U=>by
  obtain⟨i,hi,rfl⟩:=eK U;exact o9 E A i<|by rw[((fO E).1 f A).1]at hi;exact hi]
 exact#[Fk t O E H I W,DO ⋯ E.m4 n (IL E) Z Y H u L]
theorem za:(iI m M<|zeros m).2=[]:=by
 have key:∀L:List (List Int),(∀f∈L,f∈aI m M)->L.foldl ze (zeros m,[])=(zeros m,[]):=by
  intro L
  induction L with
  |nil=>intro _;rfl
  |cons f L O=>
   intro h;obtain⟨a1,a2,a3,Z⟩:=(fO E).1 f<|h f Xa;have e:ze (zeros m,[]) f=(zeros m,[]):=by
    obtain⟨W,v,i,hi,X⟩:=F2 (l:=zeros m) (by simp[zeros]) a1 (λi _=>by rw[show gI (zeros m) i=0 from cn m i];exact Yi 0) a2 Z;refine aae λJ=>?_
    have J:0<ow (zeros m) f:=J;have k1:=v i hi;rw[show gI (zeros m) i=0 from cn m i]at k1 X;have q:=a2 i hi;by_cases hz:gI f i=0
    ·rw[hz,Yp]at X;lia
    ·have:=Int.mul_pos J (show 0<gI f i by lia);lia
   rw[List.foldl_cons,e];exact O λg t=>h g (W7 _ t)
 unfold iI;rw[key _ λf h=>h]
theorem refuse(t:9<=N){D:Dt}(O:bL D M)(U:x.length<=4)(h:(∃q∈M,q.length≠x.length)\/yN M x=J'):ay fs N 22 [D,tI x] B'= .ok (.bl G',B'):=
 JM ⋯ (J4 (N:=N-1) ⋯ O E U h)
end
theorem Bz(hi:i<x.length)(h:gI x i<0):yN M x=J':=by unfold yN;rw[XH.mpr #[gI x i,dD hi,Xx h]];rfl
theorem CT{D:Dt}(J:ev F c ρ S= .ok (D,S))(O:itemsOf D=y' L)(W:L.length<=1000)(P:lk c=0):ev F (.comp [B',B'] (.seq c) (.nm 1) .nil<|.con<|.int 0) ρ S= .ok (.lst<|(zeros L.length).map Dt.int,S):=by
 have H:lim=1000000:=rfl;have h:az (aF (.nm 1) (aZ F .nil) (aX F<|.con<|.int 0) [B',B']) L S= .ok (L.map λ_=>.int 0,S):=oW λq _=>aE (ρ1:=[B',y' q]) rfl rfl rfl
 have e:(L.map λ_=>Dt.int 0)=(zeros L.length).map Dt.int:=by unfold zeros;rw[List.map_replicate,List.map_const']
 rw[e]at h;exact aJ (ds:=L) (S1:=S) (fN (d:=D) J O) ⋯ (by show (decide (lk c<=1)||_)=G';rw[P];rfl) h
theorem M7(M):ck .NotEq (lI M) (lI M)= .ok J':=by
 have h:=EK M;have Z:pl (lI M)=G':=h.1;have ok:oy (lI M) (lI M)=G':=by unfold oy;rw[Z,show dp (lI M)=mz (M.map tI)+1 from rfl,Xx ⋯];rfl
 show aa (oy _ _) (R.ok<|!b8 _ _)=_;rw[ok,fm _ Z];rfl
section
variable{F:FT}{ρ:ah}{S:Sx}{a b r D D' T:Dt}{f i j k:Nat}{x:Bool}{m n z:Int}
theorem call2(Z:aT ρ i= .ok a)(Y:aT ρ j= .ok b)(h:F f [a,b] B'= .ok (r,B')):ev F (.call f (.cons (.var i)<|.cons (.var j) .nil) []) ρ S= .ok (r,S):=by simp only[RX,Z,Y,XM,h]
theorem RQ(h:aT ρ i= .ok a)(e:cG u [a]= .ok r):ev F (.bi u<|.cons (.var i) .nil) ρ S= .ok (r,S):=by simp only[RX,h,e]
theorem GC(h:aT ρ 9= .ok b)(l:cG .len [b]= .ok (.int n))(e:decide (0<n)=x):cg F (.cmp .Gt (.bi .len<|.cons (.var 9) .nil)<|.con<|.int 0) ρ S= .ok (x,S):=by simp only[RX,h,l,e]
theorem JG(Z:aT ρ 9= .ok a)(Y:aT ρ 2= .ok b)(u:aT ρ 4= .ok D)(h:ev F c ρ S= .ok (r,S1)):fK F (.cons (.var 9)<|.cons (.var 2)<|.cons (.var 4)<|.cons c .nil) ρ S= .ok ([a,b,D,r],S1):=by simp only[RX,Z,Y,u,h]
theorem ND(h:ev F c ρ S= .ok (a,S1))(e:cq (.lst [.int 3,.int 1000000,.int 100000000000000]) a= .ok r):ev F (.idx (.lst<|.cons (.con<|.int 3)<|.cons (.bin .Pow (.con<|.int 10)<|.con<|.int 6)<|.cons (.bin .Pow (.con<|.int 10)<|.con<|.int 14) .nil) c) ρ S= .ok (r,S1):=by have j:kI .Pow (.int 10) (.int 6)= .ok (.int 1000000):=rfl;have i:kI .Pow (.int 10) (.int 14)= .ok (.int 100000000000000):=rfl;simp only[RX,j,i,h,e]
theorem Qp(Z:aT ρ i= .ok a)(Y:aT ρ j= .ok b)(h:kI o a b= .ok r):ev F (.bin o (.var i)<|.var j) ρ S= .ok (r,S):=by simp only[RX,Z,Y,h]
theorem RT(h0:aT ρ i= .ok a)(Z:aT ρ 9= .ok b)(Y:aT ρ 10= .ok r)(u:aT ρ 11= .ok D)(Q:aT ρ 3= .ok D')(h:F f [a,b,r] B'= .ok (.bl G',B'))(e:ck .NotEq D D'= .ok J'):
  cg F (.or (.nt<|.call f (.cons (.mvr i)<|.cons (.var 9)<|.cons (.var 10) .nil) [])<|.cmp .NotEq (.var 11)<|.var 3) ρ S= .ok (J',S):=by
 simp only[RX,h0,Z,Y,u,Q,XM,h,e,X9];rfl
theorem GE(h0:aT ρ 11= .ok D)(Z:aT ρ 9= .ok b)(Y:aT ρ j= .ok r)(g:F k [D,r] B'= .ok (a,B'))(h:F f [a,b,r] B'= .ok (.bl G',B')):
  cg F (.nt<|.call f (.cons (.call k (.cons (.var 11)<|.cons (.var j) .nil) [])<|.cons (.var 9)<|.cons (.var j) .nil) []) ρ S= .ok (J',S):=by
 simp only[RX,call2 h0 Y g,Z,Y,XM,h,X9]
theorem GD(h0:aT ρ 11= .ok D)(Y:aT ρ j= .ok r)(g:F f [D,r] B'= .ok (.bl G',B')):cg F (.nt<|.call f (.cons (.var 11)<|.cons (.var j) .nil) []) ρ S= .ok (J',S):=by simp only[RX,h0,Y,XM,g,X9]
theorem NB{p:Nat}(h0:aT ρ 10= .ok (tI l))(Z:aT ρ 13= .ok (.int p))(Y:aT ρ 6= .ok (.int z))(B:p<l.length)(W:l.length<=4)(J:l.take p++[gI l p+z]++l.drop (p+1)=t):
  ev F (.bin .Add (.bin .Add (.sliH (.var 10)<|.var 13)<|.tup<|.cons (.bin .Add (.idx (.var 10)<|.var 13)<|.var 6) .nil)<|.sliL (.var 10)<|.bin .Add (.var 13)<|.con<|.int 1) ρ S= .ok (tI t,S):=by
 have i1:=gJ (l:=l) (p:=p) B;have v:=Ob (l:=l) (p:=p) ⋯;have X:=GK (l:=l) (p:=p+1) ⋯;have H:=jE (a:=l.take p) (b:=[gI l p+z]) (by rw[Y8,Y7];lia);have h:=jE (a:=l.take p++[gI l p+z]) (b:=l.drop<|p+1) (by rw[Xk,Y8,Y7,Y1];lia);rw[J]at h;have x:Dt.tup [Dt.int (gI l p+z)]=tI [gI l p+z]:=rfl;have c:((p:Int)+1)=((p+1:Nat):Int):=rfl;simp only[RX,h0,Z,Y,v,X,i1,H,h,x,c]
theorem NF(h0:aT ρ 14= .ok a)(Z:aT ρ 3= .ok D)(E:cG .minL [a]= .ok (.int z))(J:∀S,ev F c ρ S= .ok (b,S))(h:F f [D,a,b] B'= .ok (.bl x,B')):
  cg F (.and (.cmp .GtE (.bi .minL<|.cons (.var 14) .nil)<|.con<|.int 0)<|.call f (.cons (.var 3)<|.cons (.var 14)<|.cons c .nil) []) ρ S= .ok (decide (0<=z)&&x,S):=by
 simp only[RX,h0,Z,E];cases decide (0<=z) with
 |false=>rfl
 |true=>simp only[RX,J,XM,h,aag,Bool.true_and]
theorem NG(h0:aT ρ 3= .ok D')(Z:aT ρ 15= .ok r)(Y:aT ρ 11= .ok D)(j:cG .len [D']= .ok (.int m))(M:cG .len [r]= .ok (.int n))(h:0<m->n<5->F f [D,r] B'= .ok (.bl G',B')):
  cg F (.and (.cmp .Gt (.bi .len<|.cons (.var 3) .nil)<|.con<|.int 0)<|.and (.cmp .Lt (.bi .len<|.cons (.var 15) .nil)<|.con<|.int 5)<|.nt<|.call f (.cons (.var 11)<|.cons (.var 15) .nil) []) ρ S= .ok (J',S):=by
 simp only[RX,h0,Z,j,M];by_cases a0:0<m
 ·by_cases a1:n<5
  ·simp only[RX,Xx a0,Xx a1,Y,XM,h a0 a1,aag,X9]
  ·simp only[RX,Xx a0,Xt a1,aag,aad,X6]
 ·simp only[RX,Xt a0,aad,X6]
theorem NC(h0:aT ρ 11= .ok D)(Z:aT ρ 17= .ok a)(Y:aT ρ 3= .ok D')(u:aT ρ 10= .ok r)(Q:aT ρ 9= .ok b)(e:F k [D,a] B'= .ok (.lst [],B'))(t:cG .tuple [D']= .ok T)(g:F k [T,r] B'= .ok (w,B'))(h:F f [w,b,r] B'= .ok (.bl G',B')):
  ev F (.and (.cmp .Eq (.call k (.cons (.var 11)<|.cons (.var 17) .nil) [])<|.lst .nil)<|.call f (.cons (.call k (.cons (.bi .tuple<|.cons (.var 3) .nil)<|.cons (.var 10) .nil) [])<|.cons (.var 9)<|.cons (.var 10) .nil) []) ρ S= .ok (.bl G',S):=by
 have e0:ck .Eq (.lst []) (.lst [])= .ok G':=rfl;simp only[RX,h0,Z,Y,u,Q,XM,e,e0,t,g,h]
theorem JH(h0:aT ρ 10= .ok r)(Z:aT ρ 7= .ok D)(e1:kI .Add r (.tup [.int 0])= .ok a)(e2:eJ r (y' 1) B'= .ok b)(h:cq (.lst [a,b]) D= .ok T):ev F (.idx (.lst<|.cons (.bin .Add (.var 10)<|.tup<|.cons (.con<|.int 0) .nil)<|.cons (.sliL (.var 10)<|.con<|.int 1) .nil)<|.var 7) ρ S= .ok (T,S):=by simp only[RX,h0,Z,e1,e2,h]
end
def uC:Ts:=(.cons (.asg 17<|.bi .tuple<|.cons (.comp [B',B'] (.seq<|.var 10) (.nm 1) .nil<|.con<|.int 0) .nil)<|.cons (.ret<|.and (.cmp .Eq (.call 12 (.cons (.var 11)<|.cons (.var 17) .nil) [])<|.lst .nil)<|.call 21 (.cons (.call 12 (.cons (.bi .tuple<|.cons (.var 3) .nil)<|.cons (.var 10) .nil) [])<|.cons (.var 9)<|.cons (.var 10) .nil) []) .nil)
def uA:Ts:=(.cons (.asg 15<|.idx (.lst<|.cons (.bin .Add (.var 10)<|.tup<|.cons (.con<|.int 0) .nil)<|.cons (.sliL (.var 10)<|.con<|.int 1) .nil)<|.var 7)<|.cons (.ifs (.and (.cmp .Gt (.bi .len<|.cons (.var 3) .nil)<|.con<|.int 0)<|.and (.cmp .Lt (.bi .len<|.cons (.var 15) .nil)<|.con<|.int 5)<|.nt<|.call 22 (.cons (.var 11)<|.cons (.var 15) .nil) []) (.cons (.ret<|.con<|.bl J') .nil) .nil)<|.cons (.ifs (.cmp .Gt (.bi .len<|.cons (.var 9) .nil)<|.con<|.int 0) (.cons (.asg 16<|.bi .tuple<|.cons (.comp [B',B'] (.seq<|.idx (.var 9)<|.bin .Mod (.var 8)<|.bi .len<|.cons (.var 9) .nil) (.nm 1) .nil<|.bin .Sub (.con<|.int 0)<|.var 1) .nil)<|.cons (.ifs (.nt<|.call 22 (.cons (.var 11)<|.cons (.var 16) .nil) []) (.cons (.ret<|.con<|.bl J') .nil) .nil) .nil) .nil) uC)
theorem law_true:∀ns:List Int,ns.length<=63->∃S,ay fs 60 23 [.iZ ns] B'= .ok (.bl G',S):=λns _=>by
 have H:lim=1000000:=rfl;obtain⟨ds,HS⟩:=AH (fs:=fs) (id:=13) rfl (N:=59) (by decide) ns;have tk:∀(k:Int),0<k->∀s,∃(z:Int)(s':List Int),(∀ρ,ev (ay fs 59) (.callD 14 (.cons (.con (.int k)) .nil)) ρ (y' s)= .ok (.int z,y' s'))/\0<=z/\z<k:=λk P s=>by obtain⟨z,s',Z,Y,u⟩:=xQ hT (N:=59) (by decide) P s;exact#[z,s',λρ=>mE (args:=[.int k]) rfl Z,Y,u]
 obtain⟨q,s1,I,Wq,Wr⟩:=tk 4 (by decide) ds;obtain⟨m,hm,m1,m4⟩:∃m:Nat,1+q=m/\1<=m/\m<=4:=#[(1+q).toNat,⋯,⋯,⋯];obtain⟨M,s2,M1,M2,M3⟩:=Fh (N:=59) (m:=m) (by decide) m4 s1;have E:jR m M (zeros M.length):=#[m1,m4,⋯,by simp[zeros],λq K=>(M2 q K).1,λq K=>(M2 q K).2,λx U=>by rw[YN U];decide];obtain⟨z3,s3,g3,Wt,Wu⟩:=tk 3 (by decide) s2;obtain⟨far,f0,r,QZ⟩:∃far:Int,0<=far/\far<2^60/\cq (.lst [.int 3,.int 1000000,.int 100000000000000]) (.int z3)= .ok (.int far):=by
  have:z3=0\/z3=1\/z3=2:=⋯
  rcases this with rfl|rfl|rfl
  ·exact#[3,by decide,by decide,rfl]
  ·exact#[1000000,by decide,by decide,rfl]
  ·exact#[100000000000000,by decide,by decide,rfl]
 obtain⟨pl,s4,g4,UR,Wv⟩:=tk 4 (by decide) s3;obtain⟨cz,s5,g5,Ww,Wx⟩:=tk 2 (by decide) s4;obtain⟨sd,s6,g6,Wz,WA⟩:=tk 2 (by decide) s5;obtain⟨Q,s7,g7,US,WB⟩:=tk 60 (by decide) s6;obtain⟨L1,lF⟩:=Gx QN (N:=59) (bL.lst M) (by decide) E;have P1:=(fO E).1;have zE:=λ {x:List Int} {D:Dt} (O:bL D M)=>pass E (N:=59) (by decide) O lF (x:=x)
 have sz:=za E;have ref:=λ {x:List Int}=>refuse E (N:=59) (by decide) (bL.lst M) (x:=x)
 obtain⟨tz,s8,g8,WC,WD⟩:=tk 64 (by decide) s7;obtain⟨t,rfl⟩:∃t:Nat,tz=t:=#[tz.toNat,⋯];obtain⟨v,o,B,r2,r3,r4⟩:=CA (N:=59) (by decide) m4 (M:=M) (F:=aI m M) (λf A=>#[(P1 f A).1,(P1 f A).2.1,(P1 f A).2.2.1]) lF f0 r (t:=t) ⋯ s8;obtain⟨w1,w2⟩:=zE (bL.lst M) B r2 r3;obtain⟨v1,v2⟩:=zE (bL.tup M) B r2 r3;obtain⟨u1,_⟩:=zE (x:=zeros m) (bL.lst M) (by simp[zeros]) (λi _=>by rw[show gI (zeros m) i=0 from cn m i];exact Yi 0) (λq _=>fk q m);rw[sz]at u1;have e1:=M7 M;have J:(pl:Int) % (m:Int)=((pl.toNat % m:Nat):Int):=by rw[Int.natCast_emod,Int.toNat_of_nonneg UR]
 have Uu:=Nat.mod_lt pl.toNat (show 0<m by lia);generalize pl.toNat % m=at' at J Uu;have md:=dh (i:=pl) (j:=m) ⋯;rw[J]at md;obtain⟨ch,zx,KW⟩:∃ch:List Int,v.take at'++[gI v at'+(1-2*cz)]++v.drop (at'+1)=ch/\ch.length=m:=#[_,rfl,by rw[Xk,Xk,Y8,Y1,Y7];lia];have mn:=Eo (l:=ch) (λe=>by rw[e]at KW;simp at KW;lia);have mm:=gP ch (λe=>by rw[e]at KW;simp at KW;lia);have Wa:ay fs 59 18 [lI M,tI ch,.lst ((zeros M.length).map Dt.int)] B'= .ok (.bl (kz M (zeros M.length) ch),B'):=IM (iw:=17) (is:=18) (fs:=fs) rfl rfl (N:=59) (by decide) (λk h=>(mM (ds:=(zeros M.length).map Dt.int) (k:=k) (d:=.int (gI (zeros M.length) k)) (by rw[Xn,A3 h];rfl)).2) (by simp[zeros]) ⋯ (λq K z g=>by have:=E.bd q K z g;show z.natAbs<2^64;lia) ⋯ E.wd KW;have c7:=jE (a:=v) (b:=[0]) (by rw[B];simp;lia);have c9:eJ (tI v) (y' 1) B'= .ok (tI (v.drop 1)):=GK (l:=v) (p:=1) ⋯;obtain⟨od,VF,WU⟩:∃od:List Int,cq (.lst [tI (v++[0]),tI (v.drop 1)]) (.int sd)= .ok (tI od)/\od.length≠m:=by
  have:sd=0\/sd=1:=⋯
  rcases this with rfl|rfl
  ·exact#[v++[0],rfl,by rw[Xk,B,Y7];lia]
  ·exact#[v.drop 1,rfl,by rw[Y1,B];lia]
 have ln:=qv M;have RB:=qv (aI m M);have mc:=aU (i:=2) (j:=cz) (.inl (by decide));have V1:cG .list [lI M]= .ok (lI M):=rfl;have Wh:cG .tuple [lI M]= .ok (.tup (M.map tI)):=rfl;have kC:∀SG SJ,fin (bf (ay fs 59) uC [y' (.iZ ns),B',y' (.int m),y' (lI M),y' (.int far),y' (.int pl),y' (.int (1-2*cz)),y' (.int sd),y' (.int Q),y' (lI (aI m M)),y' (tI v),y' (lI M),y' (.lst []),y' (.int at'),y' (tI ch),SG,SJ,B'] (y' o))= .ok (.bl G',y' o):=λSG SJ=>by have g:=CT (F:=ay fs 59) (ρ:=[y' (.iZ ns),B',y' (.int m),y' (lI M),y' (.int far),y' (.int pl),y' (.int (1-2*cz)),y' (.int sd),y' (.int Q),y' (lI (aI m M)),y' (tI v),y' (lI M),y' (.lst []),y' (.int at'),y' (tI ch),SG,SJ,B']) (S:=y' o) (c:=.var 10) (D:=tI v) (L:=v.map Dt.int) rfl rfl (by rw[Xd];lia) rfl;rw[Xd,B]at g;exact ax (d:=tI (zeros m)) (S1:=y' o) (by rw[cm,g];rfl) (dS _ _) (aC (NC rfl rfl rfl rfl rfl u1 Wh v1 v2))
 have kA:fin (bf (ay fs 59) uA [y' (.iZ ns),B',y' (.int m),y' (lI M),y' (.int far),y' (.int pl),y' (.int (1-2*cz)),y' (.int sd),y' (.int Q),y' (lI (aI m M)),y' (tI v),y' (lI M),y' (.lst []),y' (.int at'),y' (tI ch),B',B',B'] (y' o))= .ok (.bl G',y' o):=by
  refine ax (d:=tI od) (S1:=y' o) (JH rfl rfl c7 c9 VF) (dS _ _) (cD (S1:=y' o) (NG rfl rfl rfl ln (wO _) λh0 Z=>ref (x:=od) ⋯ (.inl #[M[0]'⋯,YY _,by rw[E.wd _ (YY _)];lia])) ?_);by_cases h0:0<(aI m M).length
  ·have g0:decide ((0:Int)<((aI m M).length:Int))=G':=Xx ⋯;have hw:(Q:Int) % ((aI m M).length:Int)=((Q.toNat % (aI m M).length:Nat):Int):=by rw[Int.natCast_emod,Int.toNat_of_nonneg US]
   have hm:=Nat.mod_lt Q.toNat h0;have mw:=dh (i:=Q) (j:=((aI m M).length:Nat)) ⋯;rw[hw]at mw;obtain⟨f,A⟩:∃f,(aI m M)[Q.toNat % (aI m M).length]?=y' f:=#[_,Xs hm];have ix:=mO A;obtain⟨a1,a2,a3,a4⟩:=P1 f (Zj A);obtain⟨i,hi,WM⟩:∃i,i<m/\0<gI f i:=Yc λn=>by
    have:f.sum=0:=vE λy hy=>by
     obtain⟨i,hi,rfl⟩:=eK hy;have Z:=a2 i ⋯;have Y:¬0<gI f i:=λz=>n #[i,⋯,z]
     lia
    lia
   have w:=ref (x:=Es f) (by rw[BB,a1];lia) (.inr (Bz (i:=i) (by rw[BB,a1];exact hi) (by rw[Na];lia)));have hv:ev (ay fs 59) (.comp [B',B'] (.seq (.idx (.var 9) (.bin .Mod (.var 8) (.bi .len (.cons (.var 9) .nil))))) (.nm 1) .nil (.bin .Sub (.con (.int 0)) (.var 1))) [y' (.iZ ns),B',y' (.int m),y' (lI M),y' (.int far),y' (.int pl),y' (.int (1-2*cz)),y' (.int sd),y' (.int Q),y' (lI (aI m M)),y' (tI v),y' (lI M),y' (.lst []),y' (.int at'),y' (tI ch),y' (tI od),B',B'] (y' o)= .ok (.lst ((Es f).map Dt.int),y' o):=by
    have HY:az (aF (.nm 1) (aZ (ay fs 59) .nil) (aX (ay fs 59) (.bin .Sub (.con (.int 0)) (.var 1))) [B',B']) (f.map Dt.int) (y' o)= .ok (f.map λz=>.int (0-z),y' o):=bH λz _=>aE (ρ1:=[B',y' (.int z)]) rfl (by simp only[RX]) rfl
    have e:(f.map λz=>Dt.int (0-z))=(Es f).map Dt.int:=by unfold Es;rw[Zc];rfl
    rw[e]at HY;exact aJ (ds:=f.map Dt.int) (S1:=y' o) (fN (d:=tI f) (by simp only[RX,RB,mw,ix]) rfl) (by rw[Xd,a1];lia) rfl HY
   exact gF (S1:=y' o) (GC rfl RB g0) (ax (d:=tI (Es f)) (S1:=y' o) (by rw[cm];exact(aab (R.bind · _) hv).trans rfl) (dS _ _) (cD (S1:=y' o) (GD rfl rfl w) (kC _ _)))
  ·have g0:decide ((0:Int)<((aI m M).length:Int))=J':=Xt ⋯;exact cD (S1:=y' o) (GC rfl RB g0) (kC _ _)
 refine#[y' o,aO (body:=Qk) rfl (by decide) rfl ?_];show fin (bf (ay fs 59) Qk [y' (.iZ ns),B',B',B',B',B',B',B',B',B',B',B',B',B',B',B',B',B'] B')=_;refine AR (l:=ds) (S1:=B') (by simp only[RX,HS]) rfl ?_;refine ax (d:=.int m) (S1:=y' s1) (by simp only[RX,I,hm]) rfl ?_;refine ax (d:=lI M) (S1:=y' s2) (mE (args:=[.int m]) (by simp only[RX]) M3) rfl ?_;refine ax (d:=.int far) (S1:=y' s3) (ND (g3 _) QZ) rfl ?_;refine ax (d:=.int pl) (S1:=y' s4) (g4 _) rfl ?_;refine ax (d:=.int (1-2*cz)) (S1:=y' s5) (by simp only[RX,g5,mc]) rfl ?_;refine ax (d:=.int sd) (S1:=y' s6) (g6 _) rfl ?_;refine ax (d:=.int Q) (S1:=y' s7) (g7 _) rfl ?_;refine ax (d:=lI (aI m M)) (S1:=y' s7) (call2 rfl rfl L1) rfl ?_;refine ax (d:=tI v) (S1:=y' o) (mE (args:=[lI (aI m M),.int m,.int far,.int t]) (s1:=s8) (JG rfl rfl rfl (g8 _)) r4) (dS _ _) ?_;refine ax (d:=lI M) (S1:=y' o) (RQ rfl V1) rfl ?_;refine du (d:=.lst ((iI m M v).2.map pv)) (S1:=y' o) (call2 rfl rfl w1) rfl ?_;refine cD (S1:=y' o) (RT rfl rfl rfl rfl rfl w2 e1) ?_;refine dw (HE (ds:=(iI m M v).2.map pv) rfl) ?_;refine cD (S1:=y' o) (GE rfl rfl rfl w1 w2) ?_;refine ax (d:=.int at') (S1:=y' o) (Qp rfl rfl md) rfl ?_;refine ax (d:=tI ch) (S1:=y' o) (NB rfl rfl rfl ⋯ ⋯ zx) (dS _ _) ?_;have TX:∀S,_:=λS=>CT (F:=ay fs 59) (ρ:=[y' (.iZ ns),B',y' (.int m),y' (lI M),y' (.int far),y' (.int pl),y' (.int (1-2*cz)),y' (.int sd),y' (.int Q),y' (lI (aI m M)),y' (tI v),y' (lI M),y' (.lst []),y' (.int at'),y' (tI ch),B',B',B']) (S:=S) (c:=.var 3) (D:=lI M) (L:=M.map tI) rfl rfl (by rw[Xd];lia) rfl
 rw[Xd]at TX;have co:=NF (S:=y' o) rfl rfl mn TX Wa;have no:yN M ch=J'->ay fs 59 22 [lI M,tI ch] B'= .ok (.bl G',B'):=λh=>ref ⋯ (.inr h)
 by_cases W:(decide (0<=fh ch)&&kz M (zeros M.length) ch)=G'
 ·rw[W]at co;obtain⟨X,hB⟩:=(W3 _ _).mp W;obtain⟨x1,x2⟩:=zE (x:=ch) (bL.lst M) KW (λi hi=>Int.le_trans (W5 X) (mm.2 _ (dD ⋯))) (dC.mp (nL.mp hB));exact gF (S1:=y' o) co (cD (S1:=y' o) (GE rfl rfl rfl x1 x2) kA)
 ·have W:(decide (0<=fh ch)&&kz M (zeros M.length) ch)=J':=by simpa using W
  rw[W]at co;have w:=no (by
   cases hB:kz M (zeros M.length) ch with
   |false=>unfold yN;rw[hB,X3]
   |true=>
    rw[hB,X4]at W;obtain⟨i,hi,e⟩:=eK mm.1;exact Bz (i:=i) hi (by have:=aam W;lia))
  exact cD (S1:=y' o) co (cD (S1:=y' o) (GD rfl rfl w) kA)
end K23
end
section
namespace Rx
open PySem PySem.W PySem.Spec PyProof.Rows L2
theorem bindsN{K:Frag}{T:Addr}(P:ps.length=k+1)(hd:fd.defaults= .ref T)(i:K.lookup T=y' o)
  (Z:∀c:List Value,c.length=k->∀s:Shared,s.heap.get? T=y' o->BindsTo s fd #[c,[]] (ps.zip<|c++[.none])) (Y:∀c:List Value,c.length=k+1->∀s:Shared,s.heap.get? T=y' o->BindsTo s fd #[c,[]] (ps.zip<|c++[])):
  ∀j,j<=([.bj]:List Dt).length->∃ds,aw ((([.bj]:List Dt).drop j).map qR) ds/\Binds K fd ps ds:=
 Hl rfl (λs c IF W=>Z c (by rw[Xk,P]at W;simpa using W) s<|IF _ _ i) λs c IF W=>Y c (by rw[XM,P]at W;exact W) s<|IF _ _ i
end Rx
end
end Lake
section
namespace PySem.W.Fast
def tw4608044053667634431:=0
def tw15544992905648344324:=0
def tw13818688487247039578:=0
def tw4195776552303984604:=0
def tw17941017750753721326:=0
def tw2606308069404489034:=0
def tw13294599657313145040:=0
def tw14552801450308055975:=0
def tw7666265601267780642:=0
def tw10386365339502530163:=0
def tw14774887222545892261:=0
def tw8360394065581680604:=0
def tw9497464061100206072:=0
def tw262469877911690247:=0
def tw2643427431568697463:=0
def tw15061389154523763306:=0
def tw2787533466454142377:=0
def tw10028019988997842651:=0
def tw13135226676256919960:=0
def tw560740948420094631:=0
def tw18062127984753566058:=0
def tw14933110596974915724:=0
def tw10499070569530733494:=0
def tw7617408441014077289:=0
def tw6155414843179258308:=0
def tw7467681479700436244:=0
def tw3192759432141434010:=0
def tw12051050465933343339:=0
def tw17590622919456781175:=0
def tw7325443589731643153:=0
def tw5823714745236190440:=0
def tw12106925059320030007:=0
def tw17958354398055777770:=0
def tw6354090584872551826:=0
def tw12238341324730975767:=0
def tw6042464274830098692:=0
def tw7826122044516360015:=0
def tw17174468223412128245:=0
def tw8093671372039213880:=0
def tw16046124800370591673:=0
def tw1635338380023376031:=0
def tw16422350482683694653:=0
def tw6372168785000399931:=0
def tw13490050546705170281:=0
def tw6854067837969782071:=0
def tw94562167811089373:=0
def tw1706020088230379241:=0
def tw16473795691564122728:=0
def tw216312651068382846:=0
def tw2052370172382649053:=0
def tw13749333147995044242:=0
def tw18349375074659286569:=0
def tw635637103616649380:=0
def tw6365727754700381803:=0
def tw14310829888481660580:=0
def tw6441696517358819364:=0
def tw18155447576863444515:=0
def tw10840212498174662449:=0
def tw854873400751485357:=0
def tw3620002702714549384:=0
def tw732626941795985360:=0
def tw7428048656175238526:=0
def tw11773184575979796472:=0
def tw11137856426108314540:=0
def tw5832699924063865759:=0
def tw3469329257402516864:=0
def tw15996053922188021:=0
def tw7680510989831842283:=0
def tw7710056768645464986:=0
def tw7621008618652011090:=0
def tw10345210178270114279:=0
def tw3924989955500753619:=0
def tw15518647886278271902:=0
def tw11337381303623837359:=0
def tw9824731840152516931:=0
def tw15914034870129735649:=0
def tw16573458840774283330:=0
def tw2131170056918884772:=0
def tw12426351657535519867:=0
def tw12021830877786865979:=0
def tw10985764630910238564:=0
def tw13789331770842008393:=0
def tw12221238248288064742:=0
def tw13535064206060034934:=0
def tw11877619361940169531:=0
def tw8861705140772518922:=0
def tw4305921283833945274:=0
def tw14849103133050834958:=0
def tw12404101729102712404:=0
def tw13613279496663037903:=0
def tw7308624504391616702:=0
def tw14953597667110045898:=0
def tw16756675966486685834:=0
def tw11815229492768923621:=0
def tw7639615899698634787:=0
def tw16205794105094009456:=0
def tw17135096098107059038:=0
def tw5472947301514181141:=0
def tw5710059482741263313:=0
def tw16295260581711501961:=0
def tw12992362256372799870:=0
def tw9541282971764582264:=0
def tw14797423774252322358:=0
def tw11948771955785730580:=0
def tw16813046381651189281:=0
def tw5409596202807705140:=0
def tw6721924856325943213:=0
def tw15947616366907063646:=0
def tw8863441183781244924:=0
def tw16421453477452160843:=0
def tw3793440432862863500:=0
def tw16963527160279382482:=0
def tw9897039832750848594:=0
def tw18022768169169506769:=0
def tw10735862134303272700:=0
def tw7133167434308449773:=0
def tw10034574452140394864:=0
def tw16264074890048890944:=0
def tw6162638256263382872:=0
def tw16273891384289280856:=0
def tw16059082032685381320:=0
def tw11379884759135209166:=0
def tw370913523824703883:=0
def tw4439434403533395889:=0
def tw15739750165591609218:=0
def tw12932765255183306011:=0
def tw759457482323468206:=0
def tw10723118102829299639:=0
def tw5370903256101293347:=0
def tw14971629777564567829:=0
def tw7762254461485369468:=0
def tw1359374581106285871:=0
def tw9909849977062904310:=0
def tw16161510869276911935:=0
def tw7421023365987956071:=0
def tw6384541066282032938:=0
def tw3642967391443588157:=0
def tw12197892641191667362:=0
def tw10142832344318218892:=0
def tw13422673082402042220:=0
def tw1442998879177266943:=0
def tw9933402298153860533:=0
def tw11584802544667776293:=0
def tw1855939058144465009:=0
def tw17520763501967973201:=0
def tw15900255253538098611:=0
def tw15600434162083716435:=0
def tw15290240763195176762:=0
def tw1114973225274061401:=0
def tw7820701970192190847:=0
def tw16303756623857657482:=0
def tw15670405371797936741:=0
def tw15442895724810288819:=0
def tw10705804321818814708:=0
def tw12893877755272397383:=0
def tw8610589770289019426:=0
def tw512511676460708220:=0
def tw18034217963200886323:=0
def tw17849214651018396212:=0
def tw8759758252606377067:=0
def tw8041327034087966553:=0
def tw17065873187574802697:=0
def tw13452893969901637698:=0
def tw10087182893849764829:=0
def tw14868468230671433065:=0
def tw9992292720420135279:=0
def tw969772179231982000:=0
def tw8930357706121249202:=0
def tw8919629223707275082:=0
def tw8553741722180128208:=0
def tw8023374212116178078:=0
def tw7661077882706791694:=0
def tw707528394858143184:=0
def tw6978971862640069957:=0
def tw6076470968561878438:=0
def tw5822837992029604613:=0
def tw5671862915914628811:=0
def tw5528263815801977031:=0
def tw5374726004407286939:=0
def tw5297298952140058239:=0
def tw5153443011485233522:=0
def tw4458351102064638310:=0
def tw3119987177944835572:=0
def tw2880423574891573564:=0
def tw2865173557159254673:=0
def tw2114930186601956335:=0
def tw1962978402938583919:=0
def tw1938409118834962980:=0
def tw18387087847418777453:=0
def tw17974932324274450078:=0
def tw17380350569632290889:=0
def tw17086681278025672292:=0
def tw16737718627222318240:=0
def tw16685102591530152632:=0
def tw16654458582131898483:=0
def tw16610892545023770479:=0
def tw15890011060828821811:=0
def tw15489144866982686306:=0
def tw14396188952998267436:=0
def tw14221697903755408749:=0
def tw14088863091144074510:=0
def tw13536468894646142450:=0
def tw13179471254856808577:=0
def tw12731012707534229359:=0
def tw12467581491374819778:=0
def tw12447121050224503441:=0
def tw12346233106101660137:=0
def tw11904870303040692807:=0
def tw11329530894547395134:=0
def tw11052754717221647709:=0
def tw10984673406131974858:=0
end PySem.W.Fast
open PySem PySem.W PyProof.Rows Lake.Rx
set_option maxHeartbeats 0 in
theorem PySem.Challenge.cw_mixform_k23_whole_sums_holds : PySem.Challenge.rw_mixform_k23_whole_sums.Holds := by
 w_on;o_law;k_head;(case hw=>w_witness2)
 k_fill
 refine walkR (k:=60) (l:=PySem.Challenge.rw_mixform_k23_whole_sums) rfl rfl #[rfl,by decide,by decide] (λw h Y=>kIn_of Y) ?F
 case F=>
  intro w mg fa h KX G hmg;refine law_mk (rs:=Lake.K23.rows) (cons:=Lake.K23.cons) (bls:=Lake.K23.bls) (xs:=Lake.K23.xs) (L:=23) (n:=59) KX G hmg rfl Lake.K23.hok Lake.K23.hfs (λs v _ _ _ _ _ _=>.of_eq rfl) Lake.K23.law_true ?B ?C ?D ?E
  case B=>exact#[by k_is,by k_is,by k_is,by k_is,by k_is,by k_is,by k_is,by k_is,by k_is,by k_is,by k_is,by k_is,by k_is,by k_is,by k_is,by k_is,trivial]
  case C=>exact#[#[_,by k_is,rfl,by first|rfl|exact#[_,rfl]],#[_,by k_is,rfl,by first|rfl|exact#[_,rfl]],#[_,by k_is,rfl,by first|rfl|exact#[_,rfl]],#[_,by k_is,rfl,by first|rfl|exact#[_,rfl]],trivial]
  case D=>
   refine#[?_,?_,?_,?_,?_,?_,?_,?_,?_,?_,?_,?_,?_,?_,?_,?_,?_,?_,?_,?_,?_,?_,?_,?_,trivial]
   rotate_left 1
   ·refine#[_,_,.ref _,_,_,_,_,_,_,_,_,by k_is,by k_is,by k_is,by k_is,nofun,bindsN (k:=2) rfl (by rfl) (by k_is) ?_ ?_]
    ·exact lenS λ_=>lenS λ_=>len0 λs h=>BindsTo.of_defaults rfl h rfl rfl rfl
    ·exact lenS λ_=>lenS λ_=>lenS λ_=>len0 λs h=>BindsTo.of_defaults rfl h rfl rfl rfl
   rotate_right 1
   all_goals exact#[_,_,_,_,_,_,_,_,_,_,_,by k_is,by k_is,by k_is,by k_is,λ_=>rfl,binds0 (by repeat first|exact len0 rfl|refine lenS λ_=>?_)]
  case E=>exact#[#[_,by k_is,by k_exc,#[by k_is,by k_is,by k_is,by k_is,by k_is,by k_is,by k_is],#[#[_,.inl #[by k_is,_,rfl],by kit_is,λ_=>by kts_exm],#[_,.inl #[by k_is,_,rfl],by kit_is,nofun],#[_,.inl #[by k_is,_,rfl],by kit_is,nofun],#[_,.inl #[by k_is,_,rfl],by kit_is,nofun],#[_,.inl #[by k_is,_,rfl],by kit_is,λ_=>by kts_exm],#[_,.inr #[by k_is,rfl,rfl],by kit_is,λ_=>by kts_exm],trivial]],#[_,by k_is,by k_exc,#[by k_is,by k_is,by k_is,by k_is,by k_is,by k_is,by k_is],#[#[_,.inl #[by k_is,_,rfl],by kit_is,λ_=>by kts_exm],#[_,.inl #[by k_is,_,rfl],by kit_is,λ_=>by kts_exm],#[_,.inl #[by k_is,_,rfl],by kit_is,nofun],#[_,.inl #[by k_is,_,rfl],by kit_is,nofun],#[_,.inl #[by k_is,_,rfl],by kit_is,nofun],#[_,.inr #[by k_is,rfl,rfl],by kit_is,λ_=>by kts_exm],trivial]],trivial]
end