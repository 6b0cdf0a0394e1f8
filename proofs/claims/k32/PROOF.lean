import PyProof.Rows.All
import Wide.All
import OpenK.AllK
import Wide.FinOn
import Lean
import PyProof.EqAt
import PyProof.EqKinds
import PyProof.TupleCall
import KE.KUnpack
import PyProof.StrWalks
import PyProof.Rows.Range3
import PyProof.NeKinds
import PyProof.FactsAll.tuple_2
import PyProof.WalksMore
import KE.KIntText
import PyProof.AttrMissHeap
import KE.KDictOf
import PyProof.DictRoadsH
import PyProof.TupleKey
import PyProof.DictItems
import KE.KItemsList
import PyProof.ExcBaseAll.ValueError
import KE.KTryMore
import PyProof.Rows.CallKwBuiltin
import PySem.Challenge.RW_mixform_k32_whole_chained
set_option Elab.async false
set_option linter.all false
set_option maxRecDepth 100000
set_option maxHeartbeats 4000000
set_option bootstrap.genMatcherCode false
set_option genSizeOf false
set_option genInjectivity false
set_option compiler.extract_closed false
local macro_rules|`(#[$a,$b,*])=>`(⟨$a,$b,*⟩)
local macro_rules(kind:=Lean.Parser.Command.declaration)|s=>if s.getPos?.isSome then pure ((if s[0].getPos?.isNone∧(s[1][0].isToken "def"∨s[1][0].isToken "abbrev")then s.modifyArg 0 (·.setArg 4 (.node .none `null #[.node .none `Lean.Parser.Command.noncomputable #[.atom .none "noncomputable"]]))else s).rewriteBottomUp (·.setInfo .none))else Lean.Macro.throwUnsupported
local macro_rules(kind:=Lean.Parser.Command.mutual)|s=>if s.getPos?.isSome then pure (s.rewriteBottomUp (·.setInfo .none))else Lean.Macro.throwUnsupported
local macro_rules|`(⋯)=>`(by lia)
open Option renaming some→B',none→G'
open Bool renaming true→J',false→K'
namespace Lake
section
open PySem PySem.W PySem.Spec PyProof.Rows
def W1:=@wpAny_bind
def W2:=@Option.bind_eq_some_iff
def W3:=@Heap.get?_push_of_some
def W4:=@wpAny_pure
def W5:=@Bool.and_eq_true
def W6:=@List.size_toArray
def W7:=@of_decide_eq_true
def W8:=@List.getElem?_eq_some_iff
def W9:=@List.mem_cons_of_mem
def Xa:=@kasC_bind
def Xb:=@Nat.le_refl
def Xc:=@List.mem_cons_self
def Xd:=@Heap.get?_push_size
def Xe:=@kasC_pure
def Xf:=@List.length_map
def Xg:=@Heap.lt_size
def Xh:=@Nat.le_trans
def Xi:=@List.mem_cons
def Xj:=@List.not_mem_nil
def Xk:=@List.append_assoc
def Xl:=@Option.map_eq_some_iff
def Xm:=@List.length_append
def Xn:=@List.getElem?_set_ne
def Xo:=@List.length_cons
def Xp:=@List.getElem?_map
def Xq:=@Array.length_toList
def Xr:=@Nat.lt_of_lt_of_le
def Xs:=@List.mem_append
def Xt:=@eq_of_beq
def Xu:=@List.getElem?_eq_getElem
def Xv:=@decide_eq_false
def Xw:=@List.lookup_cons
def Xx:=@KeyOrd.kle_trans
def Xy:=@Heap.get?_update_other
def Xz:=@decide_eq_true
def XA:=@Heap.size_push
def XB:=@Nat.ne_of_lt
def XC:=@List.mem_append_right
def XD:=@wpAny_setField_rec
def XF:=@List.mem_singleton
def XH:=@List.mem_map
def XI:=@List.all_eq_true
def XJ:=@List.any_eq_true
def XM:=@Int.emod_nonneg
def XN:=@Int.emod_lt_of_pos
def XO:=@List.append_nil
def XQ:=@Bool.or_eq_true
def XR:=@List.getElem?_append_left
def XS:=@List.getElem?_append_right
def XT:=@List.map_cons
def XU:=@List.map_append
def XW:=@List.getElem?_set_self
def XX:=@List.mem_range
def XY:=@Bool.and_false
def XZ:=@Bool.and_true
def X0:=@Bool.eq_iff_iff
def X2:=@Bool.false_eq_true
def X3:=@Bool.false_ne_true
def X4:=@Bool.not_eq_true'
def X5:=@Bool.not_true
def X6:=@Bool.or_eq_true_iff
def X7:=@Bool.or_true
def X8:=@F.args_tuple_iterator_next_1
def X9:=@F.entry_tuple_iterator_next
def Ya:=@F.slot_tuple_iterator_next
def Yb:=@F.slot_zip_next
def Yc:=@Int.le_refl
def Ye:=@Int.mul_le_mul_of_nonneg_left
def Yf:=@Int.mul_le_mul_of_nonneg_right
def Yg:=@Int.toNat_natCast
def Yh:=@KeyOrd.kle_of_klt
def Yi:=@KeyOrd.kle_refl
def Yj:=@List.Perm.refl
def Yk:=@List.all_cons
def Yl:=@List.drop_eq_getElem_cons
def Ym:=@List.filterMap_cons
def Yn:=@List.flatMap_cons
def Yo:=@List.forIn_cons
def Yp:=@List.getElem?_replicate
def Yq:=@List.getElem?_set
def Yr:=@List.getElem?_take_of_lt
def Ys:=@List.getElem_of_mem
def Yt:=@List.getElem_toArray
def Yu:=@List.length_drop
def Yv:=@List.length_nil
def Yw:=@List.length_range
def Yx:=@List.length_replicate
def Yy:=@List.length_set
def Yz:=@List.length_singleton
def YA:=@List.length_take
def YB:=@List.map_congr_left
def YC:=@List.map_map
def YD:=@List.map_nil
def YE:=@List.mem_append_left
def YF:=@List.mem_filter
def YG:=@List.mem_filterMap
def YH:=@List.mem_flatMap
def YI:=@List.mem_iff_getElem?
def YJ:=@List.mem_of_getElem?
def YK:=@List.nil_append
def YL:=@List.nodup_cons
def YM:=@List.of_mem_zip
def YN:=@List.pairwise_cons
def YO:=@List.pairwise_iff_getElem
def YQ:=@List.pairwise_map
def YR:=@List.sum_cons
def YS:=@List.take_of_length_le
def YT:=@List.zip_cons_cons
def YU:=@List.zip_nil_left
def YV:=@List.zip_nil_right
def YW:=@Nat.le_of_lt
def YX:=@Nat.le_succ
def YY:=@Nat.lt_irrefl
def YZ:=@Nat.lt_of_le_of_lt
def Y0:=@Nat.lt_succ_of_lt
def Y1:=@Nat.lt_succ_self
def Y2:=@Nat.mul_le_mul_right
def Y3:=@Nat.ne_of_gt
def Y4:=@Nat.succ_mul
def Y5:=@Nat.zero_le
def Y6:=@Ne.symm
def Y7:=@Option.some.inj
def Y8:=@PyProof.Rows.callWith_type1
def Y9:=@PyProof.Rows.slot_tuple_getitem
def Za:=@PySem.F.args_tuple_add_2
def Zb:=@PySem.F.entry_tuple_add
def Zc:=@PySem.F.slot_tuple_add
def Zd:=@PySem.W.cellsFrom_some
def Ze:=@PySem.W.kia_one
def Zf:=@PySem.mem_of_lookup
def Zg:=@beq_eq_false_iff_ne
def Zh:=@beq_self_eq_true
def Zi:=@call_meets
def Zj:=@congrArg
def Zk:=@decide_eq_true_eq
def Zl:=@if_false
def Zm:=@if_neg
def Zn:=@if_pos
def Zo:=@if_true
def Zq:=@noFill_tuple_add
def Zr:=@of_decide_eq_false
def Zs:=@or_false
def Zt:=@pushCells_keeps
def Zu:=@sizeLine_eq
def Zv:=@wpAny_Call_Name_kw
def Zw:=@wpAny_callSpecial?_slot
def Zx:=@wpAny_call_entry
def Zy:=@wpAny_field
def Zz:=@wpAny_holding
def ZA:=@wpAny_mono
def ZC:=@wpAny_newObj_type
def ZD:=@wpAny_onRaise
def ZE:=@wpAny_passesOwn
def ZF:=@wpAny_pyIter_list
def ZG:=@wpAny_pyIter_tuple
def ZH:=@wpAny_rule
def ZI:=@wpAny_seqItems
def ZJ:=@wpAny_standAt
def ZK:=@wpAny_truthy_bool
def ZL:=@wpAny_typeOf
def ZM:=@wpAny_updateSeq_pair
end
section
namespace L2
open PySem PySem.Spec PyProof.Rows
abbrev Key:=Sum Int Str
def oN:Key->Value->Bool
 |.inl k,v=>Value.isInt k v
 |.inr x,v=>Value.isStrOf x v
def JK(w:World):Key->Int
 |.inl k=>hashInt k
 |.inr x=>hashStr w x
theorem bo:∀{k:Key}{v:Value},oN k v=J'->(∃i t,k=Sum.inl i/\v=Value.int i t)\/(∃x t,k=Sum.inr x/\v=Value.str x t)
 |.inl i,v,h=>by obtain⟨t,e⟩:=Value.isInt_shape h;exact .inl #[i,t,rfl,e]
 |.inr x,v,h=>by obtain⟨t,e⟩:=Value.isStrOf_shape h;exact .inr #[x,t,rfl,e]
theorem zw(i)(t):oN (.inl i) (.int i t)=J':=by simp[oN,Value.isInt]
theorem zx(x)(t):oN (.inr x) (.str x t)=J':=by simp[oN,Value.isStrOf]
theorem JL(a b):decide ((Sum.inl a:Key)=Sum.inl b)=(a==b):=by
 by_cases e:a=b
 ·subst e;simp
 ·have h:¬(Sum.inl a:Key)=Sum.inl b:=λq=>e (Sum.inl.inj q)
  rw[Xv h];exact(Zg.mpr e).symm
theorem JO(a b):decide ((Sum.inr a:Key)=Sum.inr b)=decide (a=b):=by
 by_cases e:a=b
 ·subst e;simp
 ·have h:¬(Sum.inr a:Key)=Sum.inr b:=λq=>e (Sum.inr.inj q)
  rw[Xv h,Xv e]
theorem JM(a)(b):decide ((Sum.inl a:Key)=Sum.inr b)=K':=Xv λq=>nomatch q
theorem JN(a)(b):decide ((Sum.inr a:Key)=Sum.inl b)=K':=Xv λq=>nomatch q
def aR(prog)(w):PySem.KeyKind prog w Key where
 is:=oN
 hash:=JK w
 inj:=λv a b ha hb=>by
  rcases bo ha with ⟨i,t,rfl,rfl⟩|⟨x,t,rfl,rfl⟩
  ·rcases bo hb with ⟨j,u,rfl,e⟩|⟨y,u,rfl,e⟩
   ·injection e with e1 _;rw[e1]
   ·exact nomatch e
  ·rcases bo hb with ⟨j,u,rfl,e⟩|⟨y,u,rfl,e⟩
   ·exact nomatch e
   ·injection e with e1 _;rw[e1]
 byValue:=λk v h=>by rcases bo h with ⟨i,t,rfl,rfl⟩|⟨x,t,rfl,rfl⟩<;>rfl
 pyHash:=λhv h=>by
  rcases bo hv with ⟨i,t,rfl,rfl⟩|⟨x,t,rfl,rfl⟩
  ·exact wpAny_pyHash_int h
  ·exact wpAny_pyHash_str h
 eqBool:=λhu hv h=>by
  rcases bo hu with ⟨i,t,rfl,rfl⟩|⟨x,t,rfl,rfl⟩
  ·rcases bo hv with ⟨j,u,rfl,rfl⟩|⟨y,u,rfl,rfl⟩
   ·rw[JL]at h;exact wpAny_eqBool_int h
   ·rw[JM]at h;exact SeqAt.EqAt.int_str i t y u _ _ _ _ h
  ·rcases bo hv with ⟨j,u,rfl,rfl⟩|⟨y,u,rfl,rfl⟩
   ·rw[JN]at h;exact SeqAt.EqAt.str_int x t j u _ _ _ _ h
   ·rw[JO]at h;exact wpAny_eqBool_str h
 «strs»:=λk x t v h=>by
  rcases bo h with ⟨i,u,rfl,e⟩|⟨y,u,rfl,e⟩
  ·exact nomatch e
  ·injection e with e1 _;subst e1;cases v<;>rfl
theorem sT(prog)(w)(i)(t):(aR prog w).is (.inl i) (.int i t)=J':=zw i t
theorem dF(prog)(w)(x)(t):(aR prog w).is (.inr x) (.str x t)=J':=zx x t
end L2
namespace L2
open PySem PySem.Spec PyProof.Rows
inductive V where
 |bX|bl (b:Bool)|int (i:Int)|str (x:Str)|II (b:Array UInt8)|D1 (b:UInt64)|ref (a:Addr)|ty (n:String)
 deriving DecidableEq
def RelV:V->Value->Prop
 |.bX,u=>u=Value.none
 |.bl b,u=>u=Value.bool b
 |.int i,u=>∃t,u=Value.int i t
 |.str x,u=>∃t,u=Value.str x t
 |.II b,u=>∃t,u=Value.bytes b t
 |.D1 b,u=>∃t,u=Value.float b t
 |.ref a,u=>u=Value.ref a
 |.ty n,u=>u=Value.type n
abbrev au:List V->List Value->Prop:=Paired RelV
theorem au.length(r:au xs us):xs.length=us.length:=Paired.length r
theorem au.get:∀{xs:List V}{us:List Value}{i:Nat}{x:V},au xs us->xs[i]?=B' x->∃u,us[i]?=B' u/\RelV x u
 |_,_,_,_,.nil,e=>by simp at e
 |_,_,0,_,.cons r _,e=>by simp at e;subst e;exact#[_,rfl,r]
 |_,_,i+1,x,.cons _ t,e=>by obtain⟨u,Z,Y⟩:=au.get t (by simpa using e);exact#[u,by simpa using Z,Y]
theorem au.set(r:RelV x u):∀{xs:List V}{us:List Value}(i:Nat),au xs us->au (xs.set i x) (us.set i u)
 |_,_,_,.nil=>.nil
 |_,_,0,.cons _ t=>.cons r t
 |_,_,i+1,.cons q t=>.cons q<|au.set r i t
theorem au.append:∀{xs ys:List V}{i X:List Value},au xs i->au ys X->au (xs++ys) (i++X)
 |_,_,_,_,.nil,s=>s
 |_,_,_,_,.cons r t,s=>.cons r<|au.append t s
theorem au.take:∀{xs:List V}{i:List Value}(n:Nat),au xs i->au (xs.take n) (i.take n)
 |_,_,0,_=>.nil
 |_,_,_+1,.nil=>.nil
 |_,_,n+1,.cons r t=>.cons r<|au.take n t
theorem au.drop:∀{xs:List V}{i:List Value}(n:Nat),au xs i->au (xs.drop n) (i.drop n)
 |_,_,0,r=>r
 |_,_,_+1,.nil=>.nil
 |_,_,n+1,.cons _ t=>au.drop n t
def Ax:Option V->Option Value->Prop
 |some v,B' u=>RelV v u
 |none,G'=>True
 |_,_=>False
def KV{κ:Type}:List (κ×V)->List (κ×Value)->Prop:=Paired λ(p:κ×V)(q:κ×Value)=>p.1=q.1/\RelV p.2 q.2
def kV:Key->V
 |.inl i=>.int i
 |.inr x=>.str x
inductive HO where
 |lst (xs:List V)
 |tup (xs:List V)
 |dK (a9:List (Key×V))|dT (a9:List (List Key×V))
 |set (S:Int->Bool) (n:Nat)
 |ins (C dx:Addr) (fs:List (Str×V))
 |own (x:Addr)
 |xd (fs:List (Str×V))
 |met (f x:Addr)
 |SA (lo hi:Int)
 |zj (o:Obj) (u:HO)
 |Aq (ps:Array Value)
 |ext (φ:Heap->Prop)
abbrev Hp:=Addr->Option HO
def upd(H:Hp)(a:Addr)(o:HO):Hp:=λb=>if b=a then B' o else H b
theorem aB:upd H a o a=B' o:=by unfold upd;rw[Zn rfl]
theorem ax(h:b≠a):upd H a o b=H b:=by unfold upd;rw[Zm h]
theorem G4:upd (upd H a o) a u=upd H a u:=by funext b;unfold upd;split<;>rfl
theorem aJ{H:Hp}(h:H a=B' o)(h':H b=G'):a≠b:=by intro e;subst e;rw[h]at h';cases h'
def gD(h:Heap)(a:Addr)(i:Array Value):Prop:=∃o,h.get? a=B' o/\o.cls= .type "tuple"/\∃n,o.data= .seq i n/\o.dict=G'/\o.slots=#[]
theorem gD.is:gD h a items->IsTup h a items
 |#[o,a,b,n,c,_]=>#[o,a,b,n,c]
theorem gD.new(h:Heap)(i):gD (h.push {cls:=.type "tuple",data:=.seq i}) h.objs.size i:=#[_,Xd _ rfl,rfl,_,rfl,rfl,rfl]
section
variable(P:Program)(w:World)
def cu(H:Hp)(h:Heap)(a:Addr):HO->Prop
 |.lst xs=>xs.length<=sizeLine/\∃(ak:List Value)(n:Nat),au xs ak/\h.get? a=B' {cls:=.type "list",data:=.seq ak.toArray n}
 |.tup xs=>xs.length<=sizeLine/\∃ak:List Value,au xs ak/\gD h a ak.toArray
 |.dK a9=>a9.length<=sizeLine/\(a==sysModules)=K'/\∃vs,KV a9 vs/\h.DictOf (aR P w) a vs
 |.dT a9=>a9.length<=sizeLine/\(a==sysModules)=K'/\∃xs:List (List Key×Addr×Value),
   Paired (λ(p:List Key×V)(q:List Key×Addr×Value)=>p.1=q.1/\H q.2.1=B' (.tup<|p.1.map kV)/\RelV p.2 q.2.2) a9 xs/\
   ∃o es ep,h.get? a=B' o/\o.ExactDict/\o.data= .dict es ep/\es.toList=xs.map (entryOfKey<|tupleKind<|aR P w)/\(xs.map (·.1)).Nodup
 |.set S n=>h.SetOf (intKind P w) a S n
 |.ins C dx fs=>H dx=B' (.own a)/\fs.length<=1000/\dx≠a/\h.get? a=B' (PySem.W.instObj C dx)/\
   ∃mA,h.Ns1 dx mA/\(∀f,Ax (fs.lookup f)<|mA f)/\PySem.Within mA (fs.map (·.1))
 |.own _=>∃o,h.get? a=B' o
 |.xd fs=>∃mA,h.Ns1 a mA/\∀f,Ax (fs.lookup f) (mA f)
 |.SA lo hi=>∃t u v,h.get? a=B' {cls:=.type "range",data:=.fields [.int lo t,.int hi u,.int 1 v].toArray}
 |.zj o u=>h.get? a=B' o/\cu H h a u
 |.Aq ps=>h.get? a=B' {cls:=.none,data:=.fields ps}
 |.met f x=>h.get? a=B' (PySem.W.methodObj (.ref f)<|.ref x)
 |.ext φ=>φ h/\(∃o,h.get? a=B' o)/\∀h1 h2:Heap,φ h1->(∀o,h1.get? a=B' o->h2.get? a=B' o)->φ h2
def dZ(H:Hp)(h:Heap):Prop:=∀a o,H a=B' o->cu P w H h a o
end
section
variable{P:Program}{w:World}{H H':Hp}{h h':Heap}{a:Addr}{o:HO}
theorem cu.lt(x:cu P w H h a o):a<h.objs.size:=by
 cases o with
 |lst xs=>obtain⟨_,_,_,_,e⟩:=x;exact Xg e
 |tup xs=>obtain⟨_,_,_,p⟩:=x;exact p.is.lt
 |dK j=>obtain⟨_,_,_,_,o,_,_,e,_⟩:=x;exact Xg e
 |dT j=>obtain⟨_,_,_,_,o,_,_,e,_⟩:=x;exact Xg e
 |set S n=>obtain⟨o,_,_,_,e,_⟩:=x;exact Xg e
 |ins C l fs=>obtain⟨_,_,_,e,_⟩:=x;exact Xg e
 |own y=>obtain⟨_,e⟩:=x;exact Xg e
 |xd fs=>obtain⟨_,⟨_,_,_,e,_⟩,_⟩:=x;exact Xg e
 |SA lo hi=>obtain⟨_,_,_,e⟩:=x;exact Xg e
 |zj m u=>obtain⟨e,_⟩:=x;exact Xg e
 |Aq ps=>exact Xg<|x
 |met f y=>exact Xg<|x
 |ext i=>obtain⟨_,⟨_,e⟩,_⟩:=x;exact Xg e
theorem Paired.JW:∀{c:List α}{g:List β},Paired F c g->(∀a b,F a b->G a b)->Paired G c g
 |_,_,.nil,_=>.nil
 |_,_,.cons r t,f=>.cons (f _ _ r)<|Paired.JW t f
theorem Paired.imp'{F G:α->β->Prop}(f:∀a b,F a b->G a b){c:List α}{g:List β}(r:Paired F c g):Paired G c g:=Paired.JW r f
theorem cu.kZ(x:cu P w H h a o)(k:∀b u,(b=a\/H b=B' (.own a))->h.get? b=B' u->h'.get? b=B' u)
  (B:∀b,H b=B' (.own a)->H' b=B' (.own a)) (O:∀b xs,H b=B' (.tup xs)->H' b=B' (.tup xs)):cu P w H' h' a o:=by
 induction o with
 |lst xs=>obtain⟨z,J,n,r,e⟩:=x;exact#[z,J,n,r,k _ _ (.inl rfl) e]
 |tup xs=>obtain⟨z,J,r,m,e,c⟩:=x;exact#[z,J,r,m,k _ _ (.inl rfl) e,c]
 |dK j=>obtain⟨z,y,vs,r,m,es,ep,e,c⟩:=x;exact#[z,y,vs,r,m,es,ep,k _ _ (.inl rfl) e,c]
 |dT j=>obtain⟨z,y,xs,r,m,es,ep,e,c⟩:=x;exact#[z,y,xs,Paired.JW r λp q z=>#[z.1,O _ _ z.2.1,z.2.2],m,es,ep,k _ _ (.inl rfl) e,c]
 |set S n=>obtain⟨m,es,ep,t,e,c⟩:=x;exact#[m,es,ep,t,k _ _ (.inl rfl) e,c]
 |ins C l fs=>obtain⟨d,z,ne,e,g,⟨od,es,ep,E,c⟩,r⟩:=x;exact#[B _ d,z,ne,k _ _ (.inl rfl) e,g,#[od,es,ep,k _ _ (.inr d) E,c],r]
 |own y=>obtain⟨m,e⟩:=x;exact#[m,k _ _ (.inl rfl) e]
 |xd fs=>obtain⟨g,⟨od,es,ep,e,c⟩,r⟩:=x;exact#[g,#[od,es,ep,k _ _ (.inl rfl) e,c],r]
 |SA lo hi=>obtain⟨t,u,v,e⟩:=x;exact#[t,u,v,k _ _ (.inl rfl) e]
 |zj m u ih=>obtain⟨e,q⟩:=x;exact#[k _ _ (.inl rfl) e,ih q]
 |Aq ps=>have e:=x;exact k a _ (.inl rfl) e
 |met f y=>have e:=x;exact k a _ (.inl rfl) e
 |ext i=>obtain⟨p,⟨o,e⟩,st⟩:=x;exact#[st _ _ p λo q=>k _ _ (.inl rfl) q,#[o,k _ _ (.inl rfl) e],st]
theorem dZ.lt(x:dZ P w H h)(e:H a=B' o):a<h.objs.size:=(x a o e).lt
theorem dZ.fresh(x:dZ P w H h)(e:h.objs.size<=a):H a=G':=by
 cases q:H a with
 |none=>rfl
 |some u=>exact absurd (Xr (x.lt q) e)<|YY _
theorem dZ.kept(x:dZ P w H h)(k:∀b u,h.get? b=B' u->h'.get? b=B' u):dZ P w H h':=λa o e=>
 (x a o e).kZ (λb u _ q=>k b u q) (λ_ q=>q) λ_ _ q=>q
theorem dZ.laid(x:dZ P w H h)(k:∀b u,h.get? b=B' u->h'.get? b=B' u)(J:h.objs.size<=a)(g:cu P w (upd H a o) h' a o):dZ P w (upd H a o) h':=λb u e=>by
 have hn:=x.fresh J;by_cases M:b=a
 ·subst M;rw[aB]at e;cases e;exact g
 ·rw[ax M]at e;exact(x b u e).kZ (λc v _ q=>k c v q) (λc q=>by rw[ax (aJ q hn)];exact q) λc xs q=>by rw[ax (aJ q hn)];exact q
end
def Rd(H:Hp)(a:Addr)(u:HO):Prop:=H a=B' u\/∃o,H a=B' (.zj o u)
theorem Rd.ok(r:Rd H a u)(x:dZ P w H h):cu P w H h a u:=by
 rcases r with r|⟨o,r⟩
 ·exact x a u r
 ·obtain⟨_,q⟩:=x a _ r;exact q
def PF:Option HO->Prop
 |some (.lst _)=>True
 |some (.dK _)=>True
 |some (.dT _)=>True
 |some (.set _ _)=>True
 |some (.ins _ _ _)=>True
 |some (.ext _)=>True
 |_=>False
section
variable{P:Program}{w:World}{H:Hp}{h h':Heap}{x e:Addr}{o':HO}
theorem dZ.write(ok:dZ P w H h)(i:PF (H x))(he:e=x\/H e=B' (.own x))(k:∀b u,b≠e->h.get? b=B' u->h'.get? b=B' u)(j:∃u,h'.get? e=B' u)
  (g:cu P w (upd H x o') h' x o'):dZ P w (upd H x o') h':=λb u q=>by
 have l:∀c y,H c=B' (.own y)->c≠x:=λc y r z=>by subst z;rw[r]at i;exact i
 have m:∀c xs,H c=B' (.tup xs)->c≠x:=λc xs r z=>by subst z;rw[r]at i;exact i
 by_cases M:b=x
 ·subst M;rw[aB]at q;cases q;exact g
 ·rw[ax M]at q;by_cases a:b=e
  ·have t:H b=B' (.own x):=by
    rcases he with z|z
    ·exact absurd (a.trans z) M
    ·rw[a];exact z
   rw[q]at t;cases t;obtain⟨v,n⟩:=j;exact#[v,by rw[a];exact n]
  ·refine(ok b u q).kZ (λc v K r=>k c v ?_ r) (λc r=>by rw[ax (l c b r)];exact r) λc xs r=>by rw[ax (m c xs r)];exact r
   rcases K with rfl|K
   ·exact a
   ·rintro rfl;rcases he with z|z
    ·exact l c b K z
    ·rw[K]at z;cases z;exact M rfl
end
structure Un(fs ex:List Addr)(H H':Hp)(h h':Heap):Prop where
 keep:∀b o,h.get? b=B' o->H b=G'->b∉fs->b∉ex->h'.get? b=B' o
 slot:∀b o,h.get? b=B' o->H b=G'->b∈fs->b∉ex->∃sl,h'.get? b=B' {o with slots:=sl}
 free:∀b o,h.get? b=B' o->H b=G'->b∉ex->H' b=G'
 there:∀b o,h.get? b=B' o->b∉ex->∃o',h'.get? b=B' o'
 tups:∀b xs,H b=B' (.tup xs)->H' b=B' (.tup xs)
 frzs:∀b o u,H b=B' (.zj o u)->H' b=B' (.zj o u)
 tbls:∀b ps,H b=B' (.Aq ps)->∃more,H' b=B' (.Aq<|ps++more)
section
variable{fs ex:List Addr}{H H1 H2:Hp}{h h1 h2 h':Heap}{a x e:Addr}{o:HO}
theorem Un.any(u:Un fs ex H H1 h h1)(q:h.get? b=B' ob)(n:H b=G')(L:b∉ex):∃t,h1.get? b=B' {ob with slots:=t}:=by
 by_cases M:b∈fs
 ·exact u.slot b ob q n M L
 ·exact#[ob.slots,u.keep b ob q n M L]
theorem Un.trans(a:Un fs ex H H1 h h1)(b:Un fs ex H1 H2 h1 h2):Un fs ex H H2 h h2 where
 keep:=λc m q n K L=>b.keep c m (a.keep c m q n K L) (a.free c m q n L) K L
 slot:=λc m q n K L=>by obtain⟨t,B⟩:=a.slot c m q n K L;obtain⟨O,E⟩:=b.slot c _ B (a.free c m q n L) K L;exact#[O,E]
 free:=λc m q n L=>by obtain⟨g,B⟩:=a.there c m q L;exact b.free c g B (a.free c m q n L) L
 there:=λc m q L=>by obtain⟨g,B⟩:=a.there c m q L;exact b.there c g B L
 tups:=λc xs q=>b.tups c xs (a.tups c xs q)
 frzs:=λc m xs q=>b.frzs c m xs (a.frzs c m xs q)
 tbls:=λc ps q=>by obtain⟨m1,B⟩:=a.tbls c ps q;obtain⟨o,E⟩:=b.tbls c _ B;exact#[m1++o,by rw[E,Array.append_assoc]]
theorem Un.kept(k:∀b u,h.get? b=B' u->h'.get? b=B' u):Un fs ex H H h h':=
 #[λb m q _ _ _=>k b m q,λb m q _ _ _=>#[m.slots,k b m q],λ_ _ _ n _=>n,λb m q _=>#[m,k b m q],λ_ _ q=>q,λ_ _ _ q=>q,λ_ ps q=>#[#[],by rw[q];simp]]
theorem Un.refl:Un fs ex H H h h:=Un.kept λ_ _ q=>q
theorem Un.laid(k:∀b u,h.get? b=B' u->h'.get? b=B' u)(J:h.objs.size<=a)(P:H a=G'):Un fs ex H (upd H a o) h h' where
 keep:=λb u q _ _ _=>k b u q
 slot:=λb u q _ _ _=>#[u.slots,k b u q]
 free:=λb u q n _=>by rw[ax (XB<|Xr (Xg q) J)];exact n
 there:=λb u q _=>#[u,k b u q]
 tups:=λb xs q=>by rw[ax (aJ q P)];exact q
 frzs:=λb u xs q=>by rw[ax (aJ q P)];exact q
 tbls:=λb ps q=>#[#[],by rw[ax (aJ q P),q];simp]
theorem Un.write(i:PF (H x))(P:e=x\/H e=B' (.own x))(k:∀b u,b≠e->h.get? b=B' u->h'.get? b=B' u)(j:∃u,h'.get? e=B' u):Un fs ex H (upd H x o) h h':=by
 have L:∀b,H b=G'->b≠x:=λb n z=>by subst z;rw[n]at i;exact i
 have M:∀b,H b=G'->b≠e:=λb n z=>by
  subst z;rcases P with r|r
  ·exact L b n r
  ·rw[n]at r;cases r
 have A:∀b u,H b=B' u->¬PF (B' u)->b≠x:=λb u q nm z=>by subst z;rw[q]at i;exact nm i
 refine#[λb u q n _ _=>k b u (M b n) q,λb u q n _ _=>#[u.slots,k b u (M b n) q],λb u q n _=>by rw[ax (L b n)];exact n,λb u q _=>?_,
  λb xs q=>by rw[ax (A b _ q λz=>z)];exact q,λb u xs q=>by rw[ax (A b _ q λz=>z)];exact q,λb ps q=>#[#[],by rw[ax (A b _ q λz=>z),q];simp]]
 by_cases a:b=e
 ·subst a;exact j
 ·exact#[u,k b u a q]
end
def Ld(h:Heap)(H:Hp):List Addr:=(List.range h.objs.size).filter λa=>(H a).isSome
def ql(h:Heap)(H:Hp):Heap:=PySem.W.hideAll h<|Ld h H
theorem zp(h:Heap)(H):(ql h H).objs.size=h.objs.size:=PySem.W.hideAll_size _ _
theorem BS(e:h.get? b=B' o)(n:H b=G'):(ql h H).get? b=B' o:=
 PySem.W.hideAll_get _ e λA=>by have q:=(YF.mp A).2;rw[n]at q;simp at q
theorem FL(e:(ql h H).get? b=B' o):h.get? b=B' o/\H b=G':=by
 have K:=PySem.W.of_hideAll (Ld h H) e;refine#[K,?_];cases q:H b with
 |none=>rfl
 |some x=>have A:b∈Ld h H:=YF.mpr #[XX.mpr<|Xg K,by simp[q]];have z:(ql h H).get? b=G':=PySem.W.hideAll_none (Ld h H) A;rw[z]at e;cases e
end L2
namespace L2
open PySem PySem.Spec PyProof.Rows
structure Mod(K:PySem.W.Frag)(mg:Str->Option Value)(base:Heap):Prop where
 R6:K.In base
 glob:base.Ns mainGlobals mg
 blt:∃mb,base.Ns builtinsNs mb/\∀x:Str,x≠"__name__"->mb x=bootBuiltins x
 nolimit:base.NoLimit
structure Cx where
 prog:Program
 w:World
 K:PySem.W.Frag
 mg:Str->Option Value
 base:Heap
 A:Around
 N:List Str
 s₀:Shared
 H₀:Hp
 env:Env
 outer:List Env
 stack:List Env
 ex:List Addr
 fn:Str->Bool
 calm:Bool
 pn:List (Addr×Obj)
 xe:Value->Shared->Prop
def fH(l:List Env):List Addr:=l.filterMap (·.frame)
abbrev Cx.fs(X:Cx):List Addr:=fH X.outer
def Iq(a:Scope)(x:Str):Prop:=a.names.lookup x=B' .local\/a.names.lookup x=B' .cell\/a.names.lookup x=B' .free
def Loc(a:Scope)(x:Str):Prop:=a.names.lookup x=B' .local\/a.names.lookup x=B' .cell
def Look(env:Env)(h:Heap)(m:Str->Option Value)(x:Str)(u:Value):Prop:=
 (env.kindOf x=B' .local/\m x=B' u)\/((env.kindOf x=B' .cell\/env.kindOf x=B' .free)/\∃c,env.cells.lookup x=B' c/\h.IsCell c (B' u))
structure Cx.Ok(X:Cx):Prop where
 mod:Mod X.K X.mg X.base
 kind:X.env.scope.kind= .function
 glob:X.env.globals=mainGlobals
 blt:X.env.builtins=builtinsNs
 above:X.s₀.heap.objs.size<=X.env.locals
 inj:∀x y c,X.env.cells.lookup x=B' c->X.env.cells.lookup y=B' c->x=y
 has:∀x,(X.env.kindOf x=B' .cell\/X.env.kindOf x=B' .free)->∃c,X.env.cells.lookup x=B' c
 DY:∀x c,X.fn x=J'->X.env.cells.lookup x=B' c->X.s₀.heap.objs.size<=c
 hd:X.calm=J'->X.A.handled=G'
 frames:X.A.frames=B' X.stack
 GQ:X.stack=X.outer\/(X.stack=X.env::X.outer/\X.env.frame=B' X.env.locals)
 Hm:∀b∈X.ex,b≠X.env.locals/\∀x c,X.env.cells.lookup x=B' c->c≠b
 bs:∀b o,X.base.get? b=B' o->X.s₀.heap.get? b=B' o/\X.H₀ b=G'
 DX:X.base.objs.size<=X.s₀.heap.objs.size
 nU:∀b o,X.base.get? b=B' o->b∉X.ex
 p9:∀b∈X.ex,b∉X.fs
 iP:X.s₀.heap.FunFrames X.base X.outer
 EK:∀b∈X.fs,X.H₀ b=G'
structure Inv(X:Cx)(M':List (Addr×Obj))(σ:List (Option V))(H:Hp)(s:Shared):Prop where
 ok:X.Ok
 os:s.os=X.s₀.os
 bare:AllBare s.gens
 base:Un X.fs X.ex X.H₀ H X.s₀.heap s.heap
 loc:∃m,s.heap.Ns X.env.locals m/\∀(i:Nat)(x:Str)(v:V),X.N[i]?=B' x->σ[i]?=B' (B' v)->Iq X.env.scope x->∃u,RelV v u/\Look X.env s.heap m x u
 cell:∀x c,X.env.cells.lookup x=B' c->∃v,s.heap.IsCell c v
 free:H X.env.locals=G'
 de:∀x c,X.env.cells.lookup x=B' c->H c=G'
 pin:∀p∈X.pn++M',s.heap.get? p.1=B' p.2/\H p.1=G'/\p.1≠X.env.locals/\p.1∉X.fs/\∀v,p.2.data≠ .cell v
 hok:dZ X.prog X.w H s.heap
 len:σ.length=X.N.length
section
variable{X:Cx}{M':List (Addr×Obj)}{σ:List (Option V)}{H H':Hp}{s:Shared}{h':Heap}
theorem Cx.Ok.Sd(ok:X.Ok)(e:X.base.get? b=B' o):b∉X.fs:=λM=>by have:=(ok.iP.mem M).1;rw[e]at this;cases this
theorem Inv.bs(I:Inv X M' σ H s):∀b o,X.base.get? b=B' o->s.heap.get? b=B' o/\H b=G':=λb o e=>
 #[I.base.keep b o (I.ok.bs b o e).1 (I.ok.bs b o e).2 (I.ok.Sd e)<|I.ok.nU b o e,I.base.free b o (I.ok.bs b o e).1 (I.ok.bs b o e).2<|I.ok.nU b o e]
theorem Inv.bk(I:Inv X M' σ H s):∀b o,X.base.get? b=B' o->s.heap.get? b=B' o:=λb o e=>(I.bs b o e).1
theorem Inv.mod(I:Inv X M' σ H s):Mod X.K X.mg X.base:=I.ok.mod
theorem Inv.lj(I:Inv X M' σ H s):X.K.In s.heap:=I.ok.mod.R6.keeps I.bk
theorem Inv.lt(I:Inv X M' σ H s):X.env.locals<s.heap.objs.size:=let #[_,P,_]:=I.loc;P.lt
theorem Inv.sz(I:Inv X M' σ H s):X.s₀.heap.objs.size<=s.heap.objs.size:=Xh I.ok.above<|YW I.lt
theorem Inv.Se(I:Inv X M' σ H s){a:Addr}(h:s.heap.objs.size<=a):a∉X.fs:=λM=>by obtain⟨_,o,B,_⟩:=I.ok.iP.mem M;exact absurd (Xr (Xg B)<|Xh I.sz h)<|YY _
theorem Inv.IP(I:Inv X M' σ H s):∀x c,X.env.cells.lookup x=B' c->c≠X.env.locals:=λx c e z=>by obtain⟨v,o,B,hd⟩:=I.cell x c e;obtain⟨m,⟨g,es,ep,i,r,_⟩,_⟩:=I.loc;rw[z,i]at B;cases B;rw[r]at hd;cases hd
theorem Inv.iP(I:Inv X M' σ H s):s.heap.FunFrames X.base X.outer:=by
 have all:∀(l:List Env),(∀b∈fH l,b∈X.fs)->X.s₀.heap.FunFrames X.base l->s.heap.FunFrames X.base l:=by
  intro l
  induction l with
  |nil=>intro _ _;trivial
  |cons env r ih=>
   intro w W;obtain⟨g,⟨L,o,hf,P,B,hd⟩,hr⟩:=W;have y:=w L (by unfold fH;rw[Ym,hf];exact Xc);obtain⟨t,e⟩:=I.base.slot L o B (I.ok.EK L y) y λz=>I.ok.p9 L z y
   exact#[g,#[L,_,hf,P,e,hd],ih (λb M=>w b<|by unfold fH;rw[Ym,hf];exact W9 _ M) hr]
 exact all X.outer (λ_ M=>M) I.ok.iP
theorem Inv.stack(I:Inv X M' σ H s):s.heap.FunFrames X.base X.stack:=by
 rcases I.ok.GQ with e|⟨e,r⟩
 ·rw[e];exact I.iP
 ·rw[e];obtain⟨m,P,_⟩:=I.loc;refine .cons (by rw[I.ok.kind];decide) r P ?_ I.iP;exact Heap.get?_none_of_le<|Xh I.ok.DX I.ok.above
theorem Inv.mZ(I:Inv X M' σ H s):∀b∈fH X.stack,b∈X.env.locals::X.fs:=λb M=>by
 rcases I.ok.GQ with e|⟨e,r⟩
 ·rw[e]at M;exact W9 _ M
 ·rw[e]at M;unfold fH at M;rw[Ym,r]at M;exact M
theorem Inv.q9(I:Inv X M' σ H s):∀b∈fH X.stack,H b=G':=λb M=>by
 rcases Xi.mp (I.mZ b M)with e|M
 ·rw[e];exact I.free
 ·obtain⟨_,o,B,_⟩:=I.ok.iP.mem M;exact I.base.free b o B (I.ok.EK b M) λz=>I.ok.p9 b z M
theorem Inv.step{ch:List Addr}(I:Inv X S σ H s)
  (a:∀b∈ch,(b∈X.ex\/X.s₀.heap.objs.size<=b)/\b≠X.env.locals/\(∀x c,X.env.cells.lookup x=B' c->c≠b)/\∀p∈X.pn++S,p.1≠b)
  (keep:∀b o,b≠X.env.locals->b∉X.fs->b∉ch->s.heap.get? b=B' o->H b=G'->h'.get? b=B' o)
  (slot:∀b o,b≠X.env.locals->b∈X.fs->b∉ch->s.heap.get? b=B' o->H b=G'->∃t,h'.get? b=B' {o with slots:=t}) (free:∀b o,b∉ch->s.heap.get? b=B' o->H b=G'->H' b=G')
  (there:∀b o,b∉ch->s.heap.get? b=B' o->∃g,h'.get? b=B' g)
  (tups:∀b xs,H b=B' (.tup xs)->H' b=B' (.tup xs)) (frzs:∀b o u,H b=B' (.zj o u)->H' b=B' (.zj o u)) (tbls:∀b ps,H b=B' (.Aq ps)->∃w,H' b=B' (.Aq<|ps++w))
  (ns:∀m,s.heap.Ns X.env.locals m->h'.Ns X.env.locals m) (hok:dZ X.prog X.w H' h') (j:AllBare g'):
  Inv X S σ H' {s with heap:=h',gens:=g',drawn:=d',toks:=t'}:=by
 have Z:∀b o,X.s₀.heap.get? b=B' o->b≠X.env.locals:=λb o e=>XB (Xr (Xg e) I.ok.above)
 have y:∀b o,X.s₀.heap.get? b=B' o->b∉X.ex->b∉ch:=λb o e L M=>by
  rcases (a b M).1 with z|z
  ·exact L z
  ·exact absurd (Xr (Xg e) z) (YY _)
 have A:∀x c,X.env.cells.lookup x=B' c->∀v,s.heap.IsCell c v->h'.IsCell c v:=λx c e v#[o,ho,hd]=>by
  have h:c∉ch:=λz=>(a c z).2.2.1 x c e rfl
  by_cases K:c∈X.fs
  ·obtain⟨t,q⟩:=slot c o (I.IP x c e) K h ho<|I.de x c e;exact#[_,q,hd]
  ·exact#[o,keep c o (I.IP x c e) K h ho<|I.de x c e,hd]
 refine#[I.ok,I.os,j,#[λb o e n M L=>?_,λb o e n M L=>?_,λb o e n L=>?_,λb o e L=>?_,λb xs e=>tups b xs<|I.base.tups b xs e,λb o xs e=>frzs b o xs<|I.base.frzs b o xs e,λb ps e=>?_],?_,λx c e=>?_,?_,λx c e=>?_,λp J=>?_,hok,I.len]
 ·exact keep b o (Z b o e) M (y b o e L) (I.base.keep b o e n M L)<|I.base.free b o e n L
 ·obtain⟨t,B⟩:=I.base.slot b o e n M L;obtain⟨O,E⟩:=slot b _ (Z b o e) M (y b o e L) B<|I.base.free b o e n L;exact#[O,E]
 ·obtain⟨g,B⟩:=I.base.there b o e L;exact free b g (y b o e L) B<|I.base.free b o e n L
 ·obtain⟨g,B⟩:=I.base.there b o e L;exact there b g (y b o e L) B
 ·obtain⟨m1,B⟩:=I.base.tbls b ps e;obtain⟨m2,E⟩:=tbls b _ B;exact#[m1++m2,by rw[E,Array.append_assoc]]
 ·obtain⟨m,P,W⟩:=I.loc;refine#[m,ns m P,λi x v B E e3=>?_];obtain⟨u,r,l⟩:=W i x v B E e3;refine#[u,r,?_];rcases l with l|⟨k,c,e,z⟩
  ·exact .inl l
  ·exact .inr #[k,c,e,A x c e _ z]
 ·obtain⟨v,z⟩:=I.cell x c e;exact#[v,A x c e v z]
 ·obtain⟨m,⟨o,_,_,ho,_⟩,_⟩:=I.loc;exact free _ o (λz=>(a _ z).2.1 rfl) ho I.free
 ·obtain⟨v,o,ho,hd⟩:=I.cell x c e;exact free c o (λz=>(a c z).2.2.1 x c e rfl) ho<|I.de x c e
 ·obtain⟨e,n,ne,Y,d⟩:=I.pin p J;have h:p.1∉ch:=λz=>(a p.1 z).2.2.2 p J rfl
  exact#[keep p.1 p.2 ne Y h e n,free p.1 p.2 h e n,ne,Y,d]
theorem Inv.un(I:Inv X M' σ H s)(u:Un X.fs [] H H' s.heap h')(hok:dZ X.prog X.w H' h'):Inv X M' σ H' {s with heap:=h',toks:=t'}:=by
 obtain⟨m,⟨o,es,ep,B,r⟩,_⟩:=id I.loc;obtain⟨t,y⟩:=u.any B I.free (by simp);exact I.step (ch:=[]) (λ_ z=>nomatch z) (λb o _ M _ e n=>u.keep b o e n M<|by simp) (λb o _ M _ e n=>u.slot b o e n M<|by simp) (λb o _ e n=>u.free b o e n<|by simp) (λb o _ e=>u.there b o e<|by simp) u.tups u.frzs u.tbls (λm' A=>by
  obtain⟨g,F,h,i,Z⟩:=A;rw[B]at i;cases i;exact#[_,F,h,y,Z]) hok I.bare
theorem Inv.call(I:Inv X S σ H s)(u:Un (fH X.stack) ch H H' s.heap h')(hok:dZ X.prog X.w H' h')(j:AllBare g')
  (a:∀b∈ch,(b∈X.ex\/X.s₀.heap.objs.size<=b)/\b≠X.env.locals/\(∀x c,X.env.cells.lookup x=B' c->c≠b)/\∀p∈X.pn++S,p.1≠b):
  Inv X S σ H' {s with heap:=h',gens:=g',drawn:=d',toks:=t'}:=by
 obtain⟨m,⟨o,es,ep,B,r⟩,_⟩:=id I.loc;obtain⟨t,y⟩:=u.any B I.free λz=>(a _ z).2.1 rfl
 exact I.step a (λb o y M K e n=>u.keep b o e n (λz=>(Xi.mp<|I.mZ b z).elim y M) K) (λb o _ _ K e n=>u.any e n K) (λb o K e n=>u.free b o e n K) (λb o K e=>u.there b o e K) u.tups u.frzs u.tbls (λm' A=>by
  obtain⟨g,F,h,i,Z⟩:=A;rw[B]at i;cases i;exact#[_,F,h,y,Z]) hok j
theorem Inv.turned(I:Inv X S σ H s)(k:∀b o,b≠it->s.heap.get? b=B' o->h'.get? b=B' o)(P:H it=G')(y:it≠X.env.locals)
  (Z:it∈X.ex\/X.s₀.heap.objs.size<=it) (Y:∀x c,X.env.cells.lookup x=B' c->c≠it) (h3:∀p∈X.pn++S,p.1≠it):Inv X S σ H {s with heap:=h',toks:=t'}:=by
 have F:∀b u,H b=B' u->b≠it:=λb u e z=>by rw[z,P]at e;cases e
 refine I.step (ch:=[it]) (λb M=>?_) (λb o _ _ K e _=>k b o (λz=>K<|by simp[z]) e) (λb o _ _ K e _=>#[o.slots,k b o (λz=>K<|by simp[z]) e]) (λ_ _ _ _ n=>n)
  (λb o K e=>#[o,k b o (λz=>K<|by simp[z]) e]) (λ_ _ e=>e) (λ_ _ _ e=>e) (λb ps e=>#[#[],by rw[e];simp]) (λm A=>?_) (λb u e=>?_) I.bare
 ·have e:b=it:=by simpa using M
  subst e;exact#[Z,y,Y,h3]
 ·obtain⟨o,es,ep,B,r⟩:=A;exact#[o,es,ep,k _ o (Y6 y) B,r]
 ·refine(I.hok b u e).kZ (λc v K q=>k c v ?_ q) (λ_ q=>q) λ_ _ q=>q
  rcases K with z|z
  ·rw[z];exact F b u e
  ·exact F c _ z
theorem Inv.tok(I:Inv X M' σ H s)(t):Inv X M' σ H {s with toks:=t}:=I.un Un.refl I.hok
theorem Inv.kept(I:Inv X M' σ H s)(k:∀b u,s.heap.get? b=B' u->h'.get? b=B' u):Inv X M' σ H {s with heap:=h',toks:=t'}:=I.un (Un.kept k)<|I.hok.kept k
theorem Inv.laid{a:Addr}(I:Inv X M' σ H s)(k:∀b u,s.heap.get? b=B' u->h'.get? b=B' u)(J:s.heap.objs.size<=a)(g:cu X.prog X.w (upd H a o) h' a o):
  Inv X M' σ (upd H a o) {s with heap:=h',toks:=t'}:=I.un (Un.laid k J<|I.hok.fresh J)<|I.hok.laid k J g
theorem Inv.write(I:Inv X M' σ H s)(i:PF (H x))(P:e=x\/H e=B' (.own x))(k:∀b u,b≠e->s.heap.get? b=B' u->h'.get? b=B' u)(j:∃u,h'.get? e=B' u)
  (g:cu X.prog X.w (upd H x o) h' x o):Inv X M' σ (upd H x o) {s with heap:=h',toks:=t'}:=I.un (Un.write i P k j)<|I.hok.write i P k j g
theorem Inv.weak(I:Inv X M' σ H s)(W:σ'.length=σ.length)(w:∀(i:Nat)v,σ'[i]?=B' (B' v)->σ[i]?=B' (B' v)):Inv X M' σ' H s:=
 #[I.ok,I.os,I.bare,I.base,let #[m,P,g]:=I.loc;#[m,P,λi x v B E J=>g i x v B (w i v E) J],I.cell,I.free,I.de,I.pin,I.hok,W.trans I.len]
theorem Inv.ic(I:Inv X M' σ H s)(h:∀p∈pins',s.heap.get? p.1=B' p.2/\H p.1=G'/\p.1≠X.env.locals/\p.1∉X.fs/\∀v,p.2.data≠ .cell v):Inv X pins' σ H s:=
 #[I.ok,I.os,I.bare,I.base,I.loc,I.cell,I.free,I.de,λp J=>(Xs.mp J).elim (λz=>I.pin p<|YE _ z)<|h p,I.hok,I.len]
theorem jD{N:List Str}(o:N.Nodup){i j:Nat}(a:N[i]?=B' x)(b:N[j]?=B' x):i=j:=by obtain⟨Z,B⟩:=W8.mp a;obtain⟨Y,E⟩:=W8.mp b;exact(List.getElem_inj o).mp<|B.trans E.symm
theorem o8{M:Model}{A:Around}{E:Value->Shared->Prop}{i:Nat}{x:Str}{v:V}{u:Value}{Q:Unit->Shared->Prop}(I:Inv X M' σ H s)(hN:X.N.Nodup)(hi:X.N[i]?=B' x)(L:Loc X.env.scope x)(r:RelV v u)
  (h:∀l,Inv X M' (σ.set i<|B' v) H l->(∃a,Heap.SameBut a s.heap l.heap/\(a=X.env.locals\/X.env.cells.lookup x=B' a))->Q () l) (hf:X.fn x=J'\/X.env.scope.names.lookup x=B' .local:=by first|exact .inl rfl|exact .inr rfl|assumption):wpAny M A (storeName X.env x u) Q E s:=by
 obtain⟨m,P,W⟩:=id I.loc;have sH:(X.env.scope.kind== .class||(X.env.scope.kind== .module&&X.env.locals != X.env.globals))=K':=by rw[I.ok.kind];rfl
 have hiσ:i<σ.length:=by rw[I.len];exact(W8.mp hi).1
 have IP:=I.IP;have O:∀{a:Addr}{h':Heap},(∃o,s.heap.get? a=B' o/\H a=G')->Heap.SameBut a s.heap h'->dZ X.prog X.w H h':=λ {a h'} t w b ob e=>by
  obtain⟨_,_,Ht⟩:=t;refine(I.hok b ob e).kZ (λc w' K q=>(w.2 c ?_).trans q) (λ_ q=>q) λ_ _ q=>q
  rintro rfl;rcases K with rfl|K
  ·rw[Ht]at e;cases e
  ·rw[Ht]at K;cases K
 rcases L with g|g
 ·refine wpAny_storeName_local g P (λh' VM w=>?_) sH;obtain⟨oL,_,_,Qd,_⟩:=id P;refine h _ #[I.ok,I.os,I.bare,#[λb o e n hb L=>?_,λb o e n hb L=>?_,I.base.free,λb o e L=>?_,I.base.tups,I.base.frzs,I.base.tbls],#[_,VM,λj y v' B e2 e3=>?_],λy c e=>?_,I.free,I.de,λp J=>?_,O #[oL,Qd,I.free] w,by simpa using I.len] #[_,w,.inl rfl]
  ·exact(w.2 b<|XB<|Xr (Xg e) I.ok.above).trans<|I.base.keep b o e n hb L
  ·obtain⟨sl,B⟩:=I.base.slot b o e n hb L;exact#[sl,(w.2 b<|XB<|Xr (Xg e) I.ok.above).trans B]
  ·obtain⟨o',B⟩:=I.base.there b o e L;exact#[o',(w.2 b<|XB<|Xr (Xg e) I.ok.above).trans B]
  ·by_cases F:j=i
   ·subst F;rw[hi]at B;cases B;rw[XW hiσ]at e2;cases e2;exact#[u,r,.inl #[g,by simp]]
   ·rw[Xn (Y6 F)]at e2;obtain⟨u',Z,q⟩:=W j y v' B e2 e3;refine#[u',Z,?_];rcases q with ⟨k,e⟩|⟨k,c,e,z⟩
    ·refine .inl #[k,?_];have:y≠x:=λe=>F (jD hN B<|e▸hi)
     simp[this,e]
    ·exact .inr #[k,c,e,z.sameBut w<|IP y c e]
  ·obtain⟨w',z⟩:=I.cell y c e;exact#[w',z.sameBut w<|IP y c e]
  ·obtain⟨e,n,ne,Y,d⟩:=I.pin p J;exact#[(w.2 p.1 ne).trans e,n,ne,Y,d]
 ·have S:X.fn x=J':=by
   rcases hf with z|z
   ·exact z
   ·rw[z]at g;cases g
  obtain⟨c,K⟩:=I.ok.has x<|.inl g;obtain⟨w',z⟩:=I.cell x c K;refine wpAny_storeName_cell I.ok.kind g K z λh' kJ w=>?_;obtain⟨oc,Ud,RE⟩:=id z;refine h {s with heap:=h'} #[I.ok,I.os,I.bare,#[λb o e n hb L=>?_,λb o e n hb L=>?_,I.base.free,λb o e L=>?_,I.base.tups,I.base.frzs,I.base.tbls],#[m,P.sameBut w<|Y6<|IP x c K,λj y v' B e2 e3=>?_],λy c' e=>?_,I.free,I.de,λp J=>?_,O #[oc,Ud,I.de x c K] w,by simpa using I.len] #[c,w,.inr K]
  ·exact(w.2 b<|XB<|Xr (Xg e)<|I.ok.DY x c S K).trans<|I.base.keep b o e n hb L
  ·obtain⟨sl,B⟩:=I.base.slot b o e n hb L;exact#[sl,(w.2 b<|XB<|Xr (Xg e)<|I.ok.DY x c S K).trans B]
  ·obtain⟨o',B⟩:=I.base.there b o e L;exact#[o',(w.2 b<|XB<|Xr (Xg e)<|I.ok.DY x c S K).trans B]
  ·by_cases F:j=i
   ·subst F;rw[hi]at B;cases B;rw[XW hiσ]at e2;cases e2;exact#[u,r,.inr #[.inl g,c,K,kJ]]
   ·rw[Xn (Y6 F)]at e2;obtain⟨u',Z,q⟩:=W j y v' B e2 e3;refine#[u',Z,?_];rcases q with q|⟨k,c',e,z'⟩
    ·exact .inl q
    ·refine .inr #[k,c',e,z'.sameBut w ?_];rintro rfl;exact F<|jD hN B<|I.ok.inj _ _ _ e K▸hi
  ·by_cases hcc:c'=c
   ·subst hcc;exact#[_,kJ]
   ·obtain⟨w2,z2⟩:=I.cell y c' e;exact#[w2,z2.sameBut w hcc]
  ·obtain⟨e,n,ne,Y,d⟩:=I.pin p J;refine#[(w.2 p.1 ?_).trans e,n,ne,Y,d];intro q;rw[q,Ud]at e;have q':=Y7 e;exact d w' (by rw[<-q'];exact RE)
theorem jO{M:Model}{A:Around}{E:Value->Shared->Prop}{i:Nat}{x:Str}{v:V}{u:Value}{Q:Unit->Shared->Prop}(I:Inv X M' σ H s)(o:X.N.Nodup)(hi:X.N[i]?=B' x)(L:Loc X.env.scope x)(r:RelV v u)
  (h:∀l,Inv X M' (σ.set i<|B' v) H l->Q () l) (hf:X.fn x=J'\/X.env.scope.names.lookup x=B' .local:=by first|exact .inl rfl|exact .inr rfl|assumption):wpAny M A (storeName X.env x u) Q E s:=
 o8 I o hi L r (λl b _=>h l b) hf
theorem Inv.AQ(I:Inv X S σ H s)(B:s'.os=s.os)(u:Un (fH X.stack) ch H H' s.heap s'.heap)(hok:dZ X.prog X.w H' s'.heap)(j:AllBare s'.gens)
  (a:∀b∈ch,(b∈X.ex\/X.s₀.heap.objs.size<=b)/\b≠X.env.locals/\(∀x c,X.env.cells.lookup x=B' c->c≠b)/\∀p∈X.pn++S,p.1≠b):Inv X S σ H' s':=by
 obtain⟨h',g',d',t',g⟩:=s';have e:=B;subst e;exact I.call u hok j a
end
abbrev XK:=Value->Option Addr->Hp->Prop
abbrev St:=List (Option V)
abbrev VK:=V->Hp->Prop
abbrev TE:=St->Hp->VK->Prop
abbrev TT:=St->Hp->(Bool->Hp->Prop)->Prop
abbrev TA:=St->Hp->(List V->Hp->Prop)->Prop
structure Ends where
 nx:St->Hp->Prop
 rt:VK
 bk:St->Hp->Prop:=λ_ _=>False
 ct:St->Hp->Prop:=λ_ _=>False
abbrev TS:=Ends->St->Hp->Prop
inductive EP(X:Cx)(M':List (Addr×Obj))(σ:St)(Q:VK)(u:Value)(s':Shared):Prop
 |mk (v:V) (H':Hp) (i:Inv X M' σ H' s') (r:RelV v u) (q:Q v H'):EP X M' σ Q u s'
inductive TP(X:Cx)(M':List (Addr×Obj))(σ:St)(Q:Bool->Hp->Prop)(b:Bool)(s':Shared):Prop
 |mk (H':Hp) (i:Inv X M' σ H' s') (q:Q b H'):TP X M' σ Q b s'
inductive AP(X:Cx)(M':List (Addr×Obj))(σ:St)(Q:List V->Hp->Prop)(us:List Value)(s':Shared):Prop
 |mk (vs:List V) (H':Hp) (i:Inv X M' σ H' s') (r:au vs us) (q:Q vs H'):AP X M' σ Q us s'
def SP(X:Cx)(M':List (Addr×Obj))(D:Ends)(f:Flow)(s':Shared):Prop:=
 match f with
 |.next=>∃σ' H',Inv X M' σ' H' s'/\D.nx σ' H'
 |.brk=>∃σ' H',Inv X M' σ' H' s'/\D.bk σ' H'
 |.cont=>∃σ' H',Inv X M' σ' H' s'/\D.ct σ' H'
 |.ret u=>∃v σ' H',Inv X M' σ' H' s'/\RelV v u/\D.rt v H'
def PE(X:Cx)(e:Expr)(t:TE):Prop:=
 ∀(S:List (Addr×Obj))(s:Shared)(O:St)(H:Hp)(Q:VK),Inv X S O H s->t O H Q->wpAny (model X.prog X.w) X.A (eval e X.env) (EP X S O Q) X.xe s
def PT(X:Cx)(e:Expr)(t:TT):Prop:=
 ∀(S:List (Addr×Obj))(s:Shared)(O:St)(H:Hp)(Q:Bool->Hp->Prop),Inv X S O H s->t O H Q->wpAny (model X.prog X.w) X.A (isTrue e X.env<|eval e X.env) (TP X S O Q) X.xe s
def PW(X:Cx)(e:Expr)(t:TT):Prop:=
 ∀(c:Sem Value)(S:List (Addr×Obj))(s:Shared)(O:St)(H:Hp)(Q:Bool->Hp->Prop),Inv X S O H s->t O H Q->wpAny (model X.prog X.w) X.A (isTrue e X.env c) (TP X S O Q) X.xe s
theorem PW.pt(h:PW X e t):PT X e t:=h _
def PA(X:Cx)(es:List Expr)(t:TA):Prop:=
 ∀(pos:Pos)(S:List (Addr×Obj))(s:Shared)(O:St)(H:Hp)(Q:List V->Hp->Prop),Inv X S O H s->t O H Q->wpAny (model X.prog X.w) X.A (spliced<|backTo pos<|starEach es X.env) (AP X S O Q) X.xe s
def PS(X:Cx)(st:Stmt)(t:TS):Prop:=
 ∀(S:List (Addr×Obj))(s:Shared)(O:St)(H:Hp)(D:Ends),Inv X S O H s->t D O H->wpAny (model X.prog X.w) X.A (exec st X.env) (SP X S D) X.xe s
def rG(X:Cx)(st:List Stmt)(t:TS):Prop:=
 ∀(S:List (Addr×Obj))(s:Shared)(O:St)(H:Hp)(D:Ends),Inv X S O H s->t D O H->wpAny (model X.prog X.w) X.A (execs st X.env) (SP X S D) X.xe s
theorem bS{t:Sem α}{Q c:α->Shared->Prop}(h:wpAny M A t Q E s)(H:∀a s,Q a s->c a s):wpAny M A t c E s:=ZA h H λ_ _ x=>x
end L2
namespace L2
open PySem PySem.Spec PyProof.Rows
section
variable{X:Cx}
def eU(i:Nat):TE:=λσ H Q=>∃v,σ[i]?=B' (B' v)/\Q v H
def tC(v:V):TE:=λ_ H Q=>Q v H
theorem fX{i:Nat}{x:Str}{pos:Pos}(o:X.N[i]?=B' x)(n:Iq X.env.scope x)(hd:(x==("__debug__":Str))=K':=by decide)(z:(x==("__classdict__":Str))=K':=by decide):PE X (.Name x pos) (eU i):=by
 intro S s O H Q I h;obtain⟨v,e,h⟩:=h;obtain⟨m,P,W⟩:=I.loc;obtain⟨u,r,l⟩:=W i x v o e n;have fin:EP X S O Q u s:=#[v,H,I,r,h];rcases l with ⟨g,A⟩|⟨g,c,K,J⟩
 ·exact wpAny_Name (wpAny_loadName_local I.ok.kind g P A fin) hd
 ·rcases g with g|g
  ·exact wpAny_Name (wpAny_loadName_cell I.ok.kind g K J fin) hd
  ·exact wpAny_Name (wpAny_loadName_free I.ok.kind g K J fin z) hd
theorem Kn{i j pos}:PE X (.Constant (.int i) j pos) (tC<|.int i):=λ_ _ _ H _ I h=>wpAny_Constant_int #[.int i,H,I.tok _,#[_,rfl],h]
theorem HH{b j pos}:PE X (.Constant (.bool b) j pos) (tC<|.bl b):=λ_ _ _ H _ I h=>Constant_bool #[.bl b,H,I,rfl,h]
theorem Ko{j pos}:PE X (.Constant .none j pos) (tC .bX):=λ_ _ _ H _ I h=>Constant_none #[.bX,H,I,rfl,h]
theorem Kp{x j pos}:PE X (.Constant (.str x) j pos) (tC<|.str x):=λ_ _ _ H _ I h=>Calls.Constant_str #[.str x,H,I.tok _,#[_,rfl],h]
def Gl(X:Cx)(x:Str):Prop:=X.env.kindOf x=B' .globalImplicit
theorem jy{E:Value->Shared->Prop}{S:List (Addr×Obj)}{s:Shared}{O:St}{H:Hp}{x:Str}{u:Value}{pos:Pos}{Q:Value->Shared->Prop}(I:Inv X S O H s)(j:Gl X x)(A:X.mg x=B' u)(h:Q u s)
  (hd:(x==("__debug__":Str))=K':=by decide):wpAny (model X.prog X.w) X.A (eval (.Name x pos) X.env) Q E s:=
 Calls.Name_function_global I.ok.kind j (Calls.loadGlobal_global (by rw[I.ok.glob];exact I.mod.glob.keeps I.bk) A h) hd
theorem fQ{E:Value->Shared->Prop}{S:List (Addr×Obj)}{s:Shared}{O:St}{H:Hp}{x:Str}{u:Value}{pos:Pos}{Q:Value->Shared->Prop}(I:Inv X S O H s)(j:Gl X x)(A:X.mg x=G')(n:bootBuiltins x=B' u)(h:Q u s)
  (P:x≠"__name__":=by decide) (hd:(x==("__debug__":Str))=K':=by decide):wpAny (model X.prog X.w) X.A (eval (.Name x pos) X.env) Q E s:=by
 obtain⟨m,Z,Y⟩:=I.mod.blt;exact Calls.Name_function_global I.ok.kind j (Calls.loadGlobal_builtin (by rw[I.ok.glob];exact I.mod.glob.keeps I.bk) A (by rw[I.ok.blt];exact Z.keeps I.bk) ((Y x P).trans n) h) hd
theorem xZ{x:Str}{v:V}{u:Value}{pos:Pos}(j:Gl X x)(A:X.mg x=B' u)(r:RelV v u)(hd:(x==("__debug__":Str))=K':=by decide):PE X (.Name x pos) (tC v):=
 λ_ _ _ H _ I h=>jy I j A #[v,H,I,r,h] hd
theorem xW{x:Str}{v:V}{u:Value}{pos:Pos}(j:Gl X x)(A:X.mg x=G')(n:bootBuiltins x=B' u)(r:RelV v u)(P:x≠"__name__":=by decide)(hd:(x==("__debug__":Str))=K':=by decide):PE X (.Name x pos) (tC v):=
 λ_ _ _ H _ I h=>fQ I j A n #[v,H,I,r,h] P hd
variable{a b:Expr}{ta tb:TE}{pos:Pos}
def PC(X:Cx)(p:CmpOp)(a b:Expr)(t:TE):Prop:=
 ∀(S:List (Addr×Obj))(s:Shared)(O:St)(H:Hp)(Q:VK),Inv X S O H s->t O H Q->
  wpAny (model X.prog X.w) X.A (eval a X.env) (λv Z=>wpAny (model X.prog X.w) X.A (eval b X.env) (λu q=>wpAny (model X.prog X.w) X.A (compareOp p v u) (EP X S O Q) X.xe q) X.xe Z) X.xe s
theorem mx(b)(h:op≠ .In)(Y:op≠ .NotIn):behindInMarks op b=K':=by
 have B:(op==CmpOp.In)=K':=by cases op<;>first|rfl|exact absurd rfl h
 have E:(op==CmpOp.NotIn)=K':=by cases op<;>first|rfl|exact absurd rfl Y
 cases b<;>simp[behindInMarks,B,E]
def tB(t:TE):TT:=λσ H Q=>t σ H λx H1=>∃c,x= .bl c/\Q c H1
theorem Km{p:CmpOp}{t:TE}(h:PC X p a b t)(Z:behindInMarks p b=K':=by first|exact mx _ (by decide) (by decide)|rfl):PE X (.Compare a [p] [b] pos) t:=λS s O H Q I y=>wpAny_Compare1 (h S s O H Q I y) Z
theorem Ky{p:CmpOp}{t:TE}(h:PC X p a b t)(Z:behindInMarks p b=K':=by first|exact mx _ (by decide) (by decide)|rfl):PT X (.Compare a [p] [b] pos) (tB t):=by intro S s O H Q I y;refine wpAny_isTrue_Compare1 (bS (h S s O H _ I y) λv s1 Z=>bS Z λu s2 Y=>bS Y λc w#[x,j,g,F,l]=>?_) Z;obtain⟨d,rfl,q⟩:=l;cases F;exact ZK #[j,g,q]
variable{tA Qo:TT}{rest:List Expr}
def SI(t u:TT):TT:=λO H Q=>t O H λc j=>if c=J' then u O j Q else Q K' j
def Wq(t u:TT):TT:=λO H Q=>t O H λc j=>if c=J' then Q J' j else u O j Q
def SQ(t:TT):TT:=λσ H Q=>t σ H λc H1=>Q (!c) H1
theorem Gh(t:PT X a tA):PW X (.BoolOp .And [a] pos) tA:=by
 intro i S s O H Q I h;refine isTrue_and<|bS (t S s O H Q I h) λc s1 e=>?_;cases c with
 |true=>exact isTrue_and_nil e
 |false=>exact e
theorem KB(t:PT X a tA):PW X (.BoolOp .Or [a] pos) tA:=by
 intro i S s O H Q I h;refine isTrue_or<|bS (t S s O H Q I h) λc s1 e=>?_;cases c with
 |false=>exact isTrue_or_nil e
 |true=>exact e
theorem KA(t:PT X a tA)(M:PW X (.BoolOp .And (b::rest) pos) Qo):PW X (.BoolOp .And (a::b::rest) pos) (SI tA Qo):=by
 intro i S s O H Q I h;refine isTrue_and<|bS (t S s O H _ I h) λc s1#[j,g,l]=>?_;cases c with
 |true=>exact M i S s1 O j Q g l
 |false=>exact#[j,g,l]
theorem Oj(t:PT X a tA)(M:PW X (.BoolOp .Or (b::rest) pos) Qo):PW X (.BoolOp .Or (a::b::rest) pos) (Wq tA Qo):=by
 intro i S s O H Q I h;refine isTrue_or<|bS (t S s O H _ I h) λc s1#[j,g,l]=>?_;cases c with
 |true=>exact#[j,g,l]
 |false=>exact M i S s1 O j Q g l
theorem Kz(t:PT X a tA):PT X (.UnaryOp .Not a pos) (SQ tA):=by intro S s O H Q I h;exact isTrue_not<|bS (t S s O H (λc j=>Q (!c) j) I h) λ_ _#[j,i,q]=>#[j,i,q]
def OU(z tb:TE):TE:=λO H Q=>z O H λx j=>∃c,x= .bl c/\if c=J' then tb O j Q else Q (.bl K') j
def SR(z tb:TE):TE:=λO H Q=>z O H λx j=>∃c,x= .bl c/\if c=J' then Q (.bl J') j else tb O j Q
def O0(z:TE):TE:=λO H Q=>z O H λx j=>∃c,x= .bl c/\Q (.bl<|!c) j
theorem CF{p}(h:PE X a t):PE X (.BoolOp p [a] pos) t:=λS s O H Q I y=>BoolOp_one<|h S s O H Q I y
theorem Cw(t:PE X a ta)(M:PE X (.BoolOp .And (b::rest) pos) tb):PE X (.BoolOp .And (a::b::rest) pos) (OU ta tb):=by
 intro S s O H Q I h;refine BoolOp_and<|bS (t S s O H _ I h) λv s1#[x,j,g,F,l]=>?_;obtain⟨c,rfl,l⟩:=l;cases F;refine ZK ?_;cases c with
 |true=>exact M S s1 O j Q g l
 |false=>exact#[.bl K',j,g,rfl,l]
theorem HK(t:PE X a ta)(M:PE X (.BoolOp .Or (b::rest) pos) tb):PE X (.BoolOp .Or (a::b::rest) pos) (SR ta tb):=by
 intro S s O H Q I h;refine BoolOp_or<|bS (t S s O H _ I h) λv s1#[x,j,g,F,l]=>?_;obtain⟨c,rfl,l⟩:=l;cases F;refine ZK ?_;cases c with
 |false=>exact M S s1 O j Q g l
 |true=>exact#[.bl J',j,g,rfl,l]
theorem CD(t:PE X a ta):PE X (.UnaryOp .Not a pos) (O0 ta):=by intro S s O H Q I h;refine UnaryOp_<|bS (t S s O H _ I h) λv s1#[x,j,g,F,l]=>?_;obtain⟨c,rfl,l⟩:=l;cases F;exact not_of<|ZK #[.bl<|!c,j,g,rfl,l]
end
end L2
namespace L2
open PySem PySem.Spec PyProof.Rows
def d8(K:PySem.W.Frag)(H:Hp)(a:Addr)(xs:List V):Prop:=
 Rd H a (.lst xs)\/
  ∃(o:Obj)(J:Array Value)(n:Nat),K.lookup a=B' o/\o.cls= .type "list"/\o.dict=G'/\o.data= .seq J n/\J.size<=sizeLine/\au xs J.toList
def fL(K:PySem.W.Frag)(H:Hp)(a:Addr)(xs:List V):Prop:=
 Rd H a (.tup xs)\/
  ∃(o:Obj)(J:Array Value)(n:Nat),K.lookup a=B' o/\o.cls= .type "tuple"/\o.data= .seq J n/\J.size<=sizeLine/\au xs J.toList
def QL:Value->Option V
 |.none=>B' .bX
 |.bool b=>B'<|.bl b
 |.int i _=>B'<|.int i
 |.str x _=>B'<|.str x
 |.bytes b _=>B'<|.II b
 |.float b _=>B'<|.D1 b
 |.ref a=>B'<|.ref a
 |.type n=>B'<|.ty n
 |_=>G'
theorem RelV.abs(r:RelV x u):QL u=B' x:=by
 cases x with
 |bX=>cases r;rfl
 |bl _=>cases r;rfl
 |int _=>obtain⟨t,rfl⟩:=r;rfl
 |str _=>obtain⟨t,rfl⟩:=r;rfl
 |II _=>obtain⟨t,rfl⟩:=r;rfl
 |D1 _=>obtain⟨t,rfl⟩:=r;rfl
 |ref _=>cases r;rfl
 |ty _=>cases r;rfl
theorem RelV.inj{u:Value}(r:RelV x u)(q:RelV y u):x=y:=Y7<|r.abs.symm.trans q.abs
theorem au.inj:∀{xs ys:List V}{i:List Value},au xs i->au ys i->xs=ys
 |_,_,_,.nil,.nil=>rfl
 |_,_,_,.cons r t,.cons Z t'=>by rw[r.inj Z,au.inj t t']
section
variable{X:Cx}{M':List (Addr×Obj)}{σ:St}{H:Hp}{s:Shared}{a:Addr}{xs ys:List V}
theorem d8.of{K:PySem.W.Frag}(h:H a=B' (.lst xs)):d8 K H a xs:=.inl<|.inl h
theorem fL.of{K:PySem.W.Frag}(h:H a=B' (.tup xs)):fL K H a xs:=.inl<|.inl h
theorem Inv.list(I:Inv X M' σ H s)(h:d8 X.K H a xs):∃J:List Value,au xs J/\PlainL s.heap a J.toArray/\xs.length<=sizeLine:=by
 rcases h with h|⟨o,J,n,g,K,hd,w,k,r⟩
 ·obtain⟨z,J,n,r,e⟩:=h.ok I.hok;exact#[J,r,#[_,n,e,rfl,rfl,rfl],z]
 ·refine#[J.toList,r,#[o,n,I.lj a o g,K,hd,by simpa using w],?_];have e:=r.length;simp only[Xq]at e
  lia
theorem Inv.tuple(I:Inv X M' σ H s)(h:fL X.K H a xs):∃J:List Value,au xs J/\IsTup s.heap a J.toArray/\xs.length<=sizeLine:=by
 rcases h with h|⟨o,J,n,g,K,w,k,r⟩
 ·obtain⟨z,J,r,p⟩:=h.ok I.hok;exact#[J,r,p.is,z]
 ·refine#[J.toList,r,#[o,I.lj a o g,K,n,by simpa using w],?_];have e:=r.length;simp only[Xq]at e
  lia
theorem Inv.Cd(I:Inv X M' σ H s)(h:d8 X.K H a xs)(h':d8 X.K H a ys):xs=ys:=by
 obtain⟨J,r,⟨o,n,e,_,_,d⟩,_⟩:=I.list h;obtain⟨its',Z,⟨g,y,K,_,_,d'⟩,_⟩:=I.list h';rw[e]at K;cases K;rw[d]at d';injection d' with d1 _;have:J=its':=by simpa using Zj Array.toList d1
 subst this;exact r.inj Z
theorem Inv.zX(I:Inv X M' σ H s)(h:fL X.K H a xs)(h':fL X.K H a ys):xs=ys:=by
 obtain⟨J,r,⟨o,e,_,n,d⟩,_⟩:=I.tuple h;obtain⟨its',Z,⟨g,K,_,y,d'⟩,_⟩:=I.tuple h';rw[e]at K;cases K;rw[d]at d';injection d' with d1 _;have:J=its':=by simpa using Zj Array.toList d1
 subst this;exact r.inj Z
end
abbrev Cx.eI(X:Cx)(E:Value->Shared->Prop):Cx:={X with xe:=E}
theorem Cx.Ok.eI{X:Cx}(ok:X.Ok)(E):(X.eI E).Ok:=
 #[ok.mod,ok.kind,ok.glob,ok.blt,ok.above,ok.inj,ok.has,ok.DY,ok.hd,ok.frames,ok.GQ,ok.Hm,ok.bs,ok.DX,ok.nU,ok.p9,ok.iP,ok.EK]
theorem Cx.Ok.fg{X:Cx}(ok:(X.eI E).Ok):X.Ok:=
 #[ok.mod,ok.kind,ok.glob,ok.blt,ok.above,ok.inj,ok.has,ok.DY,ok.hd,ok.frames,ok.GQ,ok.Hm,ok.bs,ok.DX,ok.nU,ok.p9,ok.iP,ok.EK]
section
variable{X:Cx}{M':List (Addr×Obj)}{σ:St}{H:Hp}{s:Shared}{E:Value->Shared->Prop}
theorem Inv.eI(I:Inv X M' σ H s)(E):Inv (X.eI E) M' σ H s:=#[I.ok.eI E,I.os,I.bare,I.base,I.loc,I.cell,I.free,I.de,I.pin,I.hok,I.len]
theorem Inv.fg(I:Inv (X.eI E) M' σ H s):Inv X M' σ H s:=#[I.ok.fg,I.os,I.bare,I.base,I.loc,I.cell,I.free,I.de,I.pin,I.hok,I.len]
theorem SP.fg(h:SP (X.eI E) M' D f s'):SP X M' D f s':=by
 cases f with
 |next=>obtain⟨a,L,I,q⟩:=h;exact#[a,L,I.fg,q]
 |brk=>obtain⟨a,L,I,q⟩:=h;exact#[a,L,I.fg,q]
 |cont=>obtain⟨a,L,I,q⟩:=h;exact#[a,L,I.fg,q]
 |ret u=>obtain⟨v,a,L,I,r,q⟩:=h;exact#[v,a,L,I.fg,r,q]
end
section
variable{X:Cx}{st:Stmt}{rest:List Stmt}{t u:TS}{e:Expr}{te:TE}{pos:Pos}
def Dw:TS:=λD σ H=>D.nx σ H
def O4(t u:TS):TS:=λD σ H=>t {D with nx:=u D} σ H
theorem Gb:rG X [] Dw:=λ_ _ O H _ I h=>wpAny_execs_nil #[O,H,I,h]
theorem tI(Z:PS X st t)(Y:rG X rest u):rG X (st::rest) (O4 t u):=by
 intro S s O H D I h;refine wpAny_execs_cons<|bS (Z S s O H {D with nx:=u D} I h) λf s1 q=>?_;cases f with
 |next=>obtain⟨a,L,b,q⟩:=q;exact Y S s1 a L D b q
 |ret v=>exact q
 |brk=>exact q
 |cont=>exact q
theorem ye(Z:PS X st t):rG X [st] t:=by
 intro S s O H D I h;refine wpAny_execs_cons<|bS (Z S s O H D I h) λf s1 q=>?_;cases f with
 |next=>exact wpAny_execs_nil q
 |ret v=>exact q
 |brk=>exact q
 |cont=>exact q
def Ds:TS:=λD σ H=>D.bk σ H
def HU:TS:=λD σ H=>D.ct σ H
theorem F8:PS X (.Pass pos) Dw:=λ_ _ O H _ I h=>wpAny_Pass #[O,H,I,h]
theorem CO:PS X (.Break pos) Ds:=λ_ _ O H _ I h=>wpAny_Break #[O,H,I,h]
theorem tE:PS X (.Continue pos) HU:=λ_ _ O H _ I h=>wpAny_Continue #[O,H,I,h]
theorem Inv.quiet{O:St}(I:Inv X M' O H s):interactive X.env=K':=by simp[interactive,I.ok.kind]
def pd(te:TE):TS:=λD σ H=>te σ H λ_ H1=>D.nx σ H1
theorem jI(P:PE X e te)(w:swapsWith e G' pos.line X.env=pure K':=by rfl):PS X (.Expr e pos) (pd te):=by intro S s O H D I h;exact wpAny_Expr_any (bS (P S s O H _ I h) λv s1#[x,j,g,F,l]=>#[O,j,g,l]) I.quiet w
def Lc(te:TE):TS:=λD σ H=>te σ H D.rt
theorem mH(P:PE X e te):PS X (.Return (B' e) pos) (Lc te):=by intro S s O H D I h;exact wpAny_Return_some<|bS (P S s O H _ I h) λv s1#[x,j,g,F,l]=>#[x,O,j,g,F,l]
def HY:TS:=λD _ H=>D.rt .bX H
theorem F9:PS X (.Return G' pos) HY:=λ_ _ O H _ I h=>wpAny_Return_none #[.bX,O,H,I,rfl,h]
def OZ(c:TT)(t u:TS):TS:=λD O H=>c O H λb j=>if b=J' then t D O j else u D O j
theorem Oh(K:PT X c tc)(ha:rG X a t)(M:rG X b u):PS X (.If c a b pos) (OZ tc t u):=by
 intro S s O H D I h;refine wpAny_If<|bS (K S s O H _ I h) λd s1#[j,g,l]=>?_;cases d with
 |true=>exact ha S s1 O j D g l
 |false=>exact M S s1 O j D g l
end
abbrev TG:=V->St->Hp->(St->Hp->Prop)->Prop
abbrev Ag:=List V->St->Hp->(St->Hp->Prop)->Prop
def PG(X:Cx)(b:Expr)(t:TG):Prop:=
 ∀(S:List (Addr×Obj))(s:Shared)(O:St)(H:Hp)(v:V)(u:Value)(Q:St->Hp->Prop),Inv X S O H s->RelV v u->t v O H Q->
  wpAny (model X.prog X.w) X.A (assign b X.env u) (λ_ l=>∃a L,Inv X S a L l/\Q a L) X.xe s
def LC(X:Cx)(ts:List Expr)(t:Ag):Prop:=
 ∀(S:List (Addr×Obj))(s:Shared)(O:St)(H:Hp)(c:List V)(i:List Value)(Q:St->Hp->Prop),Inv X S O H s->au c i->t c O H Q->
  wpAny (model X.prog X.w) X.A (assignInOrder ((assignEach ts X.env).map (·.2)) i) (λ_ l=>∃a L,Inv X S a L l/\Q a L) X.xe s
abbrev Ip:=V->V->V->Hp->(Hp->Prop)->Prop
def Im(X:Cx)(t:Ip):Prop:=
 ∀(S:List (Addr×Obj))(s:Shared)(O:St)(H:Hp)(o i v:V)(z a u:Value)(Q:Hp->Prop),Inv X S O H s->RelV o z->RelV i a->RelV v u->t o i v H Q->
  wpAny (model X.prog X.w) X.A (setItem z a u) (λ_ l=>∃L,Inv X S O L l/\Q L) X.xe s
abbrev PK:=V->V->Hp->VK->Prop
section
variable{X:Cx}{pos:Pos}
def eX(i:Nat):TG:=λv σ H Q=>Q (σ.set i<|B' v) H
theorem FY{i:Nat}{x:Str}(o:X.N.Nodup)(hi:X.N[i]?=B' x)(L:Loc X.env.scope x)(hf:X.fn x=J'\/X.env.scope.names.lookup x=B' .local:=by first|exact .inl rfl|exact .inr rfl|assumption):PG X (.Name x pos) (eX i):=by intro S s O H v u Q I r h;exact wpAny_assign_Name<|jO I o hi L r (λl b=>#[_,H,b,h]) hf
def Jd:Ag:=λvs σ H Q=>vs=[]/\Q σ H
def By(t:TG)(u:Ag):Ag:=λc O H Q=>∃v r,c=v::r/\t v O H λa L=>u r a L Q
theorem F0:LC X [] Jd:=by intro S s O H c i Q I r h;obtain⟨e,h⟩:=h;subst e;cases r;exact assignInOrder_nil #[O,H,I,h]
theorem CH{e:Expr}{es:List Expr}{t:TG}{u:Ag}(Z:PG X e t)(Y:LC X es u)
  (w:(assignEach (e::es) X.env).map (·.2)=assign e X.env::(assignEach es X.env).map (·.2):=by rfl):LC X (e::es) (By t u):=by
 intro S s O H c i Q I r h;obtain⟨v,a,B,h⟩:=h;subst B;cases r with
 |cons r rr=>rw[w];refine assignInOrder_cons<|bS (Z S s O H _ _ _ I r h) λ_ s1#[K,j,g,l]=>?_;exact Y S s1 K j _ _ Q g rr l
def Q8(K:PySem.W.Frag)(n:Nat)(t:Ag):TG:=λv O H Q=>∃a xs,v= .ref a/\fL K H a xs/\xs.length=n/\t xs O H Q
theorem Kr{es:List Expr}{k:Nat}{t:Ag}{n:Nat}(K:X.calm=J')(h:LC X es t)
  (P:(assignEach es X.env).length=n:=by rfl) (q:(assignEach es X.env).findIdx? (·.1)=G':=by rfl):PG X (.Tuple es k pos) (Q8 X.K n t):=by
 intro S s O H v u Q I r y;obtain⟨a,xs,B,F,W,y⟩:=y;subst B;cases r;obtain⟨J,rv,ht,hz⟩:=I.tuple F;refine assign_Tuple_tuple (I.ok.hd K) ht (by simp[P,<-W,rv.length]) q λh' L=>?_
 have g:=I.kept (t':=s.toks) λb o e=>L b o (XB<|Xg e) e
 exact h S _ O H xs _ Q g (by simpa using rv) y
def Je(k b:TE)(t:Ip):TG:=λv O H Q=>k O H λo j=>b O j λi n=>t o i v n λZ=>Q O Z
theorem CG{o i:Expr}{k b:TE}{t:Ip}(B:PE X o k)(hi:PE X i b)(w:Im X t)
  (ha:∀v,assign (.Subscript o i pos) X.env v=(do
   let z<-holding [v] (eval o X.env)
   let a<-holding [v,z] (eval i X.env)
   standAt pos
   holding [v,z,a] (setItem z a v)
   release [v,z,a] []):=by intro _;rfl):PG X (.Subscript o i pos) (Je k b t):=by
 intro S s O H v u Q I r h;rw[ha];refine W1<|Zz<|bS (B S s O H _ I h) λz s1#[x,j,g,F,l]=>?_;refine W1<|Zz<|bS (hi S s1 O j _ g l) λa s2#[y,n,Y,r2,K]=>?_;refine W1<|ZJ<|W1<|Zz<|bS (w S s2 O n x y v z a u _ Y F r2 r K) λ_ s3#[Z,I3,L]=>?_;exact wpAny_release #[O,Z,I3,L]
def nu(te:TE)(g:TG):TS:=λD σ H=>te σ H λx H1=>g x σ H1 D.nx
theorem CN{tg e:Expr}{a:TE}{g:TG}(P:PE X e a)(hg:PG X tg g)(w:swapsWithSole [tg] e pos.line X.env=pure K':=by rfl)(y:swappedStores [tg] e X.env=pure G':=by rfl)
  (Z:(assignEach [tg] X.env).map (·.2)=[assign tg X.env]:=by rfl):PS X (.Assign [tg] e pos) (nu a g):=by
 intro S s O H D I h;refine wpAny_Assign_stores (bS (P S s O H _ I h) λv s1#[x,j,I1,F,l]=>?_) w y;rw[Z];exact bS (hg S s1 O j x v _ I1 F l) λ_ t q=>q
theorem qL{i:Nat}{x:Str}{e:Expr}{a:TE}{E:Pos}(o:X.N.Nodup)(hi:X.N[i]?=B' x)(L:Loc X.env.scope x)(P:PE X e a)(w:swapsWith e (B'<|.Name x E) pos.line X.env=pure K':=by rfl)(r:X.fn x=J'\/X.env.scope.names.lookup x=B' .local:=by first|exact .inl rfl|exact .inr rfl|assumption):
  PS X (.Assign [.Name x E] e pos) (nu a<|eX i):=by
 intro S s O H D I h;refine wpAny_Assign_Name (bS (P S s O H _ I h) λv s1#[y,j,g,F,l]=>?_) w;exact jO g o hi L F (λt Y=>#[_,j,Y,l]) r
end
structure It where
 go:Nat->Hp->Prop
 yld:Nat->Hp->V->Hp->Prop
 stop:Nat->Hp->Prop
def iy(X:Cx)(S:List (Addr×Obj))(H:Hp)(b:Addr):Prop:=
 H b=G'/\b≠X.env.locals/\b∉X.fs/\(b∈X.ex\/X.s₀.heap.objs.size<=b)/\(∀x c,X.env.cells.lookup x=B' c->c≠b)/\∀p∈X.pn++S,p.1≠b
theorem Inv.nN{O:St}{b:Addr}(I:Inv X M' O H s)(M:s.heap.objs.size<=b)(P:H' b=G'):iy X M' H' b:=by
 refine#[P,Y3<|Xr I.lt M,I.Se M,.inr<|Xh I.sz M,λx c e z=>?_,λp J z=>?_]
 ·obtain⟨v,q⟩:=I.cell x c e;exact absurd (Xr q.lt<|by rw[z];exact M)<|YY _
 ·exact absurd (Xr (Xg (I.pin p J).1)<|by rw[z];exact M)<|YY _
structure Turn(P:Program)(w:World)(K:PySem.W.Frag)(tg:Expr)(J:It)(fp:List Addr)(it:Addr)(tn:Nat->Heap->Prop):Prop where
 mem:it∈fp
 obj:∀i h,tn i h->∀b∈fp,∃o,h.get? b=B' o/\∀v,o.data≠ .cell v
 keep:∀i h h',tn i h->(∀b∈fp,∀o,h.get? b=B' o->h'.get? b=B' o)->tn i h'
 item:∀(X:Cx),X.prog=P->X.w=w->X.K=K->X.calm=J'->∀(i:Nat)(M':List (Addr×Obj))(s:Shared)(σ:St)(H:Hp)(E:Value->Shared->Prop),Inv X M' σ H s->(∀b∈fp,iy X M' H b)->tn i s.heap->J.go i H->
  wpAny (model P w) X.A (pyNext<|.ref it) (λr s1=>∃u,r=B' u/\
   wpAny (model P w) X.A (letOwnedTupleGo tg (.ref it) u) (λ_ s2=>∃x H',Inv X M' σ H' s2/\RelV x u/\J.yld i H x H'/\tn (i+1) s2.heap/\∀b∈fp,H' b=G') E s1) E s
 done:∀(X:Cx),X.prog=P->X.w=w->X.K=K->X.calm=J'->∀(i:Nat)(M':List (Addr×Obj))(s:Shared)(σ:St)(H:Hp)(E:Value->Shared->Prop),Inv X M' σ H s->(∀b∈fp,iy X M' H b)->tn i s.heap->J.stop i H->
  wpAny (model P w) X.A (pyNext<|.ref it) (λr s1=>r=G'/\Inv X M' σ H s1) E s
 self:∀(A:Around)(i:Nat)(s:Shared)(Q:Value->Shared->Prop)(E:Value->Shared->Prop),tn i s.heap->Q (.ref it) s->wpAny (model P w) A (pyIter<|.ref it) Q E s
abbrev TI:=St->Hp->(It->Hp->Prop)->Prop
def QF(X:Cx)(S:List (Addr×Obj))(O:St)(tg:Expr)(R:It->Hp->Prop)(A:Value)(t:Shared):Prop:=
 ∃(it:Addr)(k:List Addr)(B:Nat->Heap->Prop)(J:It)(L:Hp),A= .ref it/\Inv X S O L t/\Turn X.prog X.w X.K tg J k it B/\B 0 t.heap/\(∀b∈k,iy X S L b)/\R J L
def PI(X:Cx)(tg p:Expr)(b:TI):Prop:=
 ∀(S:List (Addr×Obj))(s:Shared)(O:St)(H:Hp)(R:It->Hp->Prop),Inv X S O H s->b O H R->
  wpAny (model X.prog X.w) X.A (eval p X.env) (λv s1=>wpAny (model X.prog X.w) X.A (pyIter v) (QF X S O tg R) X.xe s1) X.xe s
theorem sy(B:s.heap.get? it=B' o)(K:o.cls= .type n)(hd:o.data= .fields vs)
  (P:["enumerate","zip","dict_itemiterator","dict_reverseitemiterator","odict_iterator","itertools.zip_longest","itertools.pairwise"].contains n=K') (H:Q () s):wpAny M A (letOwnedTupleGo tg (.ref it) u) Q E s:=by
 cases tg<;>first
  |exact W4 H
  |(cases u<;>first
    |exact W4 H
    |(refine W1<|wpAny_load B ?_;rw[K,hd];show wpAny M A (if (["enumerate","zip","dict_itemiterator","dict_reverseitemiterator","odict_iterator","itertools.zip_longest","itertools.pairwise"].contains n&&vs[0]?==B' (rawInt _))=J' then _ else _) Q E s;rw[Zm (by intro h;rw[P,Bool.false_and]at h;cases h)];exact W4 H))
def Py(K:PySem.W.Frag)(a:Addr):It:=
 #[λi H=>∃xs x,d8 K H a xs/\xs[i]?=B' x,λi H x L=>L=H/\∀xs,d8 K H a xs->xs[i]?=B' x,λi H=>∃xs,d8 K H a xs/\xs.length<=i]
def QC(K:PySem.W.Frag)(a:Addr):It:=
 #[λi H=>∃xs x,fL K H a xs/\xs[i]?=B' x,λi H x L=>L=H/\∀xs,fL K H a xs->xs[i]?=B' x,λi H=>∃xs,fL K H a xs/\xs.length<=i]
def Pz(lo:Int)(n:Nat):It:=#[λi _=>i<n,λi H x L=>L=H/\x= .int (lo+i),λi _=>n<=i]
theorem zY{K:PySem.W.Frag}(a it):Turn P w K tg (Py K a) [it] it (λi h=>h.IsListIter it a i) where
 mem:=by simp
 obj:=λi h st b M=>by
  have e:b=it:=by simpa using M
  subst e;obtain⟨o,e,c,d⟩:=st;exact#[o,e,λv z=>by rw[d]at z;cases z]
 keep:=λi h h' st k=>st.at λo e=>k it (by simp) o e
 item:=by
  intro X l y hK hc i S s O H E I r st j;subst l y hK;obtain⟨xs,x,F,L⟩:=j;obtain⟨J,rv,p,hz⟩:=I.list F;obtain⟨u,hu,ru⟩:=rv.get L;obtain⟨B,Y,Q,A,f4,f5⟩:=r it (by simp);refine wpAny_pyNext_list_item st p.isList (by simpa using hu) λh' q sb=>?_
  have g:=I.turned (t':=s.toks) (λb o M e=>(sb.2 b M).trans e) B Y A f4 f5;obtain⟨o,e,c,d⟩:=id q;exact#[u,rfl,sy e c d (by decide) #[x,H,g,ru,#[rfl,λys m=>by rw[I.Cd m F];exact L],q,λb M=>(r b M).1]]
 done:=by intro X l y hK hc i S s O H E I r st j;subst l y hK;obtain⟨xs,F,L⟩:=j;obtain⟨J,rv,p,hz⟩:=I.list F;obtain⟨B,Y,Q,A,f4,f5⟩:=r it (by simp);have W:=rv.length;exact wpAny_pyNext_list_end (I.ok.hd hc) st p.isList (by simp;lia) λh' eb=>#[rfl,I.turned eb B Y A f4 f5]
 self:=λ_ _ _ _ _ st h=>wpAny_pyIter_listiter st h
theorem we{K:PySem.W.Frag}(a it):Turn P w K tg (QC K a) [it] it (λi h=>h.IsTupleIter it a i) where
 mem:=by simp
 obj:=λi h st b M=>by
  have e:b=it:=by simpa using M
  subst e;obtain⟨o,e,c,d⟩:=st;exact#[o,e,λv z=>by rw[d]at z;cases z]
 keep:=λi h h' st k=>st.at λo e=>k it (by simp) o e
 item:=by
  intro X l y hK hc i S s O H E I r st j;subst l y hK;obtain⟨xs,x,F,L⟩:=j;obtain⟨J,rv,p,hz⟩:=I.tuple F;obtain⟨u,hu,ru⟩:=rv.get L;obtain⟨B,Y,Q,A,f4,f5⟩:=r it (by simp);refine wpAny_pyNext_tuple_item st (p) (by simpa using hu) λh' q sb=>?_
  have g:=I.turned (t':=s.toks) (λb o M e=>(sb.2 b M).trans e) B Y A f4 f5;obtain⟨o,e,c,d⟩:=id q;exact#[u,rfl,sy e c d (by decide) #[x,H,g,ru,#[rfl,λys m=>by rw[I.zX m F];exact L],q,λb M=>(r b M).1]]
 done:=by intro X l y hK hc i S s O H E I r st j;subst l y hK;obtain⟨xs,F,L⟩:=j;obtain⟨J,rv,p,hz⟩:=I.tuple F;obtain⟨B,Y,Q,A,f4,f5⟩:=r it (by simp);have W:=rv.length;exact wpAny_pyNext_tuple_end (I.ok.hd hc) st (p) (by simp;lia) λh' eb=>#[rfl,I.turned eb B Y A f4 f5]
 self:=λ_ _ _ _ _ st h=>wpAny_pyIter_tupleiter st h
theorem nB{K:PySem.W.Frag}(it)(lo)(n):Turn P w K tg (Pz lo n) [it] it (λi h=>IsRangeIter h it (lo+(i:Nat)*1) ((n:Int)-(i:Nat)) 1) where
 mem:=by simp
 obj:=λi h st b M=>by
  have e:b=it:=by simpa using M
  subst e;exact#[_,st,λv z=>by
   have p:=z;cases p]
 keep:=λi h h' st k=>k it (by simp) _ st
 item:=by
  intro X l y hK hc i S s O H E I r st j;subst l y hK;obtain⟨B,Y,Q,A,m,F⟩:=r it (by simp);have W:=Walks.range (prog:=X.prog) (w:=X.w) (I.ok.hd hc) it lo 1 n;refine W.item i s _ _ j st λv h' tk hv q Z=>?_
  obtain⟨t,rfl⟩:=hv;have g:Inv X S O H {s with heap:=h',toks:=tk}:=I.turned (λb o M e=>Z b o (by simpa using M) e) B Y A m F;refine#[_,rfl,sy q rfl rfl (by decide) #[.int<|lo+i,H,g,#[t,?_],#[rfl,rfl],q,λb M=>(r b M).1]];rw[Int.mul_one]
 done:=by intro X l y hK hc i S s O H E I r st j;subst l y hK;obtain⟨B,Y,Q,A,m,F⟩:=r it (by simp);exact wpAny_pyNext_range_end (I.ok.hd hc) st (by have:n<=i:=j;lia) λh' L=>#[rfl,I.turned L B Y A m F]
 self:=λ_ _ _ _ _ st h=>wpAny_pyIter_rangeiter st h
end L2
namespace L2
open PySem PySem.Spec PyProof.Rows
section
variable{X:Cx}{tg:Expr}
theorem C5{O:St}{lo hi:Int}(I:Inv X M' O H s)(Z: -(2^62)<=lo)(Y:lo<2^62)(h3: -(2^62)<=hi)(Q:hi<2^62)
  (q:R (Pz lo (hi-lo).toNat) H):wpAny (model X.prog X.w) X.A (pyIter<|.ref s.heap.objs.size) (QF X M' O tg R) E {s with heap:=s.heap.push {cls:=.type "range",data:=.fields [.int lo t,.int hi u,.int 1 v].toArray},toks:=tk}:=by
 refine wpAny_pyIter_range (IsRange.new ..) (small_one Z Y h3 Q) ?_;have g:Inv X M' O H {s with heap:=s.heap.push {cls:=.type "range",data:=.fields [.int lo t,.int hi u,.int 1 v].toArray},toks:=tk}:=I.kept λb o e=>W3 _ e
 refine#[(s.heap.push {cls:=.type "range",data:=.fields [.int lo t,.int hi u,.int 1 v].toArray}).objs.size,[(s.heap.push {cls:=.type "range",data:=.fields [.int lo t,.int hi u,.int 1 v].toArray}).objs.size],_,_,H,rfl,
  g.kept λb o e=>W3 _ e,nB _ lo (hi-lo).toNat,?_,λb M=>?_,q]
 ·have B:lo+((0:Nat):Int)*1=lo:=by simp
  have e2:(((hi-lo).toNat:Nat):Int)-((0:Nat):Int)=Builtin.Range.rangeSize lo hi 1:=by rw[rangeSize_one];split<;>lia
  rw[B,e2];exact Xd _ rfl
 ·have e:b=(s.heap.push {cls:=.type "range",data:=.fields [.int lo t,.int hi u,.int 1 v].toArray}).objs.size:=by simpa using M
  subst e;exact g.nN (Xb _)<|g.hok.fresh<|Xb _
def NH(z:TA):TI:=λO H R=>z O H λc H1=>∃j:Int,c=[.int j]/\ -(2^62)<=j/\j<2^62/\R (Pz 0 j.toNat) H1
theorem zM{a:Expr}{z:TA}{p pos:Pos}(hg:Gl X "range")(A:X.mg "range"=G')(ha:PA X [a] z)(w:starEach [a] X.env=[(K',eval a X.env)]:=by rfl):PI X tg (.Call (.Name "range" p) [a] [] pos) (NH z):=by
 intro S s O H R I h;refine Call_<|fQ I hg A boot_range<|Y8 (bS (ha pos S s O H _ I h) λi s1#[c,H1,g,F,l]=>?_) w rfl;obtain⟨j,e,l,K,q⟩:=l;subst e;cases F with
 |cons r Q=>cases Q;obtain⟨t,rfl⟩:=r;exact call_range_1<|C5 g ⋯ ⋯ l K (by simpa using q)
def OY(b:TI)(g:TG)(tb:TS):TS:=λD O H=>b O H λJ j=>∃W:Nat->Nat->St->Hp->Prop,(∃m,W 0 m O j)/\∀i m O H,W i m O H->
 (J.stop i H/\D.nx O H)\/(J.go i H/\∃N:St->Hp->Prop,(∀a L,N a L->∃t,t<m/\W (i+1) t a L)/\∀x L,J.yld i H x L->g x O L λc n=>tb {D with nx:=N,ct:=N,bk:=D.nx} c n)
def mE(k:List Addr)(h:Heap):List (Addr×Obj):=k.filterMap λb=>(h.get? b).map λo=>(b,o)
theorem fR(M:b∈fp)(e:h.get? b=B' o):(b,o)∈mE fp h:=YG.mpr #[b,M,by rw[e];rfl]
theorem zJ(J:p∈mE fp h):p.1∈fp/\h.get? p.1=B' p.2:=by
 obtain⟨b,M,e⟩:=YG.mp J;cases q:h.get? b with
 |none=>rw[q]at e;cases e
 |some o=>rw[q]at e;have K:=Y7 e;subst K;exact#[M,q]
theorem Inv.pinned{O:St}(I:Inv X M' O H s)(r:∀b∈k,iy X M' H b)(B:∀b∈k,∃o,s.heap.get? b=B' o/\∀v,o.data≠ .cell v):Inv X (M'++mE k s.heap) O H s:=
 I.ic λp J=>(Xs.mp J).elim (λz=>I.pin p<|XC _ z) λz=>by obtain⟨M,e⟩:=zJ z;obtain⟨f0,Y,Q,_⟩:=r p.1 M;obtain⟨o,K,d⟩:=B p.1 M;rw[e]at K;cases K;exact#[e,f0,Y,Q,d]
theorem Inv.jS{O:St}(I:Inv X (M'++pl) O H s):Inv X M' O H s:=I.ic λp J=>I.pin p<|XC _<|YE _ J
theorem Kx{p:Expr}{body:List Stmt}{wi:TI}{g:TG}{tb:TS}{pos:Pos}(hp:PassesOwn (model X.prog X.w) X.A X.env X.xe)(K:X.calm=J')(hi:PI X tg p wi)(j:PG X tg g)(M:rG X body tb)
  (w:∀x,foldedSetIterable p X.env x=pure x:=by intro _;rfl):PS X (.For tg p body [] pos) (OY wi g tb):=by
 intro S s O H D I h;refine wpAny_For (bS (hi S s O H _ I h) λv s1 Z=>bS Z λvp t Y=>?_) w;obtain⟨it,k,tn,J,H2,e,I2,T,GO,f2,W,⟨m0,w0⟩,z⟩:=Y;subst e;have qZ:∀{L:Hp},(∀b∈k,L b=G')->∀b∈k,iy X S L b:=λP b M=>#[P b M,(f2 b M).2]
 refine codeAny_forLoop_any (λn l=>∃i a L,Inv X S a L l/\tn i l.heap/\(∀b∈k,L b=G')/\W i n a L) ?_ m0 #[0,O,H2,I2,GO,λb M=>(f2 b M).1,w0];rintro n s3 ⟨i,y,H3,I3,UA,Tv,w3⟩;rcases z i n y H3 w3 with ⟨stop,qn⟩|⟨go,N,hN,step⟩
 ·refine ZE hp<|bS (T.done X rfl rfl rfl K i S s3 y H3 X.xe I3 (qZ Tv) UA stop) λr E#[hr,I4]=>?_;subst hr;exact wpAny_execs_nil #[y,H3,I4,qn]
 ·refine ZE hp<|bS (T.item X rfl rfl rfl K i S s3 y H3 X.xe I3 (qZ Tv) UA go) λr E#[u,hr,Q]=>?_;subst hr;refine ZE hp<|bS Q λ_ s5#[x,H5,I5,r5,y5,SG,Q6]=>?_;have UI:=I5.pinned (qZ Q6)<|T.obj _ _ SG;refine ZE hp<|bS (j _ s5 y H5 x u _ UI r5<|step x H5 y5) λ_ s6#[σ6,H6,I6,q6]=>?_;refine ZE hp<|bS (M _ s6 σ6 H6 _ I6 q6) λf s7 q7=>?_;have B:∀{c:St}{q:Hp},Inv X (S++mE k s5.heap) c q s7->N c q->∃m,m<n/\∃i a L,Inv X S a L s7/\tn i s7.heap/\(∀b∈k,L b=G')/\W i m a L:=λ {c q} F n7=>by obtain⟨m',A,w7⟩:=hN c q n7;refine#[m',A,i+1,c,q,F.jS,T.keep _ _ _ SG λb M o e=>(F.pin (b,o)<|XC _<|XC _<|fR M e).1,λb M=>?_,w7];obtain⟨o,e,d⟩:=T.obj _ _ SG b M;exact(F.pin (b,o)<|XC _<|XC _<|fR M e).2.1
  cases f with
  |next=>obtain⟨c,q,F,n7⟩:=q7;exact B F n7
  |cont=>obtain⟨c,q,F,n7⟩:=q7;exact B F n7
  |brk=>obtain⟨c,q,F,q7⟩:=q7;exact#[c,q,F.jS,q7]
  |ret v=>obtain⟨x7,c,q,F,r7,q7⟩:=q7;exact#[x7,c,q,F.jS,r7,q7]
end
end L2
namespace L2
open PySem PySem.Spec PyProof.Rows
abbrev R2:=V->V->Hp->VK->Prop
def kL(X:Cx)(f:Value->Value->Sem Value)(r:R2):Prop:=
 ∀(S:List (Addr×Obj))(s:Shared)(O:St)(H:Hp)(x y:V)(v u:Value)(Q:VK),Inv X S O H s->RelV x v->RelV y u->r x y H Q->
  wpAny (model X.prog X.w) X.A (f v u) (EP X S O Q) X.xe s
def QI(X:Cx)(f:Value->Sem Value)(r:V->Hp->VK->Prop):Prop:=
 ∀(S:List (Addr×Obj))(s:Shared)(O:St)(H:Hp)(x:V)(v:Value)(Q:VK),Inv X S O H s->RelV x v->r x H Q->
  wpAny (model X.prog X.w) X.A (f v) (EP X S O Q) X.xe s
def dQ(X:Cx)(f:Value)(r:List V->Hp->VK->Prop):Prop:=
 ∀(S:List (Addr×Obj))(s:Shared)(O:St)(H:Hp)(xs:List V)(i:List Value)(Q:VK),Inv X S O H s->au xs i->r xs H Q->
  wpAny (model X.prog X.w) X.A (call f i) (EP X S O Q) X.xe s
def QH(X:Cx)(r:V->Hp->(Bool->Hp->Prop)->Prop):Prop:=
 ∀(S:List (Addr×Obj))(s:Shared)(O:St)(H:Hp)(x:V)(v:Value)(Q:Bool->Hp->Prop),Inv X S O H s->RelV x v->r x H Q->
  wpAny (model X.prog X.w) X.A (truthy v) (TP X S O Q) X.xe s
def Qp(r:R2)(z tb:TE):TE:=λO H Q=>z O H λx j=>tb O j λy n=>r x y n Q
def Ws(r:V->Hp->VK->Prop)(z:TE):TE:=λO H Q=>z O H λx j=>r x j Q
def rI(C:Int->Int->Prop)(g:Int->Int->V):R2:=λx y H Q=>∃i j,x= .int i/\y= .int j/\C i j/\Q (g i j) H
def HN(g:Int->Int->V):R2:=λx y H Q=>∃i j,x= .int i/\y= .int j/\Q (g i j) H
def rU(g:Int->V):V->Hp->VK->Prop:=λx H Q=>∃i,x= .int i/\Q (g i) H
section
variable{X:Cx}{a b:Expr}{ta tb:TE}{pos:Pos}
theorem IE(t:PE X a ta)(M:PE X b tb){O:St}{R:V->V->Hp->Prop}(I:Inv X M' O H s)
  (h:ta O H λx j=>tb O j λy n=>R x y n)  {f:Value->Value->Sem Value}
  (r:∀v u s2 x y n,Inv X M' O n s2->RelV x v->RelV y u->R x y n->wpAny (model X.prog X.w) X.A (f v u) Q X.xe s2):
  wpAny (model X.prog X.w) X.A (eval a X.env) (λv Z=>wpAny (model X.prog X.w) X.A (eval b X.env) (λu q=>wpAny (model X.prog X.w) X.A (f v u) Q X.xe q) X.xe Z) X.xe s:=by
 refine bS (t M' s O H _ I h) λv s1#[x,j,g,F,l]=>?_
 refine bS (M M' s1 O j _ g l) λu s2#[y,n,Y,r2,K]=>?_
 exact r v u s2 x y n Y F r2 K
theorem HJ(B:kL X (binaryOp op) r)(t:PE X a ta)(M:PE X b tb):PE X (.BinOp a op b pos) (Qp r ta tb):=by intro S s O H Q I h;exact wpAny_BinOp<|IE t M I h λv u s2 x y n Y rx c q=>B S s2 O n x y v u Q Y rx c q
theorem Of(B:QI X (unaryOp op) r)(t:PE X a ta):PE X (.UnaryOp op a pos) (Ws r ta):=by intro S s O H Q I h;exact UnaryOp_<|bS (t S s O H _ I h) λv s1#[x,j,g,F,l]=>B S s1 O j x v Q g F l
theorem Qn{g:Int->Int->Int}
  (a:∀(i j:Int)(t u:Tok)(s:Shared)(Q:Value->Shared->Prop)(E:Value->Shared->Prop),C i j->Q (.int (g i j) s.toks) {s with toks:=s.toks+1}->wpAny (model X.prog X.w) X.A (f (.int i t)<|.int j u) Q E s):
  kL X f (rI C λi j=>.int<|g i j):=by
 intro S s O H x y v u Q I M c h;obtain⟨i,j,rfl,rfl,K,q⟩:=h;obtain⟨t,rfl⟩:=M;obtain⟨t',rfl⟩:=c;exact a i j t t' s _ _ K #[.int<|g i j,H,I.tok _,#[_,rfl],q]
theorem N8{g:Int->Int->Int}
  (a:∀(i j:Int)(t u:Tok)(s:Shared)(Q:Value->Shared->Prop)(E:Value->Shared->Prop),Q (.int (g i j) s.toks) {s with toks:=s.toks+1}->wpAny (model X.prog X.w) X.A (f (.int i t)<|.int j u) Q E s):
  kL X f (HN λi j=>.int<|g i j):=by
 intro S s O H x y v u Q I M c h;obtain⟨i,j,rfl,rfl,q⟩:=h;obtain⟨t,rfl⟩:=M;obtain⟨t',rfl⟩:=c;exact a i j t t' s _ _ #[.int<|g i j,H,I.tok _,#[_,rfl],q]
theorem FN{g:Int->Int->Bool}
  (a:∀(i j:Int)(t u:Tok)(s:Shared)(Q:Value->Shared->Prop)(E:Value->Shared->Prop),Q (.bool<|g i j) s->wpAny (model X.prog X.w) X.A (f (.int i t)<|.int j u) Q E s):
  kL X f (HN λi j=>.bl<|g i j):=by
 intro S s O H x y v u Q I M c h;obtain⟨i,j,rfl,rfl,q⟩:=h;obtain⟨t,rfl⟩:=M;obtain⟨t',rfl⟩:=c;exact a i j t t' s _ _ #[.bl<|g i j,H,I,rfl,q]
def Qw(i j:Int):Prop:=0<=j/\j<=1000000/\i.natAbs<2^64
def Ih(i j:Int):Prop:=(-(2^64)<i/\i<2^64)\/(-(2^64)<j/\j<2^64)
theorem Ih.ok(h:Ih i j):IntMulOk i j:=by
 rcases h with ⟨Z,Y⟩|⟨Z,Y⟩
 ·exact .of_left<|intBits_le_64 Z Y
 ·exact .of_right<|intBits_le_64 Z Y
theorem Ke:kL X (binaryOp .Add) (HN λi j=>.int<|i+j):=N8 λ_ _ _ _ _ _ _ q=>add_int q
theorem Kk:kL X (binaryOp .Sub) (HN λi j=>.int<|i-j):=N8 λ_ _ _ _ _ _ _ q=>sub_int q
theorem Ki:kL X (binaryOp .Mult) (rI Ih λi j=>.int<|i*j):=Qn λ_ _ _ _ _ _ _ K q=>mul_int q K.ok
theorem FR:kL X (binaryOp .Mod) (rI (λ_ j=>j≠0) λi j=>.int<|i.fmod j):=Qn λ_ _ _ _ _ _ _ K q=>mod_int' K q
theorem Kj:kL X (binaryOp .Pow) (rI Qw λi j=>.int<|i^j.toNat):=Qn λ_ _ _ _ _ _ _ K q=>pow_int_small K.1 K.2.1 K.2.2 q
theorem Ww{g:Int->Int}
  (a:∀(i:Int)(t:Tok)(s:Shared)(Q:Value->Shared->Prop)(E:Value->Shared->Prop),Q (.int (g i) s.toks) {s with toks:=s.toks+1}->wpAny (model X.prog X.w) X.A (f<|.int i t) Q E s):
  QI X f (rU λi=>.int<|g i):=by
 intro S s O H x v Q I M h;obtain⟨i,rfl,q⟩:=h;obtain⟨t,rfl⟩:=M;exact a i t s _ _ #[.int<|g i,H,I.tok _,#[_,rfl],q]
theorem Li:QI X (unaryOp .USub) (rU λi=>.int<|-i):=Ww λ_ _ _ _ _ q=>neg_int q
end
section
variable{X:Cx}{a b c:Expr}{ta tb:TE}{pos:Pos}
theorem vd{O:St}(I:Inv X M' O H s)(q:Q (.bl k) H)(e:k=k'):EP X M' O Q (.bool k') s:=by subst e;exact#[.bl k,H,I,rfl,q]
theorem Oc:kL X (compareOp .Lt) (HN λi j=>.bl<|decide (i<j)):=FN λ_ _ _ _ _ _ _ q=>lt_int q
theorem Ob:kL X (compareOp .LtE) (HN λi j=>.bl<|decide (i<=j)):=FN λ_ _ _ _ _ _ _ q=>le_int q
theorem Oa:kL X (compareOp .Gt) (HN λi j=>.bl<|decide (j<i)):=FN λ_ _ _ _ _ _ _ q=>gt_int q
theorem N9:kL X (compareOp .GtE) (HN λi j=>.bl<|decide (j<=i)):=FN λ_ _ _ _ _ _ _ q=>ge_int q
theorem Kh:kL X (compareOp .Is) (λx y H Q=>y= .bX/\Q (.bl<|decide (x= .bX)) H):=by
 intro S s O H x y v u Q I M c h;obtain⟨rfl,q⟩:=h;cases c;refine is_none_gen<|vd I q ?_;cases x<;>first
  |(cases M;rfl)
  |(obtain⟨t,rfl⟩:=M;rfl)
theorem FS:kL X (compareOp .IsNot) (λx y H Q=>y= .bX/\Q (.bl<|!decide (x= .bX)) H):=by
 intro S s O H x y v u Q I M c h;obtain⟨rfl,q⟩:=h;cases c;refine isnot_none_gen<|vd I q ?_;cases x<;>first
  |(cases M;rfl)
  |(obtain⟨t,rfl⟩:=M;rfl)
theorem xY(B:kL X (compareOp op) r)(t:PE X a ta)(M:PE X b tb)(A:behindInMarks op b=K'):PE X (.Compare a [op] [b] pos) (Qp r ta tb):=by intro S s O H Q I h;exact wpAny_Compare1 (IE t M I h λv u s2 x y n Y rx c q=>B S s2 O n x y v u Q Y rx c q) A
def O6(t:TE):TT:=λσ H Q=>t σ H λx H'=>∃k,x= .bl k/\Q k H'
theorem Gc(B:kL X (compareOp op) r)(t:PE X a ta)(M:PE X b tb)(A:behindInMarks op b=K'):PT X (.Compare a [op] [b] pos) (O6<|Qp r ta tb):=by
 intro S s O H Q I h;refine wpAny_isTrue_Compare1 (bS (t S s O H _ I h) λv s1#[x,j,g,F,l]=>bS (M S s1 O j _ g l) λu s2#[y,n,Y,r2,K]=>
  bS (B S s2 O n x y v u _ Y F r2 K) λc w#[z,Z,I3,i,k,e,L]=>?_) A
 subst e;cases i;exact ZK #[Z,I3,L]
def Mg(K:PySem.W.Frag)(x:V)(H:Hp)(k:Bool):Prop:=
 match x with
 |.bX=>k=K'
 |.bl b=>k=b
 |.int i=>k=(i != 0)
 |.str y=>y.length<=sizeLine/\k=((y.length:Int) != 0)
 |.II y=>y.size<=sizeLine/\k=((y.size:Int) != 0)
 |.ref p=>(∃xs,d8 K H p xs/\k= !xs.isEmpty)\/(∃xs,fL K H p xs/\k= !xs.isEmpty)\/∃a9,H p=B' (.dK a9)/\k= !a9.isEmpty
 |_=>False
theorem vn{j:List (κ×V)}{c:List (κ×Value)}(r:KV j c):(!c.isEmpty)= !j.isEmpty:=by cases r<;>rfl
theorem md(r:au xs ak):(!ak.toArray.isEmpty)= !xs.isEmpty:=by cases r<;>simp
theorem mh:(sizeLine:Nat)<2^63:=by rw[Zu];decide
theorem f7:QH X (λx H Q=>∃k,Mg X.K x H k/\Q k H):=by
 intro M' s σ H x v Q I rx h;obtain⟨k,e,q⟩:=h;have hs:=Zu;cases x with
 |bX=>cases rx;have e':=e;subst e';exact truthy_none #[H,I,q]
 |bl b=>cases rx;have e':=e;subst e';exact ZK #[H,I,q]
 |int i=>obtain⟨t,rfl⟩:=rx;have e':=e;subst e';exact PySem.P.truthy_int #[H,I,q]
 |str y=>obtain⟨t,rfl⟩:=rx;obtain⟨hy,e'⟩:y.length<=sizeLine/\k=((y.length:Int) != 0):=e;subst e';exact PySem.P.truthy_str ⋯ #[H,I.tok _,q]
 |II y=>obtain⟨t,rfl⟩:=rx;obtain⟨hy,e'⟩:y.size<=sizeLine/\k=((y.size:Int) != 0):=e;subst e';exact PySem.W.truthy_bytes ⋯ #[H,I.tok _,q]
 |ref p=>
  cases rx;have e':=e;rcases e' with ⟨xs,hx,e'⟩|⟨xs,hx,e'⟩|⟨a9,hx,e'⟩
  ·subst e';obtain⟨ak,r,pl,hz⟩:=I.list hx;have hlen:=r.length;exact wpAny_truthy_list pl.isList (by simp only[W6];lia) #[H,I.tok _,by rw[md r];exact q]
  ·subst e';obtain⟨ak,r,pl,hz⟩:=I.tuple hx;have hlen:=r.length;exact truthy_tuple pl (by simp only[W6];lia) #[H,I.tok _,by rw[md r];exact q]
  ·subst e';obtain⟨hz,hS,vs,r,m⟩:a9.length<=sizeLine/\(p==sysModules)=K'/\∃vs,KV a9 vs/\s.heap.DictOf (aR X.prog X.w) p vs:=I.hok p _ hx;have hlen:=Paired.length r;exact wpAny_truthy_dict hS m ⋯ #[H,I.tok _,by rw[vn r];exact q]
 |_=>exact(e).elim
theorem CQ(t:PE X a ta)(P:∀c,isTrue a X.env c=(do let v<-c;standAt a.pos;holding [v] (truthy v))):
  PT X a (λO H Q=>ta O H λx L=>∃k,Mg X.K x L k/\Q k L):=by
 intro S s O H Q I h;exact isTrue_plain (bS (t S s O H _ I h) λv s1#[x,j,g,F,l]=>f7 S s1 O j x v Q g F l)<|P _
theorem vE:kL X (binaryOp .Add) (λx y H Q=>∃i j,x= .str i/\y= .str j/\i.length+j.length<=sizeLine/\Q (.str<|i++j) H):=by intro S s O H x y v u Q I M c h;obtain⟨i,j,rfl,rfl,k,q⟩:=h;obtain⟨t,rfl⟩:=M;obtain⟨t',rfl⟩:=c;exact add_str (λt' tk=>#[.str<|i++j,H,I.tok _,#[_,rfl],q]) k
theorem vals1(r:au [x] us):∃u,us=[u]/\RelV x u:=by
 cases r with
 |cons F r2=>cases r2;exact#[_,rfl,F]
theorem vals2(r:au [x,y] us):∃u p,us=[u,p]/\RelV x u/\RelV y p:=by
 cases r with
 |cons F r2=>
  cases r2 with
  |cons i a=>cases a;exact#[_,_,rfl,F,i]
theorem yT(K:X.calm=J'):dQ X (.builtin "max") (λxs H Q=>∃i j,xs=[.int i,.int j]/\Q (.int<|if j>i then j else i) H):=by
 intro S s O H xs us Q I r h;obtain⟨i,j,rfl,q⟩:=h;obtain⟨u,p,rfl,⟨t,rfl⟩,⟨t',rfl⟩⟩:=vals2 r;refine max_two_ints (I.ok.hd K) λh' tk k=>#[_,H,I.kept k,?_,q]
 by_cases F:j>i
 ·rw[Zn F,Zn F];exact#[_,rfl]
 ·rw[Zm F,Zm F];exact#[_,rfl]
theorem yU(K:X.calm=J'):dQ X (.builtin "min") (λxs H Q=>∃i j,xs=[.int i,.int j]/\Q (.int<|if j<i then j else i) H):=by
 intro S s O H xs us Q I r h;obtain⟨i,j,rfl,q⟩:=h;obtain⟨u,p,rfl,⟨t,rfl⟩,⟨t',rfl⟩⟩:=vals2 r;refine min_two_ints (I.ok.hd K) λh' tk k=>#[_,H,I.kept k,?_,q]
 by_cases F:j<i
 ·rw[Zn F,Zn F];exact#[_,rfl]
 ·rw[Zm F,Zm F];exact#[_,rfl]
def QD(K:PySem.W.Frag)(x:V)(H:Hp)(n:Nat):Prop:=
 match x with
 |.str y=>y.length<=sizeLine/\n=y.length
 |.II y=>y.size<=sizeLine/\n=y.size
 |.ref p=>(∃xs,d8 K H p xs/\n=xs.length)\/∃xs,fL K H p xs/\n=xs.length
 |_=>False
theorem jd:dQ X (.builtin "len") (λxs H Q=>∃x n,xs=[x]/\QD X.K x H n/\Q (.int n) H):=by
 intro M' s σ H xs us Q I r h;obtain⟨x,n,rfl,e,q⟩:=h;obtain⟨u,rfl,rx⟩:=vals1 r;have hs:=Zu;cases x with
 |str y=>obtain⟨t,rfl⟩:=rx;obtain⟨hy,e'⟩:y.length<=sizeLine/\n=y.length:=e;subst e';exact len_str ⋯ #[.int _,H,I.tok _,#[_,rfl],q]
 |II y=>obtain⟨t,rfl⟩:=rx;obtain⟨hy,e'⟩:y.size<=sizeLine/\n=y.size:=e;subst e';exact PySem.W.len_bytes ⋯ #[.int _,H,I.tok _,#[_,rfl],q]
 |ref p=>
  cases rx;have e':=e;rcases e' with ⟨xs,hx,e'⟩|⟨xs,hx,e'⟩
  ·subst e';obtain⟨ak,r',pl,hz⟩:=I.list hx;have hlen:=r'.length;exact Calls.call_len_list pl.isList (by simp only[W6];lia) #[.int xs.length,H,I.tok _,#[_,by simp only[W6];rw[hlen]],q]
  ·subst e';obtain⟨ak,r',pl,hz⟩:=I.tuple hx;have hlen:=r'.length;exact len_tuple pl (by simp only[W6];lia) #[.int xs.length,H,I.tok _,#[_,by simp only[W6];rw[hlen]],q]
 |_=>exact(e).elim
end
end L2
namespace L2
open PySem PySem.Spec PyProof.Rows
structure Ik(h:Heap)(x dx C:Addr)(mA:Str->Option Value):Prop where
 obj:h.get? x=B' (PySem.W.instObj C dx)
 ns:h.Ns1 dx mA
 ne:dx≠x
theorem zE{h:Heap}(n:h.Ns1 dx mA):∃od,h.get? dx=B' od/\∀name,PySem.W.lookIn name od=B' (mA name):=by
 obtain⟨o,es,ep,B,hd,g,_,A⟩:=n;refine#[o,B,λname=>?_];have e:=A name;unfold nsFind findBy at e;rw[<-Array.find?_toList]at e;unfold PySem.W.lookIn;rw[hd];dsimp only;split
 ·rename_i y q;rw[q]at e;exact Zj B' e
 ·rename_i q;rw[q]at e;have a:es.toList.any (·.refKey)=K':=by rw[List.any_eq_false];intro y m;obtain⟨z,t,v⟩:=g y<|Array.mem_toList_iff.mp m;simp[DictEntry.refKey,v]
  have E:¬es.toList.any (·.refKey)=J':=by rw[a];exact X3
  rw[Zm E];exact Zj B' e
theorem Ik.look(I:Ik h x dx C mA):∃od,PySem.W.InstAt h x (PySem.W.instObj C dx) C (B' od)/\∀name,PySem.W.lookIn name od=B' (mA name):=
 let #[od,B,W]:=zE I.ns
 #[od,#[I.obj,rfl,rfl,B],W]
section
variable{P:Program}{w:World}{H:Hp}{h:Heap}{a C dx:Addr}{fs:List (Str×V)}
theorem Ff(hok:dZ P w H h)(e:H a=B' (.ins C dx fs)):∃g,Ik h a dx C g/\(∀f,Ax (fs.lookup f)<|g f)/\PySem.Within g (fs.map (·.1))/\fs.length<=1000/\H dx=B' (.own a):=by obtain⟨d,z,ne,m,g,n,r,q⟩:=(hok a _ e);exact#[g,#[m,n,ne],r,q,z,d]
end
structure Qx(K:PySem.W.Frag)(C:Addr):Prop where
 pg:PySem.W.plainGet K C Str.empty=J'
 hd:PySem.W.hasDictIn K C=J'
 po:PySem.W.plainOver K C=J'
 sa:PySem.W.findIn K (.ref C) "__setattr__"=B' (B'<|.builtin "object.__setattr__")
theorem Qx.get{K:PySem.W.Frag}(c:Qx K C)(f):PySem.W.plainGet K C f=J':=c.pg
section
variable{X:Cx}{M':List (Addr×Obj)}{σ:St}{H:Hp}{s:Shared}{A:Around}{E:Value->Shared->Prop}{Q:Value->Shared->Prop}{c:Value}{b:Bool}
inductive jc(K:PySem.W.Frag)(H:Hp):V->Value->Prop where
 |bX:jc K H .bX (.type "NoneType")
 |bl (x:Bool):jc K H (.bl x) (.type "bool")
 |int (i:Int):jc K H (.int i) (.type "int")
 |str (x:Str):jc K H (.str x) (.type "str")
 |D1 (x:UInt64):jc K H (.D1 x) (.type "float")
 |lst {a:Addr} {xs:List V} (e:H a=B' (.lst xs)):jc K H (.ref a) (.type "list")
 |zj {a:Addr} {o:Obj} {xs:List V} (e:H a=B' (.zj o (.lst xs))):jc K H (.ref a) (.type "list")
 |tup {a:Addr} {xs:List V} (e:H a=B' (.tup xs)):jc K H (.ref a) (.type "tuple")
 |dK {a:Addr} {a9:List (Key×V)} (e:H a=B' (.dK a9)):jc K H (.ref a) (.type "dict")
 |dT {a:Addr} {a9:List (List Key×V)} (e:H a=B' (.dT a9)):jc K H (.ref a) (.type "dict")
 |ins {a C dx:Addr} {fs:List (Str×V)} (e:H a=B' (.ins C dx fs)) (cl:Qx K C) (ha:PySem.W.findIn K (.ref C) "__class__"=B' (B' (.builtin "object.__class__")))
   (hn:PySem.W.specialIn K (.builtin "object.__class__") "__get__"=B' (B' (.builtin "getset_descriptor.__get__"))) (Uj:PySem.W.takesIn K (.builtin "object.__class__")=B' J')
   (hm:PySem.W.mroIn K C (.type "object")=B' J'):jc K H (.ref a) (.ref C)
theorem zu(I:Inv X M' σ H s)(M:RelV x u)(ty:jc X.K H x t)(e:PySem.W.kitOne X.K t c=B' b)(h:∀tk,Q (.bool b) {s with toks:=tk}):
  wpAny (model X.prog X.w) A (call (.builtin "isinstance") [u,c]) Q E s:=by
 cases ty with
 |bX=>cases (M);exact Ze PySem.W.kitx_none I.lj True.intro e (λz=>nomatch z) h
 |bl y=>cases (M);exact Ze PySem.W.kitx_bool I.lj True.intro e (λz=>nomatch z) h
 |int i=>obtain⟨t,q⟩:=(M);cases q;exact Ze PySem.W.kitx_int I.lj True.intro e (λz=>nomatch z) h
 |str y=>obtain⟨t,q⟩:=(M);cases q;exact Ze PySem.W.kitx_str I.lj True.intro e (λz=>nomatch z) h
 |D1 y=>obtain⟨t,q⟩:=(M);cases q;exact Ze PySem.W.kitx_float I.lj True.intro e (λz=>nomatch z) h
 |@lst a xs K=>cases (M);obtain⟨_,_,n,_,Z⟩:=(I.hok a _ K);exact Ze PySem.W.kitx_list I.lj #[_,Z,rfl] e (λz=>nomatch z) h
 |@zj a m xs K=>cases (M);obtain⟨_,_,_,n,_,Z⟩:=(I.hok a _ K);exact Ze PySem.W.kitx_list I.lj #[_,Z,rfl] e (λz=>nomatch z) h
 |@tup a xs K=>cases (M);obtain⟨_,_,_,p⟩:=(I.hok a _ K);obtain⟨o,Z,Y,_⟩:=p;exact Ze PySem.W.kitx_tuple I.lj #[o,Z,Y] e (λz=>nomatch z) h
 |@dK a j K=>cases (M);obtain⟨_,_,vs,_,p⟩:=(I.hok a _ K);obtain⟨o,es,ep,Z,Y,_⟩:=p;exact Ze PySem.W.kitx_dict I.lj #[o,Z,Y.1] e (λz=>nomatch z) h
 |@dT a j K=>cases (M);obtain⟨_,_,xs,_,o,es,ep,Z,Y,_⟩:=(I.hok a _ K);exact Ze PySem.W.kitx_dict I.lj #[o,Z,Y.1] e (λz=>nomatch z) h
 |@ins a C l fs K cl ha P k hm=>cases (M);obtain⟨g,O,_⟩:=Ff I.hok K;obtain⟨od,J,_⟩:=O.look;exact Ze (PySem.W.kitx_own (cl.get _) cl.hd ha P k hm) I.lj J e (λz=>nomatch z) h
end
end L2
namespace L2
open PySem PySem.Spec PyProof.Rows
structure jb(k:Nat)(A:Around):Prop where
 hd:A.handled=G'
 dp:A.depth+3*k+5<recursionLimit
 un:A.units+16*k+200<cLine
theorem jb.deeper(r:jb (k+1) A)(env):jb k (A.deeper env):=
 #[r.hd,by have:=r.dp;show A.depth+1+3*k+5<_;lia,by have:=r.un;show A.units+3+16*k+200<_;lia]
theorem jb.depth(r:jb k A):A.depth<recursionLimit:=by have:=r.dp;lia
def La:TA:=λ_ H Q=>Q [] H
def Du(z:TE)(a:TA):TA:=λO H Q=>z O H λx j=>a O j λxs n=>Q (x::xs) n
section
variable{X:Cx}{e:Expr}{es:List Expr}{te:TE}{t:TA}{pos:Pos}
theorem dN:PA X [] La:=λ_ _ _ _ H Q I h=>Calls.spliced_nil #[[],H,I,.nil,h]
theorem bf(ha:PE X e te)(hr:PA X es t)(w:starEach (e::es) X.env=(K',eval e X.env)::starEach es X.env:=by rfl):PA X (e::es) (Du te t):=by intro pos S s O H Q I h;rw[w];refine Calls.spliced_cons<|bS (ha S s O H _ I h) λu s1#[x,j,g,F,l]=>?_;exact bS (hr pos S s1 O j _ g l) λi s2#[xs,n,Y,r2,K]=>#[x::xs,n,Y,.cons F r2,K]
def SU(t:TA):TE:=λO H Q=>t O H λxs j=>xs.length<=sizeLine/\∀p,j p=G'->Q (.ref p) (upd j p<|.tup xs)
def SN(t:TA):TE:=λO H Q=>t O H λxs j=>xs.length<=sizeLine/\∀p,j p=G'->Q (.ref p) (upd j p<|.lst xs)
theorem Kq{m}(h:PA X es t):PE X (.Tuple es m pos) (SU t):=by intro S s O H Q I F;refine wpAny_Tuple_spliced<|bS (h pos S s O H _ I F) λi s1#[xs,j,g,r,z,q]=>#[by rw[<-r.length];exact z,?_];have hf:=g.hok.fresh<|Xb _;refine#[.ref s1.heap.objs.size,upd j s1.heap.objs.size<|.tup xs,g.laid (λb u e=>W3 _ e) (Xb _) ?_,rfl,q _ hf];exact#[z,i,r,#[_,Xd _ rfl,rfl,_,rfl,rfl,rfl]]
theorem CC(h:PA X es t):PE X (.List es pos) (SN t):=by intro S s O H Q I F;refine wpAny_List_spliced<|bS (h pos S s O H _ I F) λi s1#[xs,j,g,r,z,q]=>#[by rw[<-r.length];exact z,?_];have hf:=g.hok.fresh<|Xb _;refine#[.ref s1.heap.objs.size,upd j s1.heap.objs.size<|.lst xs,g.laid (λb u e=>W3 _ e) (Xb _) ?_,rfl,q _ hf];exact#[z,i,0,r,Xd _ rfl]
end
abbrev Sp:=List V->Hp->VK->XK->Prop
abbrev nK:=List Env->Hp->Shared->XK->Value->Shared->Prop
structure Ea(P:Program)(w:World)(K:PySem.W.Frag)(mg:Str->Option Value)(base:Heap)(A:Around)(outer:List Env)(s:Shared)(H:Hp):Prop where
 frames:A.frames=B' outer
 mod:Mod K mg base
 bs:∀b o,base.get? b=B' o->s.heap.get? b=B' o/\H b=G'
 DX:base.objs.size<=s.heap.objs.size
 iP:s.heap.FunFrames base outer
 EK:∀b∈fH outer,H b=G'
 hok:dZ P w H s.heap
 bare:AllBare s.gens
def CE(outer:List Env)(P:Program)(w:World)(H:Hp)(s:Shared)(Q:VK)(u:Value)(l:Shared):Prop:=
 ∃v L,l.os=s.os/\AllBare l.gens/\Un (fH outer) [] H L s.heap l.heap/\dZ P w L l.heap/\RelV v u/\Q v L
def CR(CX:nK)(outer:List Env)(P:Program)(w:World)(H:Hp)(s:Shared)(Q:VK)(E:XK)(r:Result)(s':Shared):Prop:=
 match r with
 |.ok (.ret u)=>CE outer P w H s Q u s'
 |.ok _=>False
 |.error e=>CX outer H s E e s'
structure jV(P:Program)(w:World)(K:PySem.W.Frag)(mg:Str->Option Value)(base:Heap)(CX:nK)(k:Nat)(f:Addr)(fd:FuncData)(ps:List Str)(sp:Sp):Prop where
 len:∀vs H Q E,sp vs H Q E->vs.length=ps.length
 run:∀(A:Around)(outer:List Env)(s:Shared)(H:Hp)(args:Args)(us:List Value)(vs:List V)(Q:VK)(E:XK),jb k A->Ea P w K mg base A outer s H->BindsTo s fd args (ps.zip us)->au vs us->sp vs H Q E->
  codeAny (model P w) A (.call (.ref f) args) (CR CX outer P w H s Q E) s
theorem jV.imp{K:PySem.W.Frag}(F:jV P w K mg base CX k f fd ps sp)
  (h:∀c H Q E,Ux c H Q E->sp c H Q E):jV P w K mg base CX k f fd ps Ux:=
 #[λc H Q E q=>F.len c H Q E<|h _ _ _ _ q,λA outer s H args i c Q E I he M n hs=>F.run A outer s H args i c Q E I he M n<|h _ _ _ _ hs]
section
variable{X:Cx}{M':List (Addr×Obj)}{σ:St}{H:Hp}{s s':Shared}
theorem Inv.gG(I:Inv X M' σ H s):Ea X.prog X.w X.K X.mg X.base X.A X.stack s H:=
 #[I.ok.frames,I.ok.mod,I.bs,Xh I.ok.DX I.sz,I.stack,I.q9,I.hok,I.bare]
theorem Inv.after(I:Inv X M' σ H s)(h:CE X.stack X.prog X.w H s Q u s'):EP X M' σ Q u s':=by obtain⟨v,L,os,bare,un,hok,r,q⟩:=h;obtain⟨y,g,d,t,a⟩:=s';obtain rfl:a=s.os:=os;exact#[v,L,I.call un hok bare λb z=>absurd z<|by simp,r,q]
end
def OX(sp:Sp)(a:List V)(E:XK)(t:TA):TE:=λO H Q=>t O H λc j=>sp (c++a) j Q E
def Binds(K:PySem.W.Frag)(J:FuncData)(ps:List Str)(ds:List Value):Prop:=
 ∀(s:Shared)(i:List Value),K.In s.heap->(i++ds).length=ps.length->BindsTo s J #[i,[]] (ps.zip<|i++ds)
theorem Binds.all{K:PySem.W.Frag}(h:∀i:List Value,i.length=ps.length->bindArgs fd #[i,[]]=pure (ps.zip i)):Binds K fd ps []:=λs i _ W=>by rw[XO]at W ⊢;exact .of_eq<|h i W
def uL(CX:nK)(X:Cx)(E:XK):Prop:=∀(S:List (Addr×Obj))(O:St)(H:Hp)(s:Shared)(e:Value)(l:Shared),Inv X S O H s->CX X.stack H s E e l->X.xe e l
section
variable{X:Cx}{CX:nK}{k:Nat}{f:Addr}{fd:FuncData}{ps:List Str}{sp:Sp}{u7:List V}{ds:List Value}{E:XK}{x:Str}{p pos:Pos}{e:Expr}{es:List Expr}{t:TA}
theorem KM{O:St}(F:jV X.prog X.w X.K X.mg X.base CX k f fd ps sp)(hr:jb k X.A)(M:Binds X.K fd ps ds)(hd:au u7 ds)(L:uL CX X E)
  (I:Inv X M' O H s) (r:au vs us) (h:sp (vs++u7) H Q E):wpAny (model X.prog X.w) X.A (call (.ref f) us) (EP X M' O Q) X.xe s:=by
 have r2:=r.append hd;have W:(us++ds).length=ps.length:=by rw[<-r2.length];exact F.len _ _ _ _ h
 refine wpAny_call<|codeAny_mono (F.run X.A X.stack s H #[us,[]] (us++ds) (vs++u7) Q E hr I.gG (M s us I.lj W) r2 h) λr l hq=>?_;cases r with
 |error e=>exact L M' O H s e l I hq
 |ok Z=>
  cases Z with
  |ret u=>exact I.after hq
  |next=>exact False.elim hq
  |brk=>exact False.elim hq
  |cont=>exact False.elim hq
theorem xX(F:jV X.prog X.w X.K X.mg X.base CX k f fd ps sp)(hr:jb k X.A)(hg:Gl X x)(A:X.mg x=B' (.ref f))(g:PySem.W.keepIn X.K (.ref f)=J')(M:Binds X.K fd ps ds)(hd:au u7 ds)(L:uL CX X E)
  (ha:PA X (e::es) t) (y:(x==("__debug__":Str))=K':=by decide) (P:starEach (e::es) X.env=(K',eval e X.env)::starEach es X.env:=by rfl) (J:(backTo pos<|starEach es X.env).any (·.1)=K':=by rfl):
  PE X (.Call (.Name x p) (e::es) [] pos) (OX sp u7 E t):=by
 intro S s O H Q I h;refine Zv<|jy I hg A ?_ y;refine PySem.W.callWith_K I.ok.mod.R6 g (bS (ha pos S s O H _ I h) λi s1#[c,j,I1,r,q]=>#[I1.lj,?_]) P J;exact KM F hr M hd L I1 r q
end
structure fJ(N P:List Str)(sc:Scope):Prop where
 kind:sc.kind= .function
 co:sc.isCoroutine=K'
 gen:sc.isGenerator=K'
 nd:N.Nodup
 pre:N.take P.length=P
 par:∀x∈P,sc.names.lookup x=B' .local\/sc.names.lookup x=B' .cell
 J5:∀y∈sc.names,y.2≠ .free
theorem oz{a:Str->Option NameKind}:∀{b:List (Str×Value)}{m:Str->Option Value},(∀v,(x,v)∉b)->bindL a b m x=m x
 |[],_,_=>rfl
 |(n,v)::r,m,h=>by
  unfold bindL;rw[oz λw y=>h w<|W9 _ y];split
  ·have:x≠n:=by rintro rfl;exact h v Xc
   simp[this]
  ·rfl
theorem ou{a:Str->Option NameKind}:∀{b:List (Str×Value)}{m:Str->Option Value},(∀v,(x,v)∉b)->bindC a b m x=m x
 |[],_,_=>rfl
 |(n,v)::r,m,h=>by
  unfold bindC;rw[ou λw y=>h w<|W9 _ y];split
  ·rfl
  ·have:x≠n:=by rintro rfl;exact h v Xc
   simp[this]
theorem oy{a:Str->Option NameKind}:∀{P:List Str}{c:List Value}{i:Nat}{m:Str->Option Value},P.Nodup->P[i]?=B' x->c[i]?=B' v->a x=B' .local->
  bindL a (P.zip c) m x=B' v
 |[],_,_,_,_,h,_,_=>by simp at h
 |_::_,[],_,_,_,_,h,_=>by simp at h
 |p::P,w::c,0,m,nd,Z,Y,g=>by simp at Z Y;subst Z;subst Y;show bindL a ((p,w)::P.zip c) m p=_;unfold bindL;rw[oz λv n=>(YL.mp nd).1 (YM n).1,Zn g];simp
 |p::P,w::c,i+1,m,nd,Z,Y,g=>by unfold bindL;exact oy (YL.mp nd).2 (by simpa using Z) (by simpa using Y) g
theorem ot{a:Str->Option NameKind}:∀{P:List Str}{c:List Value}{i:Nat}{m:Str->Option Value},P.Nodup->P[i]?=B' x->c[i]?=B' v->a x≠B' .local->
  bindC a (P.zip c) m x=B' v
 |[],_,_,_,_,h,_,_=>by simp at h
 |_::_,[],_,_,_,_,h,_=>by simp at h
 |p::P,w::c,0,m,nd,Z,Y,g=>by simp at Z Y;subst Z;subst Y;show bindC a ((p,w)::P.zip c) m p=_;unfold bindC;rw[ou λv n=>(YL.mp nd).1 (YM n).1,Zm g];simp
 |p::P,w::c,i+1,m,nd,Z,Y,g=>by unfold bindC;exact ot (YL.mp nd).2 (by simpa using Z) (by simpa using Y) g
def start(N:List Str)(c:List V):St:=c.map B'++List.replicate (N.length-c.length) G'
def lM(CX:nK)(P:Program)(w:World)(K:PySem.W.Frag)(mg:Str->Option Value)(base:Heap)(N:List Str)(qual:Str)(scope:Scope)(f:Addr)(cd:Value)(A:Around)(outer:List Env)(s:Shared)(H:Hp)(E:XK):Cx where
 prog:=P
 w:=w
 K:=K
 mg:=mg
 base:=base
 A:=A.deeper (envOfC qual scope s.heap.objs.size f cd)
 N:=N
 s₀:=s
 H₀:=H
 env:=envOfC qual scope s.heap.objs.size f cd
 outer:=outer
 stack:=envOfC qual scope s.heap.objs.size f cd::outer
 ex:=[]
 calm:=J'
 fn:=λ_=>J'
 pn:=[]
 xe:=λe s'=>wpAny (model P w) (A.deeper<|envOfC qual scope s.heap.objs.size f cd) (leaving (envOfC qual scope s.heap.objs.size f cd) e) (λ_ s''=>CX outer H s E e s'') (λe' s''=>CX outer H s E e' s'') s'
theorem rN{a:Scope}(h:a.names.lookup x=B' .cell):∃c,(cellsFrom n a.names []).lookup x=B' c:=by have q:=Zd a.names n []<|.inl h;exact Option.isSome_iff_exists.mp q
theorem zr{K:PySem.W.Frag}
  (S:fJ N ps scope) (hd:A.handled=G') (B:Ea P w K mg base A outer s H) (W:vs.length=ps.length) (r:au vs us)
  (x:InCallC s s.heap.objs.size (bindL (envOfC qual scope s.heap.objs.size f cd).kindOf (ps.zip us) λ_=>G') (cellsFrom (s.heap.objs.size+1) scope.names []) (bindC (envOfC qual scope s.heap.objs.size f cd).kindOf (ps.zip us) λ_=>G') s1):
  Inv (lM CX P w K mg base N qual scope f cd A outer s H E) [] (start N vs) H s1:=by
 have iD:ps.length<=N.length:=by have:=Zj List.length S.pre;rw[YA]at this;lia
 obtain⟨Z,tk,rfl,g⟩:=x.done;have O:∀b:Addr,b∉(lM CX P w K mg base N qual scope f cd A outer s H E).ex:=λb z=>absurd (show b∈([]:List Addr) from z) (by simp)
 refine#[#[B.mod,S.kind,rfl,rfl,Xb _,λy z c Z Y=>?_,λy m=>?_,λy c _ h=>?_,λ_=>hd,Around.frames_deeper B.frames,.inr #[rfl,rfl],λb z=>absurd z<|O b,B.bs,B.DX,λb _ _=>O b,λb z=>absurd z<|O b,B.iP,B.EK],
  rfl,B.bare,Un.kept g,#[_,x.toInCall.ns,λi y v Z Y h3=>?_],λy c h=>#[_,x.cell y c h],B.hok.fresh<|Xb _,λy c h=>?_,λp J=>absurd (show p∈([]:List (Addr×Obj)) from J)<|by simp,B.hok.kept g,?_]
 ·exact name_of_addr x.apart (Zf Z)<|Zf Y
 ·have m:=m;rcases m with m|m
  ·exact rN m
  ·exact absurd rfl<|S.J5 _<|Zf m
 ·exact YW<|x.above y c<|Zf h
 ·have hi:i<vs.length:=by
   unfold start at Y;by_cases hi:i<vs.length
   ·exact hi
   ·rw[XS (by simpa using hi),Yp]at Y;split at Y<;>cases Y
  have t:vs[i]?=B' v:=by
   unfold start at Y;rw[XR (by simpa using hi),Xp]at Y;cases e:vs[i]? with
   |none=>rw[e]at Y;cases Y
   |some a=>rw[e]at Y;cases Y;rfl
  obtain⟨u,X,rv⟩:=r.get t;have J:ps[i]?=B' y:=by rw[<-S.pre,Yr ⋯];exact Z
  have j:ps.Nodup:=by rw[<-S.pre];exact S.nd.sublist (List.take_sublist _ _)
  refine#[u,rv,?_];rcases S.par y (YJ J)with k|k
  ·exact .inl #[k,oy j J X k]
  ·obtain⟨c,e⟩:=rN k;refine .inr #[.inl k,c,e,?_];have q:=x.cell y c e;rw[ot j J X (by show scope.names.lookup y≠_;rw[k];decide)]at q;exact q
 ·exact B.hok.fresh<|YW<|x.above y c<|Zf h
 ·unfold start;show _=N.length;rw[Xm,Xf,Yx]
  lia
end L2
namespace L2
open PySem PySem.Spec PyProof.Rows
section
variable{X:Cx}{x:Str}{p pos:Pos}{e:Expr}{es:List Expr}{t:TA}{id T:String}{r:List V->Hp->VK->Prop}
def SM(r:List V->Hp->VK->Prop)(t:TA):TE:=λO H Q=>t O H λc j=>r c j Q
theorem jG(K:dQ X (.builtin id) r)(hg:Gl X x)(A:X.mg x=G')(n:bootBuiltins x=B' (.builtin id))(ha:PA X (e::es) t)(hn:x≠"__name__":=by decide)(y:(x==("__debug__":Str))=K':=by decide)
  (P:starEach (e::es) X.env=(K',eval e X.env)::starEach es X.env:=by rfl) (J:(backTo pos<|starEach es X.env).any (·.1)=K':=by rfl):PE X (.Call (.Name x p) (e::es) [] pos) (SM r t):=by
 intro S s O H Q I h;refine Zv<|fQ I hg A n ?_ hn y;exact PyProof.Rows.callWith_builtin1 (bS (ha pos S s O H _ I h) λi s1#[c,j,g,F,l]=>K S s1 O j c i Q g F l) P J
theorem zL(K:dQ X (.type T) r)(hg:Gl X x)(A:X.mg x=G')(n:bootBuiltins x=B' (.type T))(ha:PA X (e::es) t)(hn:x≠"__name__":=by decide)(y:(x==("__debug__":Str))=K':=by decide)
  (P:starEach (e::es) X.env=(K',eval e X.env)::starEach es X.env:=by rfl) (J:(backTo pos<|starEach es X.env).any (·.1)=K':=by rfl):PE X (.Call (.Name x p) (e::es) [] pos) (SM r t):=by
 intro S s O H Q I h;refine Zv<|fQ I hg A n ?_ hn y;exact Y8 (bS (ha pos S s O H _ I h) λi s1#[c,j,g,F,l]=>K S s1 O j c i Q g F l) P J
end
end L2
namespace HT
open PySem PyProof.Rows
section
variable{prog:Program}{w:World}{A:Around}{E:Value->Shared->Prop}{s:Shared}
theorem Et(O:IsTup s.heap t vs.toArray)(M:IsTup s.heap b ws.toArray)(hv:vs≠[])
  (Z:ws=[]->Q (.ref t) s) (Y:ws≠[]->Q (.ref s.heap.objs.size) {s with heap:=s.heap.push {cls:=.type "tuple",data:=.seq (vs++ws).toArray}})
  (m:vs.length+ws.length<=sizeLine):wpAny (model prog w) A (binaryOp .Add (.ref t)<|.ref b) Q E s:=by
 obtain⟨⟨cls,dd,data,sl⟩,B,K,n,hd⟩:=id O;obtain⟨⟨a,q,k,p⟩,l,S,P,I⟩:=id M;subst K hd S I;have e:vs.toArray++ws.toArray=(vs++ws).toArray:=by simp
 by_cases y:ws=[]
 ·exact concat_meets #[_,B,rfl] #[_,l,rfl] Zq seq_tuple_add Zc Zb (Za _ _)
   (tuple_addW1 t b vs.toArray ws.toArray n P dd q sl p (by simpa using hv)<|by simp[y]) #[B,l,Z y]
 ·refine concat_meets #[_,B,rfl] #[_,l,rfl] Zq seq_tuple_add Zc Zb (Za _ _)
   (tuple_addW2 t b vs.toArray ws.toArray n P dd q sl p (by simpa using hv) (by simpa using y)<|by rw[W6,W6];exact m) #[B,l,?_]
  rw[e];exact Y y
def cF(n d:Nat):Option Int->Nat
 |none=>d
 |some v=>if v<0 then(v+(n:Int)).toNat else min v.toNat n
theorem wK(v)(n d:Nat):(if v<0 then max (v+(n:Int)) 0 else min v (n:Int))=((cF n d (B' v):Nat):Int):=by
 show (if v<0 then max (v+(n:Int)) 0 else min v (n:Int))=(((if v<0 then(v+(n:Int)).toNat else min v.toNat n):Nat):Int);by_cases hv:v<0
 ·simp only[Zn hv];lia
 ·simp only[Zm hv];lia
theorem uN(lo hi)(n:Nat):Builtin.Slice.sliceAdjust lo hi 1 (n:Int)=(((cF n 0 lo:Nat):Int),((cF n n hi:Nat):Int)):=by
 have Z:¬((1:Int)<0):=⋯
 unfold Builtin.Slice.sliceAdjust;simp only[Z];refine Prod.ext ?_ ?_
 ·cases lo with
  |none=>rfl
  |some v=>exact wK v n 0
 ·cases hi with
  |none=>rfl
  |some v=>exact wK v n n
theorem vK(i j:Nat):Builtin.Slice.slicePlaces (i:Int) (j:Int) 1=j-i:=by
 unfold Builtin.Slice.slicePlaces;have Z:(1:Int)>0:=⋯
 simp only[Z,Zo];split<;>lia
theorem mT(p:IsPart v o)(h:Q o s):wpAny (model prog w) A (Builtin.Slice.slicePartIndex v) Q E s:=by
 cases p with
 |none=>exact slicePart_none h
 |int i t=>exact slicePart_int h
theorem fB{lo hi:Option Int}{n:Nat}(hs:s.heap.IsSliceOf sl vl vu .none)(b:IsPart vl lo)(c:IsPart vu hi)
  (h:Q (((cF n 0 lo:Nat):Int),1,cF n n hi-cF n 0 lo) s):wpAny (model prog w) A (Builtin.Slice.sliceApplied (.ref sl)<|pure (n:Int)) Q E s:=by
 obtain⟨os,a,O,u⟩:=id hs;refine W1<|W1<|Zy a u rfl<|W1<|Zy a u rfl<|W1<|Zy a u rfl<|W4 ?_;refine W1<|slicePart_none ?_;show wpAny _ _ (if ((1:Int)==0)=J' then _ else _) _ _ s;rw[Zm (by decide)];refine W1<|mT b<|W1<|mT c<|W1<|W4 ?_;show wpAny _ _ (match Builtin.Slice.sliceAdjust lo hi 1 (n:Int)with|(lo,hi)=>pure (lo,(1:Int),Builtin.Slice.slicePlaces lo hi 1)) _ _ s;rw[uN lo hi n];show wpAny _ _ (pure (((cF n 0 lo:Nat):Int),(1:Int),Builtin.Slice.slicePlaces ((cF n 0 lo:Nat):Int) ((cF n n hi:Nat):Int) 1)) _ _ s;rw[vK];exact W4 h
theorem CI(xs:Array Value)(i k:Nat):((List.range k).filterMap λ(m:Nat)=>xs[((i:Int)+(m:Int)*1).toNat]?).toArray=((xs.toList.drop i).take k).toArray:=by
 have e:(λ(m:Nat)=>xs[((i:Int)+(m:Int)*1).toNat]?)=λm=>xs[i+m]?:=by
  funext m;have:((i:Int)+(m:Int)*1).toNat=i+m:=⋯
  rw[this]
 rw[e];have:=pick_run xs i k;rw[List.filterMap_map]at this;have E:((λx=>xs[x]?) ∘ λx=>i+x)=λm=>xs[i+m]?:=rfl
 rw[E]at this;rw[this]
theorem jr{lo hi:Option Int}(O:IsTup s.heap t items)(hs:s.heap.IsSliceOf sl vl vu .none)(b:IsPart vl lo)(c:IsPart vu hi)
  (y:¬(cF items.size 0 lo=0/\cF items.size items.size hi=items.size))
  (h:Q (.ref s.heap.objs.size) {s with heap:=s.heap.push {cls:=.type "tuple",data:=.seq ((items.toList.drop<|cF items.size 0 lo).take<|cF items.size items.size hi-cF items.size 0 lo).toArray}})
  (m:items.size<=sizeLine):wpAny (model prog w) A (getItem (.ref t)<|.ref sl) Q E s:=by
 have g:sizeOk (.seq ((items.toList.drop<|cF items.size 0 lo).take<|cF items.size items.size hi-cF items.size 0 lo).toArray):=by show ((items.toList.drop<|cF items.size 0 lo).take<|cF items.size items.size hi-cF items.size 0 lo).toArray.size<=sizeLine;rw[W6,YA,Yu,Xq];omega
 obtain⟨os,a,xn,u⟩:=id hs;have i:s.TypeIs (.ref sl) "slice":=#[os,a,xn];unfold getItem
 try with_reducible refine Zz ?_
 first|refine W1 (W4 ?_)|skip
 refine W1<|wpAny_sequenceKey O.typeIs (by decide) ?_;refine W1 (Zw O.typeIs Y9
  (Zx Y9 O.typeIs entry_tuple_getitem ?_<|args_tuple_getitem _ _))
 show wpAny _ _ (Builtin.Tuple.tupleItemsOf (.ref t) >>=_) _ _ s;refine W1<|tupleItemsOf_ O ?_;refine W1<|ZL i ?_;rw[Zn (by decide)];refine W1<|fB hs b c ?_;have j:¬((((cF items.size 0 lo:Nat):Int)==0&&(1:Int)==1&&(cF items.size items.size hi-cF items.size 0 lo)==items.size)=J'):=by intro q;rw[W5,W5]at q;have l:=Xt q.1.1;have K:=Xt q.2;exact y #[by omega,by omega]
 show wpAny _ _ (if (((cF items.size 0 lo:Nat):Int)==0&&(1:Int)==1&&(cF items.size items.size hi-cF items.size 0 lo)==items.size)=J' then _ else _) _ _ s;rw[Zm j,CI]
 first
  |exact W1<|ZC (W4 #[_,rfl,W4 h]) g
  |exact W1<|ZC (W1<|W4<|W4 #[_,rfl,W4 h]) g
  |exact W1<|W1<|ZC (W4<|W4 #[_,rfl,W4 h]) g
  |exact W1<|W1<|ZC (W4 #[_,rfl,W4 h]) g
end
end HT
namespace L2
open PySem PySem.Spec PyProof.Rows
abbrev TO:=St->Hp->(Option Int->Hp->Prop)->Prop
def PO(X:Cx)(e:Option Expr)(t:TO):Prop:=
 ∀(S:List (Addr×Obj))(s:Shared)(O:St)(H:Hp)(Q:Option Int->Hp->Prop),Inv X S O H s->t O H Q->
  wpAny (model X.prog X.w) X.A (evalPart e X.env) (λu l=>∃o L,Inv X S O L l/\IsPart u o/\Q o L) X.xe s
def GR:TO:=λ_ H Q=>Q G' H
def O3(t:TE):TO:=λO H Q=>t O H λx j=>∃i,x= .int i/\Q (B' i) j
section
variable{X:Cx}{e:Expr}{te:TE}{lo hi:Option Expr}{tl th:TO}{pos p2:Pos}
theorem yb:PO X G' GR:=by intro S s O H Q I h;rw[evalPart_none];exact W4 #[G',H,I,.none,h]
theorem yc(h:PE X e te):PO X (B' e) (O3 te):=by
 intro S s O H Q I y;rw[evalPart_some];refine bS (h S s O H _ I y) λu s1#[x,j,g,F,l]=>?_
 obtain⟨i,rfl,q⟩:=l;obtain⟨t,rfl⟩:=F;exact#[B' i,j,g,.int i t,q]
def LF(X:Cx)(r:V->Option Int->Option Int->Hp->VK->Prop):Prop:=
 ∀(S:List (Addr×Obj))(s:Shared)(O:St)(H:Hp)(x:V)(v o i:Value)(lo hi:Option Int)(t:Addr)(Q:VK),Inv X S O H s->RelV x v->s.heap.IsSliceOf t o i .none->IsPart o lo->IsPart i hi->r x lo hi H Q->
  ∃T id,typeLookup (.type T) "__getitem__"=pure (B'<|.builtin id)/\s.TypeIs v T/\wpAny (model X.prog X.w) X.A (getItem v<|.ref t) (EP X S O Q) X.xe s
def Wr(r:V->Option Int->Option Int->Hp->VK->Prop)(a:TE)(b c:TO):TE:=λO H Q=>a O H λx j=>b O j λl n=>c O n λu Z=>r x l u Z Q
theorem tw(hr:LF X r)(P:PE X e te)(W:PO X lo tl)(hu:PO X hi th):PE X (.Subscript e (.Slice lo hi G' p2) pos) (Wr r te tl th):=by
 intro S s O H Q I h;refine Subscript_<|bS (P S s O H _ I h) λv s1#[x,j,g,F,q1]=>?_;refine wpAny_Slice<|bS (W S s1 O j _ g q1) λo t#[l,n,Y,pl,K]=>bS (hu S t O n _ Y K) λi w#[u,Z,I3,c,L]=>?_;rw[evalPart_none];refine W4 ?_;have J:Inv X S O Z {w with heap:=w.heap.push {cls:=.type "slice",data:=.fields [o,i,.none].toArray}}:=I3.kept λb m q=>W3 _ q
 obtain⟨T,id,hT,ht,hg⟩:=hr S {w with heap:=w.heap.push {cls:=.type "slice",data:=.fields [o,i,.none].toArray}} O Z x v o i l u w.heap.objs.size Q J F (Heap.IsSliceOf.new ..) pl c L;exact tail_any ht hT hg rfl
def rT(xs:List V)(lo hi:Option Int):List V:=(xs.drop<|HT.cF xs.length 0 lo).take<|HT.cF xs.length xs.length hi-HT.cF xs.length 0 lo
theorem kB(xs)(lo hi):(rT xs lo hi).length<=xs.length:=by
 unfold rT;rw[YA,Yu]
 lia
def Sy(K:PySem.W.Frag):V->Option Int->Option Int->Hp->VK->Prop:=λx lo hi H Q=>∃a xs,x= .ref a/\fL K H a xs/\
 ¬(HT.cF xs.length 0 lo=0/\HT.cF xs.length xs.length hi=xs.length)/\∀p,H p=G'->Q (.ref p) (upd H p<|.tup<|rT xs lo hi)
theorem K6:LF X (Sy X.K):=by
 intro S s O H x v o i lo hi t Q I M w pl c h;obtain⟨a,xs,rfl,L,y,q⟩:=h;cases M;obtain⟨J,r,ht,k⟩:=I.tuple L;have E:J.toArray.size=xs.length:=by rw[W6];exact r.length.symm
 refine#["tuple",_,Y9.lookup,ht.typeIs,?_];refine HT.jr ht w pl c (by rw[E];exact y) ?_ (by rw[E];exact k);rw[E];refine#[.ref s.heap.objs.size,_,I.laid (λb m q=>W3 _ q) (Xb _) ?_,rfl,q _<|I.hok.fresh<|Xb _];exact#[Xh (kB xs lo hi) k,_,(r.drop<|HT.cF xs.length 0 lo).take<|HT.cF xs.length xs.length hi-HT.cF xs.length 0 lo,gD.new _ _]
def On(K:PySem.W.Frag):R2:=λx y H Q=>∃a b xs ys,x= .ref a/\y= .ref b/\fL K H a xs/\fL K H b ys/\xs≠[]/\xs.length+ys.length<=sizeLine/\
 (ys=[]->Q (.ref a) H)/\(ys≠[]->∀p,H p=G'->Q (.ref p) (upd H p<|.tup<|xs++ys))
theorem au.qC(r:au xs us):us=[]↔xs=[]:=by
 cases r with
 |nil=>simp
 |cons _ _=>simp
theorem FP:kL X (binaryOp .Add) (On X.K):=by intro S s O H x y v u Q I rx c h;obtain⟨a,b,xs,ys,rfl,rfl,t,M,L,k,l,K⟩:=h;cases rx;cases c;obtain⟨J,F,p1,_⟩:=I.tuple t;obtain⟨o,r2,P,_⟩:=I.tuple M;refine HT.Et p1 P (λz=>L<|F.qC.mp z) (λz=>#[.ref a,H,I,rfl,l<|r2.qC.mp z]) (λz=>?_) (by rw[<-F.length,<-r2.length];exact k);refine#[.ref s.heap.objs.size,_,I.laid (λb m q=>W3 _ q) (Xb _) ?_,rfl,K (λw=>z<|r2.qC.mpr w) _<|I.hok.fresh<|Xb _];exact#[by rw[Xm];exact k,_,F.append r2,gD.new _ _]
end
end L2
namespace L2
open PySem PySem.Spec PyProof.Rows
def qq(n:Nat)(i:Int):Option Nat:=if 0<=i then(if i<n then B' i.toNat else G') else if -(n:Int)<=i then B' (i+n).toNat else G'
def pI{α:Type}(xs:List α)(i:Int):Option α:=(qq xs.length i).bind λj=>xs[j]?
theorem xA(h:qq n i=B' j):seqIndex? i n=B' j/\j<n/\ -(n:Int)<=i/\i<n:=by
 unfold qq at h;by_cases h0:0<=i
 ·rw[Zn h0]at h;by_cases Z:i<n
  ·rw[Zn Z]at h;have e:=Y7 h;exact#[by rw[seqIndex_of h0 Z,e],⋯,⋯,Z]
  ·rw[Zm Z]at h;cases h
 ·rw[Zm h0]at h;by_cases Z: -(n:Int)<=i
  ·rw[Zn Z]at h;have e:=Y7 h;exact#[by rw[seqIndex_neg ⋯ Z,e],⋯,Z,⋯]
  ·rw[Zm Z]at h;cases h
theorem pJ(h:pI xs i=B' v):∃j,seqIndex? i xs.length=B' j/\xs[j]?=B' v/\j<xs.length/\ -(xs.length:Int)<=i/\i<xs.length:=by
 unfold pI at h;cases e:qq xs.length i with
 |none=>rw[e]at h;cases h
 |some j=>rw[e]at h;obtain⟨Z,Y,u,Q⟩:=xA e;exact#[j,Z,h,Y,u,Q]
theorem pK{xs:List α}{j:Nat}{v:α}(h:xs[j]?=B' v):pI xs (j:Int)=B' v:=by
 have F:=(W8.mp h).1;have e:qq xs.length (j:Int)=B' j:=by unfold qq;rw[Zn ⋯,Zn ⋯];simp
 unfold pI;rw[e];exact h
def pA(b:Expr):Prop:=∀o i,subscripted b K' o i=operate [o,i] (getItem o i)
def Mb(X:Cx)(r:R2):Prop:=
 ∀(l b:Expr)(S:List (Addr×Obj))(s:Shared)(O:St)(H:Hp)(x y:V)(v u:Value)(Q:VK),Inv X S O H s->RelV x v->RelV y u->r x y H Q->
  subscripted b K' v u=operate [v,u] (getItem v u)->wpAny (model X.prog X.w) X.A (subscriptTail l b v u) (EP X S O Q) X.xe s
def Md(X:Cx)(id:String)(r:V->List V->Hp->VK->Prop):Prop:=
 ∀(S:List (Addr×Obj))(s:Shared)(O:St)(H:Hp)(x:V)(xs:List V)(v:Value)(i:List Value)(Q:VK),Inv X S O H s->RelV x v->au xs i->r x xs H Q->
  wpAny (model X.prog X.w) X.A (call (.builtin id) (v::i)) (EP X S O Q) X.xe s
section
variable{X:Cx}{a b:Expr}{ta tb:TE}{pos:Pos}
theorem Oe(hr:Mb X r)(t:PE X a ta)(M:PE X b tb)(w:pA b):PE X (.Subscript a b pos) (Qp r ta tb):=by intro S s O H Q I h;exact Subscript_<|IE t M I h λv u s2 x y n Y rx c q=>hr a b S s2 O n x y v u Q Y rx c q<|w _ _
def Sq(K:PySem.W.Frag):R2:=λx y H Q=>∃p xs i v,x= .ref p/\y= .int i/\d8 K H p xs/\pI xs i=B' v/\Q v H
def Ss(K:PySem.W.Frag):R2:=λx y H Q=>∃p xs i v,x= .ref p/\y= .int i/\fL K H p xs/\pI xs i=B' v/\Q v H
def Sr:R2:=λx y H Q=>∃z i c,x= .str z/\y= .int i/\z.length<=sizeLine/\pI z.cps.toList i=B' c/\Q (.str ⟨#[c]⟩) H
theorem xC:Mb X (Sq X.K):=by
 intro l b S s O H x y v u Q I M c h hs;obtain⟨p,xs,i,z,rfl,rfl,F,P,q⟩:=h;cases M;obtain⟨t,rfl⟩:=c;obtain⟨J,r,pl,k⟩:=I.list F;obtain⟨j,Z,Y,h3,h4,n⟩:=pJ P;obtain⟨w,a,g⟩:=r.get Y;have W:=r.length;have hn:=mh;have fin:EP X S O Q w s:=#[z,H,I,g,q];by_cases h0:0<=i
 ·have hj:i.toNat=j:=by rw[seqIndex_of h0 n]at Z;exact Y7 Z
  exact item_listR pl.isList h0 ⋯ (by rw[hj];simpa using a) fin hs
 ·have hj:(i+(J.toArray.size:Int)).toNat=j:=by rw[seqIndex_neg ⋯ h4]at Z;rw[W6,<-W];exact Y7 Z
  exact subscriptTail_builtinR pl.isList.typeIs slot_list_getitem.lookup
   (wpAny_getItem_list_neg pl.isList ⋯ (by rw[W6]<;>lia) ⋯ (by rw[hj];simpa using a) #[rfl,fin]) hs
theorem JI:Mb X (Ss X.K):=by
 intro l b S s O H x y v u Q I M c h hs;obtain⟨p,xs,i,z,rfl,rfl,F,P,q⟩:=h;cases M;obtain⟨t,rfl⟩:=c;obtain⟨J,r,pl,k⟩:=I.tuple F;obtain⟨j,Z,Y,h3,h4,n⟩:=pJ P;obtain⟨w,a,g⟩:=r.get Y;have W:=r.length;have hn:=mh;have fin:EP X S O Q w s:=#[z,H,I,g,q];exact subscriptTail_builtinR pl.typeIs slot_tuple_getitem.lookup
  (getItem_tuple pl ⋯ ⋯ (by rw[W6,<-W];exact Z) (by simpa using a) #[rfl,fin]) hs
theorem JH:Mb X Sr:=by
 intro l b S s O H x y v u Q I M ry h w;obtain⟨z,i,c,rfl,rfl,k,P,q⟩:=h;obtain⟨t,rfl⟩:=M;obtain⟨t',rfl⟩:=ry;obtain⟨j,Z,Y,h3,h4,n⟩:=pJ P;have W:z.cps.toList.length=z.length:=by simp[Str.length]
 rw[W]at Z h4 n;have hn:=mh;exact tail_any (typeIs_str s z t) slot_str_getitem.lookup (getItem_str (c:=c) (by
  have B:decide (i < -(2^63:Int))=K':=Xv ⋯;have E:decide (i>=2^63)=K':=Xv ⋯;rw[B,E,Bool.or_false]) (by rw[Z];simpa using Y) #[.str ⟨#[c]⟩,H,I.tok _,#[_,rfl],q]) w
theorem vz(J:List Value)(n j)(u):Obj.mapSeq (·.setIfInBounds j u) {cls:=.type "list",data:=.seq J.toArray n}={cls:=.type "list",data:=.seq (J.set j u).toArray n}:=by simp[Obj.mapSeq]
theorem Inv.lst{O:St}{H:Hp}{s:Shared}{p:Addr}{xs:List V}(I:Inv X M' O H s)(h:H p=B' (.lst xs)):
  ∃(J:List Value)(n:Nat),au xs J/\s.heap.get? p=B' {cls:=.type "list",data:=.seq J.toArray n}/\xs.length<=sizeLine:=by
 obtain⟨z,J,n,r,e⟩:=I.hok p _ h;exact#[J,n,r,e,z]
theorem Inv.JT{O:St}{J its':List Value}(I:Inv X M' O H s)(h:H p=B' (.lst xs))
  (B:s.heap.get? p=B' {cls:=.type "list",data:=.seq J.toArray n}) (hf:f {cls:=.type "list",data:=.seq J.toArray n}={cls:=.type "list",data:=.seq its'.toArray n'}) (r:au ys its') (k:ys.length<=sizeLine) (t):
  Inv X M' O (upd H p<|.lst ys) {s with heap:=s.heap.update p f,toks:=t}:=by
 have e:(s.heap.update p f).get? p=B' {cls:=.type "list",data:=.seq its'.toArray n'}:=by rw[Heap.get?_update_self f B (by rw[hf]<;>rfl),hf]
 refine I.write (by rw[h];trivial) (.inl rfl) (λb u M q=>(Xy _ _<|Y6 M).trans q) #[_,e] ?_;exact#[k,its',n',r,e]
def HQ:V->V->V->Hp->(Hp->Prop)->Prop:=λo i v H Q=>∃p xs k j,o= .ref p/\i= .int k/\H p=B' (.lst xs)/\qq xs.length k=B' j/\Q (upd H p<|.lst<|xs.set j v)
theorem set_list:Im X HQ:=by
 intro S s O H o i v z a u Q I x l rv h;obtain⟨p,xs,k,j,rfl,rfl,J,F,q⟩:=h;cases x;obtain⟨t,rfl⟩:=l;obtain⟨ak,n,r,B,hz⟩:=I.lst J;obtain⟨Z,Y,h3,h4⟩:=xA F;have W:=r.length;have P:=mh;have b:=
  I.JT J B (vz ak n j u) (r.set rv j) (by rw[Yy];exact hz) s.toks
 by_cases h0:0<=k
 ·have g:k.toNat=j:=by rw[seqIndex_of h0 h4]at Z;exact Y7 Z
  exact PySem.W.ki_setAt B h0 ⋯ (by rw[W6,<-W];exact h4) (by rw[g];exact#[_,b,q])
 ·have g:(k+(ak.toArray.size:Int)).toNat=j:=by rw[seqIndex_neg ⋯ h3]at Z;rw[W6,<-W];exact Y7 Z
  exact PySem.W.ki_setBack B ⋯ (by rw[W6,<-W];exact h3) ⋯ (by rw[g];exact#[_,b,q])
theorem qW(lo hi)(n):(sliceBounds lo hi G' n).1=((HT.cF n 0 lo:Nat):Int)/\(sliceBounds lo hi G' n).2.1=((HT.cF n n hi:Nat):Int)/\(sliceBounds lo hi G' n).2.2=1:=by
 refine#[?_,?_,rfl]
 ·cases lo with
  |none=>simp[sliceBounds,HT.cF]
  |some i=>
   simp only[sliceBounds,HT.cF,Option.getD_none,Zo];by_cases h:i<0
   ·simp only[h,Zo]<;>lia
   ·simp only[h,Zl]<;>lia
 ·cases hi with
  |none=>simp[sliceBounds,HT.cF]
  |some i=>
   simp only[sliceBounds,HT.cF,Option.getD_none,Zo];by_cases h:i<0
   ·simp only[h,Zo]<;>lia
   ·simp only[h,Zl]<;>lia
theorem nZ(J:List Value)(lo hi):slicePick J.toArray lo hi G'=((J.drop<|HT.cF J.length 0 lo).take<|HT.cF J.length J.length hi-HT.cF J.length 0 lo).toArray:=by obtain⟨Z,Y,u⟩:=qW lo hi J.toArray.size;unfold slicePick;rw[Z,Y,u];simp only[sliceRange_one,pick_run]<;>rfl
def Sv(K:PySem.W.Frag):V->Option Int->Option Int->Hp->VK->Prop:=λx lo hi H Q=>∃a xs,x= .ref a/\d8 K H a xs/\∀p,H p=G'->Q (.ref p) (upd H p<|.lst<|rT xs lo hi)
theorem yx:LF X (Sv X.K):=by intro S s O H x v o i lo hi t Q I M w pl c h;obtain⟨a,xs,rfl,L,q⟩:=h;cases M;obtain⟨J,r,ht,k⟩:=I.list L;have E:=r.length;refine#["list",_,slot_list_getitem.lookup,ht.isList.typeIs,?_];refine wpAny_getItem_list_slice ht.isList w pl c .none (by simp) ?_ (by rw[W6]<;>lia);rw[nZ,<-E];refine#[.ref s.heap.objs.size,_,I.laid (λb m q=>W3 _ q) (Xb _) ?_,rfl,q _<|I.hok.fresh<|Xb _];exact#[Xh (kB xs lo hi) k,_,0,(r.drop<|HT.cF xs.length 0 lo).take<|HT.cF xs.length xs.length hi-HT.cF xs.length 0 lo,Xd _ rfl]
theorem pO:dQ X (.builtin "len") (λxs H Q=>∃p ys,xs=[.ref p]/\(d8 X.K H p ys\/fL X.K H p ys)/\Q (.int ys.length) H):=by
 intro S s O H xs i Q I r h;obtain⟨p,ys,rfl,F,q⟩:=h;obtain⟨u,rfl,M⟩:=vals1 r;cases M;have P:=mh;rcases F with F|F
 ·obtain⟨J,Z,pl,k⟩:=I.list F;have E:=Z.length;exact Calls.call_len_list pl.isList (by simp only[W6]<;>lia) #[.int ys.length,H,I.tok _,#[s.toks+1,by rw[W6,E]],q]
 ·obtain⟨J,Z,pl,k⟩:=I.tuple F;have E:=Z.length;exact len_tuple pl (by simp only[W6]<;>lia) #[.int ys.length,H,I.tok _,#[s.toks+1,by rw[W6,E]],q]
theorem fM:dQ X (.type "list") (λxs H Q=>∃p ys,xs=[.ref p]/\(d8 X.K H p ys\/fL X.K H p ys)/\∀l,H l=G'->Q (.ref l) (upd H l<|.lst ys)):=by
 intro S s O H xs i Q I r h;obtain⟨p,ys,rfl,F,q⟩:=h;obtain⟨u,rfl,M⟩:=vals1 r;cases M;have fin:∀(J:List Value),au ys J->ys.length<=sizeLine->∀(h':Heap)(A:Nat),(∀b g,s.heap.get? b=B' g->h'.get? b=B' g)->
   h'.get? s.heap.objs.size=B' {cls:=.type "list",dict:=G',data:=.seq J.toArray A,slots:=#[]}->EP X S O Q (.ref s.heap.objs.size) {s with heap:=h'}:=λJ Z k h' A kp e=>
  #[.ref s.heap.objs.size,_,I.laid kp (Xb _)<|show cu X.prog X.w _ h' _ (.lst ys) from#[k,J,A,Z,e],rfl,q _<|I.hok.fresh<|Xb _]
 rcases F with F|F
 ·obtain⟨J,Z,pl,k⟩:=I.list F;have E:=Z.length;obtain⟨o,B,K,n,hd⟩:=pl.isList;exact call_list_seq p (.inl rfl) B K hd (λh' A kp e=>fin J Z k h' A kp e) (by simp only[W6]<;>lia)
 ·obtain⟨J,Z,pl,k⟩:=I.tuple F;have E:=Z.length;obtain⟨o,B,K,n,hd⟩:=pl;exact call_list_seq p (.inr rfl) B K hd (λh' A kp e=>fin J Z k h' A kp e) (by simp only[W6]<;>lia)
theorem iF:dQ X (.type "tuple") (λxs H Q=>∃p ys,xs=[.ref p]/\((d8 X.K H p ys/\∀l,H l=G'->Q (.ref l) (upd H l<|.tup ys))\/(fL X.K H p ys/\Q (.ref p) H))):=by
 intro S s O H xs i Q I r h;obtain⟨p,ys,rfl,h⟩:=h;obtain⟨u,rfl,M⟩:=vals1 r;cases M;rcases h with ⟨F,q⟩|⟨F,q⟩
 ·obtain⟨J,Z,pl,k⟩:=I.list F;have E:=Z.length;refine call_tuple_list pl.isList (λh' kp=>?_) (by simp only[W6]<;>lia);have g:=I.kept (t':=s.toks) kp;have Y:=
   g.laid (t':=s.toks) (λb o e=>W3 _ e) (Xb _) (show cu X.prog X.w _ _ _ (.tup ys) from#[k,J,Z,gD.new _ _])
  exact#[.ref h'.objs.size,_,Y,rfl,q _<|g.hok.fresh<|Xb _]
 ·obtain⟨J,Z,pl,k⟩:=I.tuple F;exact call_tuple_same pl #[.ref p,H,I,rfl,q]
def S7(K:PySem.W.Frag)(T:String)(x:V)(H:Hp):Prop:=match x with
 |.str _=>T="str"
 |.int _=>T="int"
 |.ref p=>(T="list"/\∃xs,d8 K H p xs)\/(T="tuple"/\∃o,K.lookup p=B' o/\o.cls= .type "tuple"/\o.dict=G')\/
   (T="dict"/\((∃a9,H p=B' (.dK a9))\/∃a9,H p=B' (.dT a9)))\/(T="set"/\∃S n,H p=B' (.set S n))
 |_=>False
theorem DC{O:St}(I:Inv X M' O H s)(r:RelV x v)(P:S7 X.K T x H):
  s.TypeIs v T/\∀a,v= .ref a->∃m,s.heap.get? a=B' m/\m.dict=G':=by
 cases x with
 |str z=>obtain⟨t,rfl⟩:=r;cases (P);exact#[typeIs_str s z t,λ_ e=>nomatch e]
 |int i=>obtain⟨t,rfl⟩:=r;cases (P);exact#[typeIs_int s i t,λ_ e=>nomatch e]
 |ref p=>
  cases r;rcases P with ⟨rfl,xs,F⟩|⟨rfl,o,g,K,hd⟩|⟨rfl,g⟩|⟨rfl,S,n,g⟩
  ·obtain⟨J,_,pl,_⟩:=I.list F;refine#[pl.isList.typeIs,λa e=>?_];cases e;obtain⟨o,n,e,c,hd,_⟩:=pl;exact#[o,e,hd]
  ·refine#[#[o,I.lj p o g,K],λa e=>?_];cases e;exact#[o,I.lj _ o g,hd]
  ·have z:∃o,s.heap.get? p=B' o/\o.ExactDict:=by
    rcases g with ⟨j,g⟩|⟨j,g⟩
    ·obtain⟨_,_,_,_,o,_,_,e,ex,_⟩:=I.hok p _ g;exact#[o,e,ex]
    ·obtain⟨_,_,_,_,o,_,_,e,ex,_⟩:=I.hok p _ g;exact#[o,e,ex]
   obtain⟨o,e,ex⟩:=z;refine#[#[o,e,ex.1],λa E=>?_];cases E;exact#[o,e,ex.2.1]
  ·obtain⟨o,_,_,_,e,ex,_⟩:=I.hok p _ g;refine#[#[o,e,ex.1],λa E=>?_];cases E;exact#[o,e,ex.2.1]
 |_=>exact False.elim P
def K8(K:PySem.W.Frag)(T:String)(r:V->List V->Hp->VK->Prop)(k:TE):TE:=λO H Q=>k O H λx j=>S7 K T x j/\r x [] j Q
def SJ(K:PySem.W.Frag)(T:String)(r:V->List V->Hp->VK->Prop)(k:TE)(t:TA):TE:=λO H Q=>k O H λx j=>S7 K T x j/\t O j λxs n=>r x xs n Q
variable{o e:Expr}{es:List Expr}{to:TE}{t:TA}{name:Str}{apos c7:Pos}{T id:String}{r:V->List V->Hp->VK->Prop}
theorem vI(a:PlainAttrs T)(slot:Slot T name id)(q:typeOf (.builtin id)=pure (.type "method_descriptor"))(A:Md X id r)(B:PE X o to)
  (b:attributeBase o name X.env (eval o X.env)=eval o X.env:=by rfl) (k:(apos.endLine==c7.line)=J':=by rfl):PE X (.Call (.Attribute o name apos) [] [] c7) (K8 X.K T r to):=by
 intro S s O H Q I h;refine wpAny_Call_method0_late b k<|bS (B S s O H _ I h) λv s1#[x,j,g,F,P,l]=>?_;obtain⟨Z,Y⟩:=DC g F P;exact#[T,id,a,slot,q,Z,Y,Calls.callWith_builtin rfl<|PySem.evalArgs_none<|A S s1 O j x [] v [] Q g F .nil l]
theorem HI(a:PlainAttrs T)(slot:Slot T name id)(q:typeOf (.builtin id)=pure (.type "method_descriptor"))(A:Md X id r)(B:PE X o to)(ha:PA X (e::es) t)
  (b:attributeBase o name X.env (eval o X.env)=eval o X.env:=by rfl)
  (y:((backTo c7<|starEach (e::es) X.env).all (λx=> !x.1)&&(backToKw c7<|keywordEach [] X.env).all (λx=>x.1.isSome)
   &&decide ((e::es).length+([]:List Keyword).length+(if ([]:List Keyword).isEmpty then 0 else 1)<30))=J':=by rfl)
  (k:(apos.endLine==c7.line)=J':=by rfl) (w:starEach (e::es) X.env=(K',eval e X.env)::starEach es X.env:=by rfl) (u:(backTo c7<|starEach es X.env).any (·.1)=K':=by rfl):
  PE X (.Call (.Attribute o name apos) (e::es) [] c7) (SJ X.K T r to t):=by
 intro S s O H Q I h;refine wpAny_Call_method_late b y k rfl<|bS (B S s O H _ I h) λv s1#[x,j,g,F,P,l]=>?_;obtain⟨Z,Y⟩:=DC g F P;refine#[T,id,a,slot,q,Z,Y,?_];have hA:=ha c7 S s1 O j _ g l;rw[w]at hA ⊢;refine Calls.callWith_builtin (by show (K'||(backTo c7<|starEach es X.env).any (·.1))=K';rw[u]<;>rfl)<|Calls.evalArgs_plain ?_;exact bS hA λi s2#[c,n,I2,r2,K]=>A S s2 O n x c v i Q I2 F r2 K
end
end L2
namespace L2
open PySem PySem.Spec PyProof.Rows
def LB(X:Cx)(id:String)(r:V->List V->Hp->VK->Prop):Prop:=
 ∀(S:List (Addr×Obj))(s:Shared)(O:St)(H:Hp)(x:V)(xs:List V)(v:Value)(i:List Value)(Q:VK),Inv X S O H s->RelV x v->au xs i->r x xs H Q->
  wpAny (model X.prog X.w) X.A (call (.builtin id) (v::i)) (EP X S O Q) X.xe s
theorem au.cons_inv(h:au (x::xs) us):∃u k,us=u::k/\RelV x u/\au xs k:=by
 cases h with
 |cons r t=>exact#[_,_,rfl,r,t]
theorem au.one(h:au [x] us):∃u,us=[u]/\RelV x u:=
 have #[u,k,e,r,t]:=h.cons_inv
 #[u,by cases t;exact e,r]
theorem au.two(h:au [x,y] us):∃u v,us=[u,v]/\RelV x u/\RelV y v:=
 have #[u,k,e,r,t]:=h.cons_inv;have #[v,E,q]:=t.one
 #[u,v,E▸e,r,q]
theorem au.zero:∀{i:List Value},au [] i->i=[]
 |_,.nil=>rfl
theorem au.dropLast(h:au xs us):au xs.dropLast us.dropLast:=by
 induction h with
 |nil=>exact .nil
 |cons r t ih=>
  cases t with
  |nil=>exact .nil
  |cons q t'=>exact .cons r ih
theorem au.reverse(h:au xs us):au xs.reverse us.reverse:=by
 induction h with
 |nil=>exact .nil
 |cons r t ih=>rw[List.reverse_cons,List.reverse_cons];exact au.append ih<|.cons r .nil
theorem vc{α:Type}(l:List α):l.eraseIdx (l.length-1)=l.dropLast:=by
 induction l with
 |nil=>rfl
 |cons a r ih=>
  cases r with
  |nil=>rfl
  |cons b r=>
   have e:(a::b::r).length-1=((b::r).length-1)+1:=by
    have Z:(a::b::r).length=r.length+2:=rfl;have Y:(b::r).length=r.length+1:=rfl
    lia
   rw[e,List.eraseIdx_cons_succ,ih]
   all_goals rfl
section
variable{X:Cx}{M':List (Addr×Obj)}{σ:St}{H:Hp}{s:Shared}{l:Addr}{xs ys:List V}
theorem Inv.zF{J its':List Value}(I:Inv X M' σ H s)(A:H l=B' (.lst xs))
  (e:s.heap.get? l=B' {cls:=.type "list",data:=.seq J.toArray n}) (r:f J.toArray=its'.toArray) (hv:au ys its') (k:ys.length<=sizeLine):
  Inv X M' σ (upd H l<|.lst ys) {s with heap:=s.heap.update l<|Obj.mapSeq f,toks:=t'}:=by
 have q:=PySem.IsL.update e f;rw[r]at q;refine I.write (by rw[A];exact trivial) (.inl rfl) (λh u M hu=>(Xy s.heap (Obj.mapSeq f)<|Y6 M).trans hu) #[_,q] ?_;exact#[k,its',_,hv,q]
theorem Inv.NV(I:Inv X M' σ H s)(n:au ys ak)(k:ys.length<=sizeLine):
  Inv X M' σ (upd H s.heap.objs.size<|.lst ys) {s with heap:=s.heap.push {cls:=.type "list",data:=.seq ak.toArray},toks:=t'}:=
 I.laid (λ_ _ q=>W3 _ q) (Xb _) #[k,ak,0,n,Xd _ rfl]
theorem Inv.fresh(I:Inv X M' σ H s):H s.heap.objs.size=G':=I.hok.fresh<|Xb _
theorem Inv.qw(I:Inv X M' σ H s)(A:H l=B' (.lst xs)):xs.length<=sizeLine/\∃(J:List Value)(n:Nat),au xs J/\xs.length=J.length/\s.heap.get? l=B' {cls:=.type "list",data:=.seq J.toArray n}:=by obtain⟨z,J,n,r,e⟩:=I.hok l _ A;exact#[z,J,n,r,r.length,e]
theorem sX(h:n<=sizeLine):Builtin.List.listTooLong n=K':=by exact Xv ⋯
end
section
variable{X:Cx}
def yq:V->List V->Hp->VK->Prop:=λx c H Q=>∃l xs y,x= .ref l/\c=[y]/\H l=B' (.lst xs)/\xs.length<sizeLine/\Q .bX (upd H l<|.lst<|xs++[y])
theorem oU:LB X "list.append" yq:=by
 intro S s O H x c v i Q I M rv h;obtain⟨l,xs,y,rfl,rfl,A,k,q⟩:=h;cases M;obtain⟨u,rfl,m⟩:=rv.one;obtain⟨z,J,n,r,W,e⟩:=I.qw A;refine Zi F.slot_list_append #[_,e,rfl] F.entry_list_append (F.args_list_append_2 _ _) (PySem.list_append l J.toArray n u<|by rw[W6];lia) #[e,?_];refine#[.bX,_,I.zF A e (by simp) (r.append<|.cons m .nil) ?_,rfl,q];rw[Xm,Yz]
 lia
def Gz:V->List V->Hp->VK->Prop:=λx c H Q=>∃l b xs w,x= .ref l/\c=[.ref b]/\H l=B' (.lst xs)/\H b=B' (.lst w)/\xs.length+w.length<=sizeLine/\Q .bX (upd H l<|.lst<|xs++w)
theorem zG:LB X "list.extend" Gz:=by
 intro S s O H x c v i Q I M rv h;obtain⟨l,b,xs,w,rfl,rfl,A,g,k,q⟩:=h;cases M;obtain⟨u,rfl,m⟩:=rv.one;cases m;obtain⟨z,J,n,r,W,e⟩:=I.qw A;obtain⟨j,o,P,r2,kP,E⟩:=I.qw g;have la:J.toArray.size+o.toArray.size<=sizeLine:=by rw[W6,W6];lia
 have a:¬(!J.toArray.isEmpty&&Builtin.List.listTooLong (J.toArray.size+o.toArray.size))=J':=by rw[sX la,XY];exact X3
 refine Zi F.slot_list_extend #[_,e,rfl] F.entry_list_extend (F.args_list_extend_2 _ _)
  (AutoSeq1.list_extend_list_list_0 l J.toArray n b o.toArray P a (by rw[W6];lia) ⋯) #[e,E,?_]
 refine#[.bX,_,I.zF (its':=J++o) A e (by simp) (r.append r2) ?_,rfl,q];rw[Xm]
 lia
def Su:V->List V->Hp->VK->Prop:=λx c H Q=>∃l xs y,x= .ref l/\c=[]/\H l=B' (.lst xs)/\xs[xs.length-1]?=B' y/\Q y (upd H l<|.lst xs.dropLast)
theorem JX:LB X "list.pop" Su:=by
 intro S s O H x c v i Q I M rv h;obtain⟨l,xs,y,rfl,rfl,A,m,q⟩:=h;cases M;have a:=rv.zero;subst a;obtain⟨z,J,n,r,W,e⟩:=I.qw A;obtain⟨u,hu,ru⟩:=r.get m;have b:J.toArray[J.toArray.size-1]?=B' u:=by show J.toArray[J.length-1]?=B' u;rw[<-Array.getElem?_toList,<-W];exact hu
 refine Zi F.slot_list_pop #[_,e,rfl] F.entry_list_pop (F.args_list_pop_1 _) (MeetsSeq.list_pop_last l J.toArray n u b<|by rw[W6];lia) #[e,?_];refine#[y,_,I.zF A e ?_ r.dropLast ?_,ru,q]
 ·show J.toArray.eraseIdxIfInBounds (J.toArray.size-1)=J.dropLast.toArray;rw[W6,List.eraseIdxIfInBounds_toArray,vc]
 ·rw[List.length_dropLast]
  lia
def tR:V->List V->Hp->VK->Prop:=λx c H Q=>∃l xs,x= .ref l/\c=[]/\H l=B' (.lst xs)/\Q .bX (upd H l<|.lst xs.reverse)
theorem vA:LB X "list.reverse" tR:=by intro S s O H x c v i Q I M rv h;obtain⟨l,xs,rfl,rfl,A,q⟩:=h;cases M;have a:=rv.zero;subst a;obtain⟨z,J,n,r,W,e⟩:=I.qw A;refine Zi F.slot_list_reverse #[_,e,rfl] F.entry_list_reverse (F.args_list_reverse_1 _) (AutoSeq1.list_reverse_list_0 l J.toArray n<|by rw[W6];omega) #[e,?_];refine#[.bX,_,I.zF A e (by simp) r.reverse ?_,rfl,q];rw[List.length_reverse];omega
def C4:V->List V->Hp->VK->Prop:=λx c H Q=>∃l xs,x= .ref l/\c=[]/\H l=B' (.lst xs)/\Q .bX (upd H l<|.lst [])
theorem Ci:LB X "list.clear" C4:=by intro S s O H x c v i Q I M rv h;obtain⟨l,xs,rfl,rfl,A,q⟩:=h;cases M;have a:=rv.zero;subst a;obtain⟨z,J,n,r,W,e⟩:=I.qw A;refine Zi F.slot_list_clear #[_,e,rfl] F.entry_list_clear (F.args_list_clear_1 _) (AutoSeq1.list_clear_list_0 l J.toArray n<|by rw[W6];lia) #[e,?_];exact#[.bX,_,I.zF A e rfl .nil<|Y5 _,rfl,q]
def Sm:R2:=λx y H Q=>∃l b xs w,x= .ref l/\y= .ref b/\H l=B' (.lst xs)/\H b=B' (.lst w)/\xs.length+w.length<=sizeLine/\∀p,H p=G'->Q (.ref p) (upd H p<|.lst<|xs++w)
theorem fV:kL X (binaryOp .Add) Sm:=by
 intro S s O H x y v u Q I M c h;obtain⟨l,b,xs,w,rfl,rfl,A,g,k,q⟩:=h;cases M;cases c;obtain⟨z,J,n,r,W,e⟩:=I.qw A;obtain⟨j,o,P,r2,i,E⟩:=I.qw g;refine PySem.P.add_list e E ?_ (by rw[W6,W6];lia);have K:J.toArray++o.toArray=(J++o).toArray:=by simp
 rw[K];exact#[.ref _,_,I.NV (r.append r2)<|by rw[Xm];lia,rfl,q _ I.fresh]
end
end L2
namespace Att
open PySem PySem.W PySem.Calls PyProof.Rows
theorem kT:∀(ns:List Int)(c:List Value),WellAll P h c (ns.map WData.int)->IntsAre c ns:=by
 intro ns
 induction ns with
 |nil=>intro c w;cases w;exact .nil
 |cons n ns ih=>
  intro c w;cases w with
  |cons a b=>cases a;exact .cons _ _<|ih _ b
theorem zV{l:OpenLaw}(hn:l.most=B' n)
  (k:l.row.toRowW.claim.pre args=J') (s:WellAll P h vals args):
  ∃a c ns,vals=[Value.ref a]/\args=[WData.list (ns.map WData.int)]/\h.get? a=B' {cls:=.type "list",data:=.seq c.toArray}/\IntsAre c ns/\ns.length<=n:=by
 have H:=(pre_splitW k).1;have K:l.pre.holds [] {args:=args}=J':=(pre_splitW k).2;obtain⟨d,r,rfl,Z,Y⟩:=hasAllW_cons H;obtain rfl:=hasAllW_nil Y;obtain⟨xs,rfl,u⟩:=hasW_list Z;obtain⟨ns,rfl⟩:=items_int u;have E:ns.length<=n:=by
  have Q:(WTm.not<|.lt (.lit<|.int (n:Int))<|.len<|.arg 0).holds [] {args:=[.list (ns.map .int)]}=J':=by have Q:=(holds_andW K).1;rw[hn]at Q;exact Q
  have h5:=condW_of Q<|w_not<|w_lt w_lit<|w_len_list<|w_arg rfl;refine Nat.le_of_not_lt λq=>?_
  first
   |(rw[Xz q']at h5;exact absurd h5<|by decide)
   |(simp at h5;omega)
 cases s with
 |cons w1 w2=>
  cases w2;cases w1 with
  |list B b=>exact#[_,_,ns,rfl,rfl,B,kT ns _ b,E]
theorem zP(l:OpenLaw)(args):l.row.toRowW.claim.post args (.bool J') args=J':=
 postW_of
  (show WShape.has [] (.bool J') .bool=J' by first|rfl|decide|simp[WShape.arms])
  (w_eq_bool (w_res rfl) w_lit) rfl
theorem rH{l:OpenLaw}
  (P:l.most=B' n) (S:d.params.defaults=[])
  (call:∀(w:World)(s₀ Z:Shared)(mg m:Str->Option Value)(y:Addr)(o:Obj)(pm cd p:Value)(a:Addr)(c:List Value)(ns:List Int),
   Ground q loose [] XP w s₀ mg m Z.heap->YP w Z.heap->
   Z.heap.get? y=B' o->o.data= .func (docDef d.name d.params d.body d.scope pm cd p)->Z.heap.CodeRec cd d.name->mg d.name=B' (.ref y)->
   Z.heap.get? a=B' {cls:=.type "list",data:=.seq c.toArray}->IntsAre c ns->ns.length<=n->Z.gens=#[]->
   codeAny (model l.prog w) callerA (.call (.ref y) #[[.ref a],[]]) (λr s'=>r= .ok (.ret<|.bool J')/\OldK Z.heap s'.heap/\s'.os=Z.os/\AllBare s'.gens) Z):
  WalkO q loose XP YP l.row.toRowW d [] (λf c=>PySem.call f c):=by
 intro w s₀ Z mg m G Y y o pm cd p I kV B hd z hD i j args t b k h x s v;obtain rfl:I= .none:=Dflts.none hD S;obtain rfl:kV= .none:=Dflts.noKw hD;obtain⟨a,c,ns,rfl,rfl,X,g,E⟩:=zV P k s;refine enter_call<|codeAny_mono (call w s₀ Z mg m y o pm cd p a c ns G Y B (fd_plain hd) z i X g E j) λr s' F=>?_;obtain⟨rfl,h2,u,Q⟩:=F;exact#[.inl #[.bool J',.bool J',[],rfl,λ_=>rfl,.bool J',zP l _,λ_=>#[List.Pairwise.nil,λ_ A=>(nomatch A)]],h2,u,Q]
end Att
namespace L2
open PySem PySem.Spec PyProof.Rows
theorem ph:∀{c:List Value}{ns:List Int},IntsAre c ns->au (ns.map V.int) c
 |_,_,.nil=>.nil
 |_,_,.cons n t h=>.cons #[t,rfl]<|ph h
def Il(H:Hp):Prop:=∀b,H b=G'\/∃o xs,H b=B' (.zj o<|.lst xs)
theorem Cb{K:PySem.W.Frag}
  (A:K.In s₁.heap) (y:s₁.heap.Ns mainGlobals mg) (M:s₁.heap.Ns builtinsNs mb) (Vp:∀x:Str,x≠"__name__"->mb x=bootBuiltins x) (X:s₁.heap.NoLimit) (j:s₁.gens=#[])
  (t:s₁.heap.get? a=B' {cls:=.type "list",data:=.seq vs.toArray}) (hi:IntsAre vs ns) (W:ns.length<=sizeLine) (I:jb k callerA)
  (F:∀base:Heap,K.In base->base.Ns mainGlobals mg->jV P w K mg base CX k fa fd [x] sp) (M1:∀(s:Shared)(u:Value),BindsTo s fd #[[u],[]] [(x,u)])
  (LV:∀H:Hp,Il H->d8 K H a (ns.map V.int)->sp [.ref a] H (λv _=>v= .bl J') λ_ _ _=>False)
  (Re:∀H e l,CX [] H s₁ (λ_ _ _=>False) e l->False):
  codeAny (model P w) callerA (.call (.ref fa) #[[.ref a],[]]) (λr l=>r= .ok (.ret<|.bool J')/\OldK s₁.heap l.heap/\l.os=s₁.os/\AllBare l.gens) s₁:=by
 have rv:=ph hi;have R8:=hi.length;have i:∀H:Hp,Il H->d8 K H a (ns.map V.int)->dZ P w H s₁.heap->(∀b,H b≠G'->b=a)->(H a≠G'->K.lookup a=G')->
   codeAny (model P w) callerA (.call (.ref fa) #[[.ref a],[]]) (λr l=>r= .ok (.ret<|.bool J')/\OldK s₁.heap l.heap/\l.os=s₁.os/\AllBare l.gens) s₁:=by
  intro H Q hS hok c hK;have wG:∀{b:Addr}{o:Obj},s₁.heap.get? b=B' o->H b=G'->(ql s₁.heap H).get? b=B' o:=λe n=>BS e n
  have O:∀{b:Addr}{o:Obj}{es:Array DictEntry}{ep:Nat},s₁.heap.get? b=B' o->o.data= .dict es ep->H b=G':=λ {b o es ep} e d=>by
   cases q:H b with
   |none=>rfl
   |some u=>have e':=c b (by rw[q];simp);subst e';rw[t]at e;cases e;have d':=d;cases d'
  have J:∀{b:Addr}{m:Str->Option Value},s₁.heap.Ns b m->(ql s₁.heap H).Ns b m:=λ {b m} #[o,es,ep,e,d,r]=>#[o,es,ep,wG e<|O e d,d,r]
  have TR:K.In (ql s₁.heap H):=λb o e=>wG (A b o e) (by
   cases q:H b with
   |none=>rfl
   |some u=>
    have e':=c b (by rw[q];simp);subst e';rw[hK (by rw[q];simp)]at e;cases e)
  have hM:Mod K mg (ql s₁.heap H):=#[TR,J y,#[mb,J M,Vp],let #[mc,Z,Y]:=X;#[mc,J Z,Y]];have e0:Ea P w K mg (ql s₁.heap H) callerA [] s₁ H:=#[rfl,hM,λb o e=>FL e,Nat.le_of_eq<|zp _ _,trivial,λb M=>absurd (show b∈([]:List Addr) from M)<|by simp,hok,.of_eq j];refine codeAny_mono ((F _ TR<|J y).run callerA [] s₁ H #[[.ref a],[]] [.ref a] [.ref a] _ _ I e0 (M1 s₁<|.ref a) (.cons rfl .nil)<|LV H Q hS) λr l h=>?_
  cases r with
  |error e=>exact(Re H e l h).elim
  |ok fl=>
   cases fl with
   |next=>exact False.elim h
   |brk=>exact False.elim h
   |cont=>exact False.elim h
   |ret u=>
    obtain⟨v,L,os,bare,un,S,r',q⟩:=h;have q':=q;subst q';obtain rfl:u=Value.bool J':=r';refine#[rfl,OldK.of_keep λb o e=>?_,os,bare];cases q:H b with
    |none=>exact un.keep b o e q (by intro z;exact absurd (show b∈([]:List Addr) from z)<|by simp) (by simp)
    |some u=>
     rcases Q b with z|⟨ob,xs,z⟩
     ·rw[q]at z;cases z
     ·have z2:=un.frzs b ob _ z;obtain⟨B,_⟩:=hok b _ z;obtain⟨E,_⟩:=S b _ z2;rw[e]at B;cases B;exact E
 cases g:K.lookup a with
 |some o=>have e:=A a o g;rw[t]at e;cases e;refine i (λ_=>G') (λ_=>.inl rfl) (.inr #[_,vs.toArray,_,g,rfl,rfl,rfl,by rw[W6,R8];exact W,by simpa using rv]) (λb u z=>by have p:=z;cases p) (λb z=>absurd rfl z) λz=>absurd rfl z
 |none=>
  refine i (λb=>if b=a then B' (.zj {cls:=.type "list",data:=.seq vs.toArray}<|.lst<|ns.map V.int) else G') (λb=>?_) (.inl<|.inr #[{cls:=.type "list",data:=.seq vs.toArray},Zn rfl]) (λb u z=>?_) (λb z=>?_) λ_=>g
  ·by_cases M:b=a
   ·exact .inr #[_,_,Zn M]
   ·exact .inl<|Zm M
  ·by_cases M:b=a
   ·have p:=(Zn M).symm.trans z;cases p;subst M;exact#[t,by rw[Xf];exact W,vs,_,rv,t]
   ·have p:=(Zm M).symm.trans z;cases p
  ·by_cases M:b=a
   ·exact M
   ·exact absurd (Zm M) z
end L2
namespace L2
open PySem PySem.Spec PyProof.Rows
theorem rj{l:PySem.W.OpenLaw}{K:Params->PySem.W.Frag}{CX:World->nK}{sp:World->Sp}
  (P:l.most=B' n) (L:n<=sizeLine) (S:d.params.defaults=[]) (I:jb k callerA)
  (O:∀(w:World)(h:Heap),YP w h->(K w.params).In h)
  (F:∀(w:World)(mg:Str->Option Value)(y:Addr)(h:Heap),(K w.params).In h->h.Ns mainGlobals mg->mg d.name=B' (.ref y)->
   ∃J:FuncData,(∀(s:Shared)(u:Value),BindsTo s J #[[u],[]] [(x,u)])/\
    ∀base:Heap,(K w.params).In base->base.Ns mainGlobals mg->jV l.prog w (K w.params) mg base (CX w) k y J [x] (sp w))
  (W:∀(w:World)(H:Hp)(a:Addr)(ns:List Int),ns.length<=n->Il H->d8 (K w.params) H a (ns.map V.int)->sp w [.ref a] H (λv _=>v= .bl J') λ_ _ _=>False)
  (b:∀(w:World)(H:Hp)(s:Shared)(e:Value)(s':Shared),CX w [] H s (λ_ _ _=>False) e s'->False):
  PySem.W.WalkO q loose XP YP l.row.toRowW d [] (λf c=>PySem.call f c):=by
 refine Att.rH P S λw s₀ Z mg m y o pm cd p a c ns G Y B hd z i X g E j=>?_
 have A:=O w _ Y;obtain⟨J,M,t⟩:=F w mg y _ A G.T.g i;exact Cb A G.T.g G.T.b G.T.builtins G.T.nolimit j X g (Xh E L) I t M (λH Q hS=>W w H a ns E Q hS) λH e s'=>b w H Z e s'
end L2
namespace L2
open PySem PySem.Spec PyProof.Rows
def pX(s:Stmt):Arguments:=match s with
 |.FunctionDef _ a _ _ _ _ _ _ _ _=>a
 |_=>{posonlyargs:=[],args:=[],vararg:=G',kwonlyargs:=[],kw_defaults:=[],kwarg:=G',defaults:=[]}
def jf(s:Stmt):List Stmt:=match s with
 |.FunctionDef _ _ b _ _ _ _ _ _ _=>b
 |_=>[]
def bQ(s:Stmt):Scope:=match s with
 |.FunctionDef _ _ _ _ _ _ sc _ _ _=>sc
 |_=>{kind:=.function,names:=[],isGenerator:=K',isCoroutine:=K'}
theorem NM{A B:Prop}(h:B):if K'=J' then A else B:=by rw[Zm X3];exact h
theorem NN{A B:Prop}(h:A):if J'=J' then A else B:=by rw[Zn rfl];exact h
def bJ(H H':Hp):Prop:=∀b o,H b=B' o->H' b=B' o
theorem bJ.refl(H):bJ H H:=λ_ _ h=>h
theorem bJ.trans(a:bJ H H1)(b:bJ H1 H2):bJ H H2:=λc o h=>b c o<|a c o h
end L2
end
section
namespace Mx
open PySem PyProof.Rows
set_option genInjectivity true in
inductive D where
 |int (i:Int)
 |str (x:Str)
 |tup (ds:List D)
mutual
noncomputable def D.iH:D->D->Bool
 |.int i,.int j=>i==j
 |.str x,.str y=>x==y
 |.tup a,.tup b=>D.eqs a b
 |_,_=>K'
noncomputable def D.eqs:List D->List D->Bool
 |[],[]=>J'
 |x::xs,y::ys=>D.iH x y&&D.eqs xs ys
 |_,_=>K'
end
mutual
noncomputable def D.lt:D->D->Bool
 |.int i,.int j=>decide (i<j)
 |.int _,_=>J'
 |.str _,.int _=>K'
 |.str x,.str y=>decide (x.cps.toList<y.cps.toList)
 |.str _,.tup _=>J'
 |.tup a,.tup b=>D.gi a b
 |.tup _,_=>K'
noncomputable def D.gi:List D->List D->Bool
 |[],[]=>K'
 |[],_::_=>J'
 |_::_,[]=>K'
 |x::xs,y::ys=>if D.iH x y=J' then D.gi xs ys else D.lt x y
end
mutual
theorem D.dw:∀a b:D,D.iH a b=J'↔a=b
 |.int i,.int j=>by simp[D.iH]
 |.str x,.str y=>by simp[D.iH]
 |.tup a,.tup b=>by simp only[D.iH,D.tup.injEq];exact D.wX a b
 |.int _,.str _=>by simp[D.iH]
 |.int _,.tup _=>by simp[D.iH]
 |.str _,.int _=>by simp[D.iH]
 |.str _,.tup _=>by simp[D.iH]
 |.tup _,.int _=>by simp[D.iH]
 |.tup _,.str _=>by simp[D.iH]
theorem D.wX:∀a b:List D,D.eqs a b=J'↔a=b
 |[],[]=>by simp[D.eqs]
 |[],_::_=>by simp[D.eqs]
 |_::_,[]=>by simp[D.eqs]
 |x::xs,y::ys=>by simp only[D.eqs,W5,List.cons.injEq];rw[D.dw x y,D.wX xs ys]
end
noncomputable instance:DecidableEq D:=λa b=>if h:D.iH a b=J' then isTrue ((D.dw a b).mp h) else isFalse λe=>h<|(D.dw a b).mpr e
theorem D.jg(a b):D.iH a b=decide (a=b):=by rw[X0,D.dw];simp
theorem D.b8(x y)(xs ys):D.gi (x::xs) (y::ys)=if x=y then D.gi xs ys else D.lt x y:=by
 rw[D.gi];by_cases h:x=y
 ·rw[Zn h,Zn ((D.dw x y).mpr h)]
 ·rw[Zm h,Zm λe=>h<|(D.dw x y).mp e]
mutual
theorem D.lt_irrefl:∀a:D,D.lt a a=K'
 |.int i=>by simp[D.lt]
 |.str x=>by simp only[D.lt];exact strKind.irrefl _
 |.tup a=>by simp only[D.lt];exact D.ml a
theorem D.ml:∀a:List D,D.gi a a=K'
 |[]=>by simp[D.gi]
 |x::xs=>by rw[D.b8,Zn rfl];exact D.ml xs
end
mutual
theorem D.fw:∀a b:D,D.lt a b=K'->D.lt b a=K'->a=b
 |.int i,.int j,h1,h2=>by simp only[D.lt,decide_eq_false_iff_not]at h1 h2;congr 1;lia
 |.str x,.str y,h1,h2=>by simp only[D.lt]at h1 h2;have:=strKind.total _ _ h1 h2;congr 1;cases x;cases y;simp only at this;congr 1;exact Array.toList_inj.mp this
 |.tup a,.tup b,h1,h2=>by simp only[D.lt]at h1 h2;rw[D.oQ a b h1 h2]
 |.int _,.str _,h1,_=>by simp[D.lt]at h1
 |.int _,.tup _,h1,_=>by simp[D.lt]at h1
 |.str _,.int _,_,h2=>by simp[D.lt]at h2
 |.str _,.tup _,h1,_=>by simp[D.lt]at h1
 |.tup _,.int _,_,h2=>by simp[D.lt]at h2
 |.tup _,.str _,_,h2=>by simp[D.lt]at h2
theorem D.oQ:∀a b:List D,D.gi a b=K'->D.gi b a=K'->a=b
 |[],[],_,_=>rfl
 |[],_::_,h1,_=>by simp[D.gi]at h1
 |_::_,[],_,h2=>by simp[D.gi]at h2
 |x::xs,y::ys,h1,h2=>by
  rw[D.b8]at h1 h2;by_cases h:x=y
  ·subst h;rw[Zn rfl]at h1 h2;rw[D.oQ xs ys h1 h2]
  ·rw[Zm h]at h1;rw[Zm (Y6 h)]at h2;exact absurd (D.fw x y h1 h2) h
end
mutual
theorem D.lt_trans:∀a b c:D,D.lt a b=J'->D.lt b c=J'->D.lt a c=J'
 |.int i,.int j,.int k,h1,h2=>by simp only[D.lt,Zk]at *;lia
 |.int _,_,.str _,_,_=>by simp[D.lt]
 |.int _,_,.tup _,_,_=>by simp[D.lt]
 |.int _,.str _,.int _,_,h2=>by simp[D.lt]at h2
 |.int _,.tup _,.int _,_,h2=>by simp[D.lt]at h2
 |.str _,.int _,_,h1,_=>by simp[D.lt]at h1
 |.str x,.str y,.str z,h1,h2=>by simp only[D.lt]at *;exact strKind.trans _ _ _ h1 h2
 |.str _,.str _,.int _,_,h2=>by simp[D.lt]at h2
 |.str _,_,.tup _,_,_=>by simp[D.lt]
 |.str _,.tup _,.int _,_,h2=>by simp[D.lt]at h2
 |.str _,.tup _,.str _,_,h2=>by simp[D.lt]at h2
 |.tup _,.int _,_,h1,_=>by simp[D.lt]at h1
 |.tup _,.str _,_,h1,_=>by simp[D.lt]at h1
 |.tup _,.tup _,.int _,_,h2=>by simp[D.lt]at h2
 |.tup _,.tup _,.str _,_,h2=>by simp[D.lt]at h2
 |.tup a,.tup b,.tup c,h1,h2=>by simp only[D.lt]at *;exact D.oR a b c h1 h2
theorem D.oR:∀a b c:List D,D.gi a b=J'->D.gi b c=J'->D.gi a c=J'
 |[],[],_,h1,_=>by simp[D.gi]at h1
 |[],_::_,[],_,h2=>by simp[D.gi]at h2
 |[],_::_,_::_,_,_=>by simp[D.gi]
 |_::_,[],_,h1,_=>by simp[D.gi]at h1
 |_::_,_::_,[],_,h2=>by simp[D.gi]at h2
 |x::xs,y::ys,z::zs,h1,h2=>by
  rw[D.b8]at h1 h2 ⊢;by_cases h:x=y
  ·subst h;rw[Zn rfl]at h1;by_cases h':x=z
   ·rw[Zn h']at h2 ⊢;exact D.oR xs ys zs h1 h2
   ·rw[Zm h']at h2 ⊢;exact h2
  ·rw[Zm h]at h1;by_cases h':y=z
   ·subst h';rw[Zm h];exact h1
   ·rw[Zm h']at h2;have h3:=D.lt_trans x y z h1 h2;by_cases h'':x=z
    ·subst h'';rw[D.lt_irrefl]at h3;cases h3
    ·rw[Zm h''];exact h3
end
@[reducible] noncomputable def MD:KeyOrd where
 α:=D
 blt:=D.lt
 irrefl:=D.lt_irrefl
 trans:=D.lt_trans
 negTrans:=λa b c h=>by
  cases h1:D.lt a b with
  |true=>exact .inl rfl
  |false=>
   right;cases h2:D.lt b a with
   |true=>exact D.lt_trans b a c h2 h
   |false=>rw[D.fw a b h1 h2]at h;exact h
 total:=D.fw
end Mx
end
section
namespace MxSort
open PySem PySem.W PyProof.Rows
section
variable{O:KeyOrd}{key:Nat->O.α}
def c9(key:Nat->O.α)(p:Array Nat)(i:Nat):O.α:=key<|p.getD i 0
def Up(key:Nat->O.α)(p:Array Nat)(n:Nat):Prop:=∀i j,i<=j->j<n->O.kle (c9 key p i) (c9 key p j)
def Dn(key:Nat->O.α)(p:Array Nat)(n:Nat):Prop:=∀i j,i<=j->j<n->O.kle (c9 key p j) (c9 key p i)
theorem jo{p q:Array Nat}(h:p[i]?=q[j]?):p.getD i 0=q.getD j 0:=by
 have B:∀(p:Array Nat)(i:Nat),p.getD i 0=(p[i]?).getD 0:=λp i=>by simp[Array.getD_eq_getD_getElem?]
 rw[B,B,h]
theorem qr(F:j<=p.size)(k):c9 key (kas_rev p i j) k=if i<=k/\k<j then c9 key p (i+j-1-k) else c9 key p k:=by
 have e:=getElem?_mirror_all (i:=i) F k;unfold kas_rev c9;by_cases Z:i<=k/\k<j
 ·rw[Zn Z]at e ⊢;exact Zj key<|jo e
 ·rw[Zm Z]at e ⊢;exact Zj key<|jo e
theorem xD(w:src<p.size)(hd:d<=src)(k):
  c9 key (bubble p src d) k=if k=src-d then c9 key p src else if src-d<k/\k<=src then c9 key p (k-1) else c9 key p k:=by
 have e:=getElem?_bubble w d hd k;unfold c9;by_cases Z:k=src-d
 ·rw[Zn Z]at e ⊢;exact Zj key<|jo e
 ·rw[Zm Z]at e ⊢;by_cases Y:src-d<k/\k<=src
  ·rw[Zn Y]at e ⊢;exact Zj key<|jo e
  ·rw[Zm Y]at e ⊢;exact Zj key<|jo e
def Ord(N:Nat)(p:Array Nat):Prop:=p.toList.Perm<|List.range N
theorem Ord.size(h:Ord N p):p.size=N:=by have:=h.length_eq;rw[Yw]at this;rw[<-this];simp
theorem Ord.lt(h:Ord N p)(i)(h0:0<N):p.getD i 0<N:=by
 by_cases hi:i<p.size
 ·have e:p.getD i 0=p[i]:=by simp[Array.getD,hi]
  rw[e];have:=h.mem_iff.mp (show p[i]∈p.toList by simp);exact XX.mp this
 ·have e:p.getD i 0=0:=by simp[Array.getD,hi]
  rw[e];exact h0
theorem Ord.perm(h:Ord N p)(e:q.Perm p):Ord N q:=(Array.perm_iff_toList_perm.mp e).trans h
theorem Ord.rev(h:Ord N p)(i j):Ord N (kas_rev p i j):=h.perm<|mirror_perm _ _ _ _
theorem Ord.UL(h:Ord N p)(i j):Ord N (bubble p i j):=h.perm<|bubble_perm _ _ _
variable{cmp:Nat->Nat->(Bool->Shared->Prop)->Shared->Prop}{s:Shared}{N:Nat}
def Tells(O:KeyOrd)(key:Nat->O.α)(a:Nat->Nat->(Bool->Shared->Prop)->Shared->Prop)(N:Nat)(s:Shared):Prop:=
 ∀i j,i<N->j<N->∀C:Bool->Shared->Prop,C (O.blt (key i)<|key j) s->a i j C s
theorem Tells.at(T:Tells O key cmp N s)(J:Ord N p)(h0:0<N)(i j)(h:C (O.blt (c9 key p i)<|c9 key p j) s):cmp (p.getD i 0) (p.getD j 0) C s:=
 T _ _ (J.lt i h0) (J.lt j h0) C h
theorem Up.succ(h:Up key p n)(Z:1<=n)(Y:O.kle (c9 key p<|n-1) (c9 key p n)):Up key p (n+1):=λi j z F=>by
 by_cases e:j=n
 ·subst e;by_cases E:i=j
  ·subst E;exact Yi _
  ·exact Xx (h i (j-1) ⋯ ⋯) Y
 ·exact h i j z ⋯
theorem Dn.succ(h:Dn key p n)(Z:1<=n)(Y:O.kle (c9 key p n) (c9 key p<|n-1)):Dn key p (n+1):=λi j z F=>by
 by_cases e:j=n
 ·subst e;by_cases E:i=j
  ·subst E;exact Yi _
  ·exact Xx Y<|h i (j-1) ⋯ ⋯
 ·exact h i j z ⋯
theorem pH(T:Tells O key cmp N s)(J:Ord N p):∀(f n:Nat),1<=n->n+f<=N->Up key p n->
  (∀m,n<=m->m<=n+f->Up key p m->(m<n+f->O.blt (c9 key p m) (c9 key p<|m-1)=J')->Q m s)->(kas_asc p f n).kasWp cmp Q s
 |0,n,Z,P,X,h=>h n (Xb _) (Xb _) X λz=>absurd z ⋯
 |f+1,n,Z,P,X,h=>by
  refine T.at J ⋯ n (n-1) ?_;cases M:O.blt (c9 key p n) (c9 key p<|n-1) with
  |true=>show (if J'=J' then KasT.ret n else kas_asc p f (n+1)).kasWp cmp Q s;rw[Zn rfl];exact h n (Xb _) ⋯ X λ_=>M
  |false=>show (if K'=J' then KasT.ret n else kas_asc p f (n+1)).kasWp cmp Q s;rw[Zm (by simp)];exact pH T J f (n+1) ⋯ ⋯ (X.succ Z M) λm a b c d=>h m ⋯ ⋯ c λz=>d ⋯
theorem j6(hn:n<=p.size)(P:∀k,a<=k->k<n->c9 key p k=c9 key p (n-1))(k):c9 key (kas_rev p a n) k=c9 key p k:=by
 rw[qr hn];split
 ·rename_i h;rw[P (a+n-1-k) (by omega) (by omega),P k h.1 h.2]
 ·rfl
theorem Dn.of(e:∀k,c9 key q k=c9 key p k)(h:Dn key p n):Dn key q n:=λi j a b=>by rw[e,e];exact h i j a b
theorem k8(T:Tells O key cmp N s):∀(f:Nat)(p:Array Nat)(n q:Nat),Ord N p->1<=n->q+1<=n->n+f<=N->Dn key p n->(∀k,n-(q+1)<=k->k<n->c9 key p k=c9 key p (n-1))->
  (∀(u:Array Nat)(m t:Nat),Ord N u->1<=m->t+1<=m->m<=n+f->Dn key u m->(∀k,m-(t+1)<=k->k<m->c9 key u k=c9 key u (m-1))->Q (u,m,t) s)->(kas_desc f p n q).kasWp cmp Q s
 |0,p,n,q,J,Z,F,P,hd,he,h=>h p n q J Z F (Xb _) hd he
 |f+1,p,n,q,J,Z,F,P,hd,he,h=>by
  have hz:=J.size;refine T.at J ⋯ n (n-1) ?_;cases M:O.blt (c9 key p n) (c9 key p<|n-1) with
  |true=>
   show (if J'=J' then(if q>0 then kas_desc f (kas_rev p (n-(q+1)) n) (n+1) 0 else kas_desc f p (n+1) 0) else _).kasWp cmp Q s;rw[Zn rfl];have r:Dn key p (n+1):=hd.succ Z<|Yh M;by_cases g:q>0
   ·rw[Zn g];have e:=j6 (key:=key) (p:=p) (a:=n-(q+1)) (n:=n) ⋯ he;exact k8 T f _ (n+1) 0 (J.rev _ _) ⋯ ⋯ ⋯ (Dn.of e r) (λk a b=>by rw[show k=n+1-1 by lia]) λu m t a b c d=>h u m t a b c ⋯
   ·rw[Zm g];exact k8 T f _ (n+1) 0 J ⋯ ⋯ ⋯ r (λk a b=>by rw[show k=n+1-1 by lia]) λu m t a b c d=>h u m t a b c ⋯
  |false=>
   show (if K'=J' then _ else KasT.ask (p.getD (n-1) 0) (p.getD n 0) λd=>if d=J' then .ret (p,n,q) else kas_desc f p (n+1) (q+1)).kasWp cmp Q s;rw[Zm (by simp)];refine T.at J ⋯ (n-1) n ?_;cases K:O.blt (c9 key p<|n-1) (c9 key p n) with
   |true=>show (if J'=J' then KasT.ret (p,n,q) else _).kasWp cmp Q s;rw[Zn rfl];exact h p n q J Z F ⋯ hd he
   |false=>
    show (if K'=J' then KasT.ret (p,n,q) else kas_desc f p (n+1) (q+1)).kasWp cmp Q s;rw[Zm (by simp)];have H:c9 key p n=c9 key p (n-1):=O.total _ _ M K;refine k8 T f p (n+1) (q+1) J ⋯ ⋯ ⋯ (hd.succ Z<|by rw[H];exact Yi _) (λk a b=>?_) λu m t a b c d=>h u m t a b c ⋯
    by_cases e:k=n
    ·rw[show n+1-1=n by lia,e]
    ·rw[he k ⋯ ⋯,show n+1-1=n by lia,H]
def Qy(key:Nat->O.α)(N:Nat)(r:Nat×Array Nat):Prop:=Ord N r.2/\1<=r.1/\r.1<=N/\Up key r.2 r.1
theorem Lk(P:n<=p.size)(h:Dn key p n):Up key (kas_rev p 0 n) n:=λi j z F=>by rw[qr P,qr P,Zn (by omega),Zn (by omega)];exact h _ _ (by omega) (by omega)
theorem tZ(T:Tells O key cmp N s)(J:Ord N p)(Z:1<=n)(P:n<=N)(hd:Dn key p n)(h:∀r,Qy key N r->Q r s):(kas_tail3 n N p).kasWp cmp Q s:=by
 unfold kas_tail3;rw[KasT.kasWp_bind];refine pH T (J.rev 0 n) (N-n) n Z ⋯ (Lk (by rw[J.size];exact P) hd) λm a b c _=>?_
 exact h (m,kas_rev p 0 n) #[J.rev 0 n,(show 1<=m by lia),(show m<=N by lia),c]
theorem kE(T:Tells O key cmp N s)(J:Ord N p)(Z:1<=n)(P:n+1<=N)(hd:Dn key p (n+1))(h:∀r,Qy key N r->Q r s):(kas_descPart n N p).kasWp cmp Q s:=by
 unfold kas_descPart;rw[KasT.kasWp_bind];refine k8 T (N-(n+1)) p (n+1) 0 J ⋯ ⋯ ⋯ hd (λk a b=>by rw[show k=n+1-1 by lia]) λu m t a b c d e g=>?_
 show (if t>0 then kas_tail3 m N (kas_rev u (m-(t+1)) m) else kas_tail3 m N u).kasWp cmp Q s;by_cases F:t>0
 ·rw[Zn F];exact tZ T (a.rev _ _) b ⋯ (Dn.of (j6 (by rw[a.size];lia) g) e) h
 ·rw[Zm F];exact tZ T a b ⋯ e h
theorem A2(T:Tells O key cmp N s)(J:Ord N p)(Z:1<=N)(h:∀r,Qy key N r->Q r s):(kas_count N p).kasWp cmp Q s:=by
 unfold kas_count;rw[KasT.kasWp_bind];refine pH T J (N-1) 1 (Xb _) ⋯ (λi j a b=>by rw[show i=j by lia];exact Yi _) λn a b c d=>?_
 by_cases e:n=N
 ·subst e;show (if (n==n)=J' then KasT.ret (n,p) else _).kasWp cmp Q s;rw[Zn (by simp)];exact h (n,p) #[J,a,Xb _,c]
 ·show (if (n==N)=J' then KasT.ret (n,p) else if n>1 then .ask (p.getD 0 0) (p.getD (n-1) 0) λc=>if c=J' then .ret (n,p) else kas_descPart n N (kas_rev p 0 n) else kas_descPart n N p).kasWp cmp Q s;rw[Zm (by simpa using e)];have df:=d ⋯;by_cases P:n>1
  ·rw[Zn P];refine T.at J ⋯ 0 (n-1) ?_;cases M:O.blt (c9 key p 0) (c9 key p<|n-1) with
   |true=>show (if J'=J' then KasT.ret (n,p) else _).kasWp cmp Q s;rw[Zn rfl];exact h (n,p) #[J,a,(show n<=N by lia),c]
   |false=>
    show (if K'=J' then KasT.ret (n,p) else kas_descPart n N (kas_rev p 0 n)).kasWp cmp Q s;rw[Zm (by simp)];have hz:=J.size;have all:∀k,0<=k->k<n->c9 key p k=c9 key p (n-1):=λk _ g=>by refine KeyOrd.kle_antisymm (c k (n-1) ⋯ ⋯) (Xx (show O.kle (c9 key p<|n-1) (c9 key p 0) from M)<|c 0 k ⋯ g)
    have er:=j6 (key:=key) (p:=p) (a:=0) (n:=n) ⋯ all;refine kE T (J.rev 0 n) a ⋯ (Dn.of er<|Dn.succ (λi j z F=>?_) a<|Yh df) h;rw[all i ⋯ ⋯,all j ⋯ F];exact Yi _
  ·rw[Zm P];have B:n=1:=⋯
   subst B;refine kE T J a ⋯ (Dn.succ (λi j z F=>?_) a<|Yh df) h;rw[show i=j by lia];exact Yi _
theorem mF(T:Tells O key cmp N s)(J:Ord N p)(g:k<N)(X:Up key p k):∀(f l r:Nat),l<=r->r<=k->r-l<=f->(∀i,i<l->O.kle (c9 key p i) (c9 key p k))->(∀i,r<=i->i<k->O.klt (c9 key p k) (c9 key p i))->
  (∀l,l<=k->(∀i,i<l->O.kle (c9 key p i) (c9 key p k))->(∀i,l<=i->i<k->O.klt (c9 key p k) (c9 key p i))->Q l s)->(kas_place p k f l r).kasWp cmp Q s
 |0,l,r,o,j,hf,Z,Y,h=>by
  have e:l=r:=⋯
  subst e;exact h l j Z Y
 |f+1,l,r,o,j,hf,Z,Y,h=>by
  show (if l>=r then KasT.ret l else .ask (p.getD k 0) (p.getD ((l+r)/2) 0) λc=>if c=J' then kas_place p k f l ((l+r)/2) else kas_place p k f ((l+r)/2+1) r).kasWp cmp Q s;by_cases y:l>=r
  ·rw[Zn y];have e:l=r:=⋯
   subst e;exact h l j Z Y
  ·rw[Zm y];refine T.at J ⋯ k ((l+r)/2) ?_;cases M:O.blt (c9 key p k) (c9 key p<|(l+r)/2) with
   |true=>show (if J'=J' then kas_place p k f l ((l+r)/2) else _).kasWp cmp Q s;rw[Zn rfl];exact mF T J g X f l ((l+r)/2) ⋯ ⋯ ⋯ Z (λi a b=>KeyOrd.klt_of_klt_of_kle M<|X _ _ a b) h
   |false=>show (if K'=J' then kas_place p k f l ((l+r)/2) else kas_place p k f ((l+r)/2+1) r).kasWp cmp Q s;rw[Zm (by simp)];exact mF T J g X f ((l+r)/2+1) r ⋯ j ⋯ (λi a=>Xx (X i ((l+r)/2) ⋯ ⋯) M) Y h
theorem AM(T:Tells O key cmp N s):∀(f:Nat)(p:Array Nat)(k:Nat),Ord N p->k+f=N->Up key p k->(∀u,Ord N u->Up key u N->Q u s)->(kas_bin f p k).kasWp cmp Q s
 |0,p,k,J,g,X,h=>h p J (by rw[<-g];exact X)
 |f+1,p,k,J,g,X,h=>by
  show ((kas_place p k k 0 k).bind λl=>kas_bin f (bubble p k<|k-l)<|k+1).kasWp cmp Q s;rw[KasT.kasWp_bind];refine mF T J ⋯ X k 0 k ⋯ (Xb _) ⋯ (λi a=>absurd a ⋯) (λi a b=>absurd a ⋯) λl W lo hi=>?_
  refine AM T f _ (k+1) (J.UL _ _) ⋯ (λi j z F=>?_) h;have hz:=J.size;rw[xD ⋯ ⋯,xD ⋯ ⋯,show k-(k-l)=l by lia]
  repeat' split
  all_goals first
   |(exfalso;lia)
   |exact Yi _
   |exact lo _ ⋯
   |exact Yh<|hi _ ⋯ ⋯
   |exact X _ _ ⋯ ⋯
theorem GM(T:Tells O key cmp N s)(Z:1<=N)(h:∀u,Ord N u->Up key u N->Q u s):(kas_sort N).kasWp cmp Q s:=by
 unfold kas_sort;rw[KasT.kasWp_bind];refine A2 T (show Ord N (List.toArray<|List.range N) from by unfold Ord;simp) Z λr I=>?_
 obtain⟨a,b,c,d⟩:=I;by_cases p:r.1<N
 ·rw[Zn p];have e:max r.1 1=r.1:=⋯
  rw[e];exact AM T _ _ _ a ⋯ d h
 ·rw[Zm p];have e:r.1=N:=⋯
  exact h r.2 a (by rw[<-e];exact d)
end
end MxSort
end
section
namespace Mx
open PySem PySem.Spec PyProof.Rows L2 PySem.SeqAt
mutual
noncomputable def D.dep:D->Nat
 |.int _=>0
 |.str _=>0
 |.tup ds=>D.bq ds+1
noncomputable def D.bq:List D->Nat
 |[]=>0
 |d::ds=>max (D.dep d)<|D.bq ds
end
mutual
noncomputable def DV(H:Hp):V->D->Prop
 |x,.int i=>x= .int i
 |x,.str z=>x= .str z
 |x,.tup ds=>∃a xs,x= .ref a/\H a=B' (.tup xs)/\bj H xs ds
noncomputable def bj(H:Hp):List V->List D->Prop
 |[],[]=>True
 |x::xs,d::ds=>DV H x d/\bj H xs ds
 |[],_::_=>False
 |_::_,[]=>False
end
theorem bj.nil:bj H [] []:=by unfold bj;trivial
theorem bj.cons{x:V}{xs:List V}{d:D}{ds:List D}(h:DV H x d)(t:bj H xs ds):bj H (x::xs) (d::ds):=by unfold bj;exact#[h,t]
theorem DV.int:DV H (.int i) (.int i):=by unfold DV;rfl
theorem DV.str:DV H (.str x) (.str x):=by unfold DV;rfl
theorem DV.tup{a:Addr}{xs:List V}{ds:List D}(h:H a=B' (.tup xs))(t:bj H xs ds):DV H (.ref a) (.tup ds):=by unfold DV;exact#[a,xs,rfl,h,t]
theorem DV.ao(h:DV H x (.tup ds)):∃a xs,x= .ref a/\H a=B' (.tup xs)/\bj H xs ds:=by unfold DV at h;exact h
theorem DV.int_inv(h:DV H x (.int i)):x= .int i:=by unfold DV at h;exact h
theorem DV.str_inv(h:DV H x (.str i)):x= .str i:=by unfold DV at h;exact h
theorem bj.nil_inv(h:bj H xs []):xs=[]:=by
 cases xs with
 |nil=>rfl
 |cons=>unfold bj at h;exact h.elim
theorem bj.cons_inv(h:bj H xs (d::ds)):∃x r,xs=x::r/\DV H x d/\bj H r ds:=by
 cases xs with
 |nil=>unfold bj at h;exact h.elim
 |cons x r=>unfold bj at h;exact#[x,r,rfl,h]
theorem bj.length:∀{xs:List V}{ds:List D},bj H xs ds->xs.length=ds.length
 |[],[],_=>rfl
 |[],_::_,h=>by unfold bj at h;exact h.elim
 |_::_,[],h=>by unfold bj at h;exact h.elim
 |_::xs,_::ds,h=>by unfold bj at h;simp[bj.length h.2]
theorem bj.get:∀{xs:List V}{ds:List D}{i:Nat}{x:V},bj H xs ds->xs[i]?=B' x->∃d,ds[i]?=B' d/\DV H x d
 |[],_,_,_,_,e=>by simp at e
 |_::_,[],_,_,h,_=>by unfold bj at h;exact h.elim
 |_::_,_::_,0,_,h,e=>by unfold bj at h;simp at e;subst e;exact#[_,rfl,h.1]
 |_::xs,_::ds,i+1,x,h,e=>by obtain⟨d,B,E⟩:=bj.get h.2 (by simpa using e);exact#[d,by simpa using B,E]
theorem bj.getD:∀{xs:List V}{ds:List D}{i:Nat}{d:D},bj H xs ds->ds[i]?=B' d->∃x,xs[i]?=B' x/\DV H x d
 |_,[],_,_,_,e=>by simp at e
 |[],_::_,_,_,h,_=>by unfold bj at h;exact h.elim
 |_::_,_::_,0,_,h,e=>by unfold bj at h;simp at e;subst e;exact#[_,rfl,h.1]
 |_::xs,_::ds,i+1,x,h,e=>by unfold bj at h;obtain⟨d,B,E⟩:=bj.getD (i:=i) h.2 (by simpa using e);exact#[d,by simpa using B,E]
def yP(H L:Hp):Prop:=∀a xs,H a=B' (.tup xs)->L a=B' (.tup xs)
mutual
theorem DV.mono{H H':Hp}(t:yP H H'):∀{x:V}{d:D},DV H x d->DV H' x d
 |x,.int i,h=>by unfold DV at h ⊢;exact h
 |x,.str z,h=>by unfold DV at h ⊢;exact h
 |x,.tup ds,h=>by obtain⟨a,xs,e,e1,e2⟩:=h.ao;subst e;exact DV.tup (t a xs e1)<|bj.mono t e2
theorem bj.mono{H H':Hp}(t:yP H H'):∀{xs:List V}{ds:List D},bj H xs ds->bj H' xs ds
 |[],[],_=>bj.nil
 |[],_::_,h=>by unfold bj at h;exact h.elim
 |_::_,[],h=>by unfold bj at h;exact h.elim
 |_::xs,_::ds,h=>by unfold bj at h;exact bj.cons (DV.mono t h.1)<|bj.mono t h.2
end
mutual
theorem DV.inj{H:Hp}:∀{x:V}{d e:D},DV H x d->DV H x e->d=e
 |x,.int i,e,h1,h2=>by
  have:=h1.int_inv;subst this;cases e with
  |int j=>have:=h2.int_inv;injection this with q;rw[q]
  |str j=>have:=h2.str_inv;cases this
  |tup j=>obtain⟨_,_,q,_⟩:=h2.ao;cases q
 |x,.str i,e,h1,h2=>by
  have:=h1.str_inv;subst this;cases e with
  |int j=>have:=h2.int_inv;cases this
  |str j=>have:=h2.str_inv;injection this with q;rw[q]
  |tup j=>obtain⟨_,_,q,_⟩:=h2.ao;cases q
 |x,.tup ds,e,h1,h2=>by
  obtain⟨a,xs,q,e1,e2⟩:=h1.ao;subst q;cases e with
  |int j=>have:=h2.int_inv;cases this
  |str j=>have:=h2.str_inv;cases this
  |tup j=>obtain⟨b,ys,q,f1,f2⟩:=h2.ao;cases q;rw[e1]at f1;cases f1;rw[bj.inj e2 f2]
theorem bj.inj{H:Hp}:∀{xs:List V}{ds es:List D},bj H xs ds->bj H xs es->ds=es
 |[],[],[],_,_=>rfl
 |[],[],_::_,_,h=>by unfold bj at h;exact h.elim
 |[],_::_,_,h,_=>by unfold bj at h;exact h.elim
 |_::_,[],_,h,_=>by unfold bj at h;exact h.elim
 |_::_,_::_,[],_,h=>by unfold bj at h;exact h.elim
 |_::xs,_::ds,_::es,h1,h2=>by unfold bj at h1 h2;rw[DV.inj h1.1 h2.1,bj.inj h1.2 h2.2]
end
def PX(ds es:List D)(j:Nat):Bool:=match ds[j]?,es[j]? with
 |some d,B' e=>D.iH d e
 |_,_=>J'
theorem wC:∀ds es:List D,((List.range<|min ds.length es.length).all (PX ds es)&&ds.length==es.length)=D.eqs ds es
 |[],[]=>by simp[D.eqs]
 |[],_::_=>by simp[D.eqs]
 |_::_,[]=>by simp[D.eqs]
 |d::ds,e::es=>by
  have ih:=wC ds es;have A:min (d::ds).length (e::es).length=min ds.length es.length+1:=by simp only[Xo];lia
  have B:((d::ds).length==(e::es).length)=(ds.length==es.length):=by rw[X0];simp
  rw[A,List.range_succ_eq_map,Yk,List.all_map,B,D.eqs,<-ih,Bool.and_assoc];rfl
theorem pY:∀{ds:List D}{j:Nat},ds[j]?=B' d->D.dep d<=D.bq ds
 |[],_,h=>by simp at h
 |d'::ds,0,h=>by simp at h;subst h;unfold D.bq;lia
 |d'::ds,j+1,h=>by have:=pY (by simpa using h);unfold D.bq;lia
section
variable{P:Program}{w:World}{H:Hp}{s:Shared}
theorem aV(hok:dZ P w H s.heap)(h:H a=B' (.tup xs)):∃J:List Value,au xs J/\s.heap.IsTuple a J.toArray:=by obtain⟨_,J,r,t⟩:=hok a _ h;exact#[J,r,t.is]
theorem eq_data(hok:dZ P w H s.heap):∀(n:Nat)(d e:D)(x y:V)(u v:Value)(A:Around),D.dep d<=n->A.units+n<cLine->DV H x d->DV H y e->RelV x u->RelV y v->EqAt A s u v (D.iH d e):=by
 intro n
 induction n with
 |zero=>
  intro d e x y u v A hd X L m M c;cases d with
  |int i=>
   have:=L.int_inv;subst this;obtain⟨t,rfl⟩:=M;cases e with
   |int j=>have:=m.int_inv;subst this;obtain⟨t',rfl⟩:=c;exact EqAt.int_int i t j t'
   |str j=>have:=m.str_inv;subst this;obtain⟨t',rfl⟩:=c;exact EqAt.int_str i t j t'
   |tup j=>obtain⟨b,ys,q,f1,f2⟩:=m.ao;subst q;cases c;obtain⟨J,_,O⟩:=aV hok f1;exact EqAt.int_tuple i t O ⋯
  |str i=>
   have:=L.str_inv;subst this;obtain⟨t,rfl⟩:=M;cases e with
   |int j=>have:=m.int_inv;subst this;obtain⟨t',rfl⟩:=c;exact EqAt.str_int i t j t'
   |str j=>have:=m.str_inv;subst this;obtain⟨t',rfl⟩:=c;exact EqAt.str_str i t j t'
   |tup j=>obtain⟨b,ys,q,f1,f2⟩:=m.ao;subst q;cases c;obtain⟨J,_,O⟩:=aV hok f1;exact EqAt.str_tuple i t O ⋯
  |tup ds=>unfold D.dep at hd;lia
 |succ n ih=>
  intro d e x y u v A hd X L m M c;cases d with
  |int i=>exact ih (.int i) e x y u v A (by unfold D.dep;lia) ⋯ L m M c
  |str i=>exact ih (.str i) e x y u v A (by unfold D.dep;lia) ⋯ L m M c
  |tup ds=>
   obtain⟨a,xs,q,B,E⟩:=L.ao;subst q;cases M;obtain⟨J,F,O⟩:=aV hok B;cases e with
   |int j=>have:=m.int_inv;subst this;obtain⟨t',rfl⟩:=c;exact EqAt.tuple_int j t' O ⋯
   |str j=>have:=m.str_inv;subst this;obtain⟨t',rfl⟩:=c;exact EqAt.tuple_str j t' O ⋯
   |tup es=>
    obtain⟨b,ys,q,f1,f2⟩:=m.ao;subst q;cases c;obtain⟨o,r2,rD⟩:=aV hok f1;by_cases fP:a=b
    ·subst fP;rw[B]at f1;cases f1;have:=bj.inj E f2;subst this;have q:D.iH (.tup ds) (.tup ds)=J':=(D.dw _ _).mpr rfl;rw[q];exact EqAt.same _
    ·have Q:J.toArray.size=ds.length:=by rw[W6,<-F.length,E.length]
     have S:o.toArray.size=es.length:=by rw[W6,<-r2.length,f2.length]
     have key:=RcAt.tuples (A:=A) (e:=PX ds es) O rD ⋯ (λj Z Y=>?_)
     ·have q:=wC ds es;rw[<-Q,<-S]at q;rw[q]at key;exact EqAt.of_refs fP key
     ·have K:j<xs.length:=by rw[E.length,<-Q];exact Z
      have k:j<ys.length:=by rw[f2.length,<-S];exact Y
      obtain⟨d,I,r⟩:=E.get (i:=j) (x:=xs[j]) (by simp[K]);obtain⟨e,k1,k2⟩:=f2.get (i:=j) (x:=ys[j]) (by simp[k]);obtain⟨u,g,ru⟩:=F.get (i:=j) (x:=xs[j]) (by simp[K]);obtain⟨v,B0,rv⟩:=r2.get (i:=j) (x:=ys[j]) (by simp[k]);have h:J.toArray[j]=u:=by have:=g;simp only[Yt];have q:=W8.mp this;exact q.2
      have ev:o.toArray[j]=v:=by have:=B0;simp only[Yt];have q:=W8.mp this;exact q.2
      rw[h,ev];have ee:PX ds es j=D.iH d e:=by unfold PX;rw[I,k1]
      rw[ee];refine ih d e xs[j] ys[j] u v A.in1 ?_ (by show A.units+1+n<cLine;lia) r k2 ru rv;have:=pY I;unfold D.dep at hd
      lia
end
mutual
noncomputable def D.eS:D->D->Prop
 |.int _,.int _=>True
 |.str _,.str _=>True
 |.tup a,.tup b=>D.jz a b
 |_,_=>False
noncomputable def D.jz:List D->List D->Prop
 |x::xs,y::ys=>D.eS x y/\D.jz xs ys
 |_,_=>True
end
def ng:Bool->Bool->Bool
 |true,b=> !b
 |false,b=>b
def Tq:Bool->CmpOp
 |true=>.GtE
 |false=>.Lt
def O9:Bool->Builtin
 |true=>Builtin.«tuple.__ge__»
 |false=>Builtin.«tuple.__lt__»
def Ar(g:Bool)(A:Around)(s:Shared)(u v:Value)(b:Bool):Prop:=
 ∀(prog:Program)(w:World)(E:Value->Shared->Prop)(Q:Value->Shared->Prop),Q (.bool<|ng g b) s->wpAny (model prog w) A (richCompare (Tq g) u v) Q E s
inductive Zp(g:Bool)(A:Around)(s:Shared):List Value->List Value->List D->List D->Prop
 |nil {ws:List Value} {es:List D}:ws.length=es.length->Zp g A s [] ws [] es
 |FH {vs:List Value} {ds:List D}:vs.length=ds.length->Zp g A s vs [] ds []
 |cons {v w:Value} {d e:D} {vs ws:List Value} {ds es:List D}:EqAt A s v w (D.iH d e)->(d≠e->Ar g A s v w (D.lt d e))->Zp g A s vs ws ds es->Zp g A s (v::vs) (w::ws) (d::ds) (e::es)
section
open PySem.AutoSeq1 (wpAny_loadPart')
open PySem.MeetsSeq PySem.MeetsSeq2 PySem.MeetsSeq3
theorem og(g)(l b)(i m)(n P)(dd q)(t p)(ds es)(O:i.size=ds.length)(z2:m.size=es.length):
  Meets (O9 g #[[.ref l,.ref b],[]])
   (λA R s=>s.heap.get? l=B' {cls:=.type "tuple",dict:=dd,data:=.seq i n,slots:=t}/\s.heap.get? b=B' {cls:=.type "tuple",dict:=q,data:=.seq m P,slots:=p}/\
    Zp g A.in1 s i.toList m.toList ds es/\R (.ok<|.ret<|.bool<|ng g<|D.gi ds es) s):=by
 rcases g.eq_false_or_eq_true with j|j
 all_goals
  rw[show O9 g=O9 _ from Zj O9 j];unfold O9;refine .of_wp λprog w A R s h=>?_
  obtain⟨J,I,d,tk,os⟩:=s;obtain⟨W,M,V9,h⟩:=h;have Q:=AutoSeq1.sub_tuple_tuple
  wp_walk using wpAny_loadPart' W,wpAny_loadPart' M,wpAny_forIn_list _ (λS b s'=>b.1=G'/\s'=#[J,I,d,tk,os]/\∃(vs X:List Value)(r F:List D),S=vs.zip X/\
   Zp g A.in1 #[J,I,d,tk,os] vs X r F/\r.length+m.size=F.length+i.size/\R (.ok<|.ret<|.bool<|ng g<|D.gi r F) #[J,I,d,tk,os]) _
  case turn=>
   rintro⟨y,x⟩ S b s' ⟨xj,rfl,vs,X,r,F,k,z,E,hR⟩;cases z with
   |nil _=>rw[YU]at k;cases k
   |FH _=>rw[YV]at k;cases k
   |cons he W Z=>
    rename_i v wv d0 B oh K Y L;rw[YT]at k;injection k with hyx Nt;injection hyx with hy hx;subst hy hx;rw[D.b8]at hR;simp only[Xo]at E;refine W1<|he prog w _ _ ?_;by_cases a:d0=B
    ·rw[Zn a]at hR;rw[(D.dw d0 B).mpr a]
     wp_walk
     exact#[rfl,rfl,_,_,_,_,Nt,Z,⋯,hR]
    ·rw[Zm a]at hR;have UO:D.iH d0 B=K':=by rw[D.jg];exact Xv a
     rw[UO];have H:=W a prog w;rw[j]at H hR;dsimp only[Tq]at H
     wp_walk using H
     exact#[_,rfl,hR]
  case fin=>
   rintro⟨o,b2⟩ s' ⟨xj,rfl,vs,X,r,F,k,z,E,hR⟩;simp only at xj;subst xj;have hv:D.gi r F=decide (i.size<m.size):=by
    cases z with
    |nil _=>
     cases F with
     |nil=>simp only[Yv]at E;exact(Xv ⋯).symm
     |cons c u=>simp only[Yv,Xo]at E;exact(Xz ⋯).symm
    |FH _=>simp only[Yv]at E;rw[show D.gi r []=K' by cases r<;>rfl];exact(Xv ⋯).symm
    |cons he W Z=>rw[YT]at k;cases k
   rw[hv,j]at hR
   wp_walk
   exact#[_,rfl,by first|simpa [Builtin.Tuple.tupleCompareSizes]using hR|simpa [Builtin.Tuple.tupleCompareSizes,ng,<-Nat.not_lt]using hR]
  case h=>exact#[rfl,rfl,i.toList,m.toList,ds,es,rfl,V9,⋯,h]
end
section
variable{P:Program}{w:World}{H:Hp}{s:Shared}
theorem DT(hok:dZ P w H s.heap)(X:A.units+n<cLine)(ih:∀(d e:D)(x y:V)(u v:Value),D.dep d<=n->D.eS d e->DV H x d->DV H y e->RelV x u->RelV y v->Ar g A s u v (D.lt d e)):
  ∀{xs ys:List V}{i c:List Value}{ds es:List D},D.bq ds<=n->D.jz ds es->bj H xs ds->bj H ys es->au xs i->au ys c->Zp g A s i c ds es
 |[],ys,i,c,[],es,_,_,_,Y,F,r2=>by cases F;exact .nil (by rw[<-r2.length,Y.length])
 |x::xs,[],i,c,ds,[],_,_,Z,_,F,r2=>by cases r2;exact .FH (by rw[<-F.length,Z.length])
 |[],_,_,_,_::_,_,_,_,h,_,_,_=>by unfold bj at h;exact h.elim
 |_::_,_,_,_,[],_,_,_,h,_,_,_=>by unfold bj at h;exact h.elim
 |_::_,[],_,_,_::_,_::_,_,_,_,h,_,_=>by unfold bj at h;exact h.elim
 |_::_,_::_,_,_,_::_,[],_,_,_,h,_,_=>by unfold bj at h;exact h.elim
 |x::xs,y::ys,i,c,d::ds,e::es,hd,W,Z,Y,F,r2=>by
  unfold D.bq at hd;cases F with
  |cons F t1=>
   cases r2 with
   |cons r2 t2=>exact .cons (eq_data hok n d e x y _ _ A ⋯ X Z.1 Y.1 F r2) (λ_=>ih d e x y _ _ ⋯ W.1 Z.1 Y.1 F r2)<|DT hok X ih ⋯ W.2 Z.2 Y.2 t1 t2
theorem wM(g)(hok:dZ P w H s.heap):∀(n:Nat)(d e:D)(x y:V)(u v:Value)(A:Around),D.dep d<=n->A.units+n<cLine->D.eS d e->DV H x d->DV H y e->RelV x u->RelV y v->Ar g A s u v (D.lt d e):=by
 intro n
 induction n with
 |zero=>
  intro d e x y u v A hd X W L m M c;cases d with
  |int i=>
   have:=L.int_inv;subst this;obtain⟨t,rfl⟩:=M;cases e with
   |int j=>
    have:=m.int_inv;subst this;obtain⟨t',rfl⟩:=c;intro prog wd E Q q;cases g with
    |false=>exact(PyProof.Rows.lt_int q:wpAny (model prog wd) A (compareOp .Lt (.int i t)<|.int j t') Q E s)
    |true=>exact(PyProof.Rows.ge_int (by unfold D.lt at q;rw[show decide (j<=i)= !decide (i<j) from by by_cases h:i<j<;>simp[h]<;>lia];exact q):wpAny (model prog wd) A (compareOp .GtE (.int i t)<|.int j t') Q E s)
   |str j=>unfold D.eS at W;exact W.elim
   |tup j=>unfold D.eS at W;exact W.elim
  |str i=>
   have:=L.str_inv;subst this;obtain⟨t,rfl⟩:=M;cases e with
   |int j=>unfold D.eS at W;exact W.elim
   |str j=>
    have:=m.str_inv;subst this;obtain⟨t',rfl⟩:=c;intro prog wd E Q q;cases g with
    |false=>exact(PySem.P.lt_str q:wpAny (model prog wd) A (compareOp .Lt (.str i t)<|.str j t') Q E s)
    |true=>exact(PySem.P.ge_str q:wpAny (model prog wd) A (compareOp .GtE (.str i t)<|.str j t') Q E s)
   |tup j=>unfold D.eS at W;exact W.elim
  |tup ds=>unfold D.dep at hd;lia
 |succ n ih=>
  intro d e x y u v A hd X W L m M c;cases d with
  |int i=>exact ih (.int i) e x y u v A (by unfold D.dep;lia) ⋯ W L m M c
  |str i=>exact ih (.str i) e x y u v A (by unfold D.dep;lia) ⋯ W L m M c
  |tup ds=>
   obtain⟨a,xs,q,B,e2⟩:=L.ao;subst q;cases M;cases e with
   |int j=>unfold D.eS at W;exact W.elim
   |str j=>unfold D.eS at W;exact W.elim
   |tup es=>
    obtain⟨b,ys,q,Y,f2⟩:=m.ao;subst q;cases c;obtain⟨J,F,O⟩:=aV hok B;obtain⟨o,r2,rD⟩:=aV hok Y;have l1:J.toArray.size=ds.length:=by rw[W6,<-F.length,e2.length]
    have S:o.toArray.size=es.length:=by rw[W6,<-r2.length,f2.length]
    have r:D.bq ds<=n:=by unfold D.dep at hd;lia
    have Hw:D.jz ds es:=by unfold D.eS at W;exact W
    have zz:=DT hok (by show A.units+1+n<cLine;lia) (λd e x y u v I kP ND NF rx2 ry2=>ih d e x y u v A.in1 I (by show A.units+1+n<cLine;lia) kP ND NF rx2 ry2) r Hw e2 f2 F r2;intro prog wd E Q q;obtain⟨⟨cls,dd,data,sl⟩,ho,K,k,Z⟩:=id O;obtain⟨⟨MC,DZ,data2,p⟩,l,xm,k2,BQ⟩:=id rD;subst K Z xm BQ;have q':Q (.bool<|ng g<|D.gi ds es) s:=by have z:=q;unfold D.lt at z;exact z
    have tc:=og g a b J.toArray o.toArray k k2 dd DZ sl p ds es l1 S;have fin:s.heap.get? a=_/\s.heap.get? b=_/\Zp g A.in1 s J o ds es/\Value.bool (ng g<|D.gi ds es)≠Value.notImplemented/\Q (.bool<|ng g<|D.gi ds es) s:=#[ho,l,zz,(λx=>nomatch x),q'];cases g with
    |false=>exact richCompare_meets_room #[_,ho,rfl] #[_,l,rfl] PySem.F.slot_tuple_lt PySem.F.entry_tuple_lt (PySem.F.args_tuple_lt_2 _ _) tc fin ⋯
    |true=>exact richCompare_meets_room #[_,ho,rfl] #[_,l,rfl] PySem.F.slot_tuple_ge PySem.F.entry_tuple_ge (PySem.F.args_tuple_ge_2 _ _) tc fin ⋯
theorem Fy(hok:dZ P w H s.heap):∀(n:Nat)(d e:D)(x y:V)(u v:Value)(A:Around),D.dep d<=n->A.units+n<cLine->D.eS d e->DV H x d->DV H y e->RelV x u->RelV y v->Ar K' A s u v (D.lt d e):=wM K' hok
end
end Mx
end
section
namespace Mx
open PySem PySem.W PySem.Spec PyProof.Rows L2 PySem.SeqAt MxSort
section
variable{w:World}{prog:Program}{s:Shared}{A:Around}
theorem Fs(z:Zp K' A s us vs ds es):∀(i:Nat),1<=i->ds.length+m=es.length+n->Q (D.gi ds es) s->KatLex prog w A b (decide (n<m)) Q (us.zip vs) i s:=by
 induction z with
 |nil W=>
  intro i hi E q;rw[YU];refine kat_nil ?_;rename_i X es;cases es with
  |nil=>simp only[Yv]at E;rw[D.gi]at q;rw[Xv ⋯];exact q
  |cons c u=>simp only[Yv,Xo]at E;rw[D.gi]at q;rw[Xz ⋯];exact q
 |FH W=>
  intro i hi E q;rw[YV];refine kat_nil ?_;rename_i vs ds;cases ds with
  |nil=>simp only[Yv]at E;rw[D.gi]at q;rw[Xv ⋯];exact q
  |cons c u=>simp only[Yv]at E;rw[D.gi]at q;rw[Xv ⋯];exact q
 |cons he W p ih=>
  intro i hi E q;rename_i v g d e J K r F;rw[YT];simp only[Xo]at E;rw[D.b8]at q;refine kat_cons<|he prog w _ _ ?_;by_cases a:d=e
  ·rw[(D.dw d e).mpr a];rw[Zn a]at q;exact kat_yes<|ih (i+1) ⋯ ⋯ q
  ·rw[show D.iH d e=K' by rw[D.jg];exact Xv a];rw[Zm a]at q;refine kat_no ?_;rw[show (b&&i==0)=K' by rw[show (i==0)=K' by simp;lia];simp];exact kat_one v g<|W a prog w _ _ q
end
def gC(ds es:List D):Prop:=es.Perm ds/\es.Pairwise λa b=>D.lt b a=K'
theorem bj.map(h:bj H xs ds):∀{p:List Nat},(∀i∈p,i<xs.length)->bj H (p.map λi=>xs.getD i .bX) (p.map λi=>ds.getD i<|.int 0)
 |[],_=>bj.nil
 |i::p,J=>by have hi:=J i Xc;obtain⟨d,B,E⟩:=h.get (i:=i) (x:=xs[i]) (by simp[hi]);refine bj.cons ?_<|bj.map h λj F=>J j<|W9 _ F;dsimp only;rw[show xs.getD i .bX=xs[i] by simp[hi],show ds.getD i (.int 0)=d by simp[B]];exact E
theorem ue(h:au xs us):∀{p:List Nat},(∀i∈p,i<xs.length)->au (p.map λi=>xs.getD i .bX) (p.map λi=>us.getD i .none)
 |[],_=>.nil
 |i::p,J=>by have hi:=J i Xc;obtain⟨u,B,E⟩:=h.get (i:=i) (x:=xs[i]) (by simp[hi]);refine .cons ?_<|ue h λj F=>J j<|W9 _ F;dsimp only;rw[show xs.getD i .bX=xs[i] by simp[hi],show us.getD i .none=u by simp[B]];exact E
theorem mq{α:Type}(l)(d:α):(List.range l.length).map (λi=>l.getD i d)=l:=by
 refine List.ext_getElem (by simp) λi Z Y=>?_
 simp at Z;simp[Z]
end Mx
end
section
namespace L2
open PySem PySem.Spec PyProof.Rows
def rO(env:Env):List (Str×NameKind)->List (Str×Addr)->List (Str×Addr)
 |[],cs=>cs
 |(n,k)::r,cs=>rO env r (if k== .free then(n,(env.cells.lookup n).getD 0)::cs else cs)
def gp(scope:Scope)(env:Env):List (Str×Addr):=rO env scope.names []
theorem lU:∀(l:List (Str×NameKind))(cs:List (Str×Addr)),(∀y∈l,y.2= .free->∃c,env.cells.lookup y.1=B' c)->
  (forIn l cs (λx r=>do
   if x.2==NameKind.free then do let a<-cellOf env x.1;pure (ForInStep.yield ((x.1,a)::r)) else pure (ForInStep.yield r)):Sem (List<|Str×Addr))=pure (rO env l cs)
 |[],cs,_=>rfl
 |(n,k)::r,cs,h=>by
  rw[Yo];have ih:=λcs=>lU r cs λy m=>h y (W9 _ m)
  cases g:(k==NameKind.free) with
  |false=>simp only[g,Zl,rO];exact ih cs
  |true=>
   obtain⟨c,K⟩:=h (n,k) Xc (by simpa using g);have M:=K;have e:cellOf env n=pure c:=by unfold cellOf;rw[M]
   simp only[g,rO,e,M];exact ih _
theorem iG(h:∀y∈scope.names,y.2= .free->∃c,env.cells.lookup y.1=B' c):closureFor scope env=pure (gp scope env):=by have q:=lU scope.names [] h;unfold closureFor gp;rw[<-q];simp only[bind_pure]
theorem kz:∀(l:List (Str×NameKind))(cs:List (Str×Addr)),(∀y∈l,y.2= .free->∃c,env.cells.lookup y.1=B' c)->
  (∀c,cs.lookup x=B' c->env.cells.lookup x=B' c)->(rO env l cs).lookup x=B' c->env.cells.lookup x=B' c
 |[],cs,_,Y,h=>Y c h
 |(n,k)::r,cs,Z,Y,h=>by
  refine kz r _ (λy m=>Z y<|W9 _ m) (λA M=>?_) h;by_cases g:(k==NameKind.free)=J'
  ·rw[Zn g,Xw]at M;by_cases L:(x==n)=J'
   ·rw[L]at M;have I:x=n:=by simpa using L
    subst I;obtain⟨a,e⟩:=Z (x,k) Xc (by simpa using g);have K:=e;rw[K]at M ⊢;simpa using M
   ·rw[Bool.not_eq_true]at L;rw[L]at M;exact Y A M
  ·rw[Zm g]at M;exact Y A M
theorem lL:∀(l:List (Str×NameKind))(cs:List (Str×Addr)),(((x,NameKind.free)∈l)\/∃c,cs.lookup x=B' c)->∃c,(rO env l cs).lookup x=B' c
 |[],cs,h=>by
  rcases h with h|h
  ·cases h
  ·exact h
 |(n,k)::r,cs,h=>by
  refine lL r _ ?_;by_cases g:(k==NameKind.free)=J'
  ·rw[Zn g];by_cases L:(x==n)=J'
   ·exact .inr #[_,by rw[Xw,L]]
   ·rw[Bool.not_eq_true]at L;rcases h with h|h
    ·rcases Xi.mp h with e|h
     ·injection e with B E;subst B;simp at L
     ·exact .inl h
    ·exact .inr (by obtain⟨c,e⟩:=h;exact#[c,by rw[Xw,L];exact e])
  ·rw[Zm g];rcases h with h|h
   ·rcases Xi.mp h with e|h
    ·injection e with B E;subst E;exact absurd rfl g
    ·exact .inl h
   ·exact .inr h
theorem ba{env:Env}{x:Str}:∀{names:List (Str×NameKind)}{k:NameKind},names.lookup x=B' k->
  (names.map λ(n,k)=>if (k==NameKind.free&&env.scope.kind== .function&&env.kindOf n==B' .cell) then(n,NameKind.cell) else(n,k)).lookup x=
   B' (if (k==NameKind.free&&env.scope.kind== .function&&env.kindOf x==B' .cell) then NameKind.cell else k)
 |[],_,h=>by simp at h
 |(n,Q)::r,k,h=>by
  have ih:=@ba env x r k;show List.lookup x ((if (Q==NameKind.free&&env.scope.kind== .function&&env.kindOf n==B' .cell)=J' then(n,NameKind.cell) else(n,Q))::_)=_;cases L:x==n with
  |true=>
   have I:x=n:=by simpa using L
   subst I;simp only[Xw,L]at h;cases h;by_cases K:(Q==NameKind.free&&env.scope.kind== .function&&env.kindOf x==B' .cell)=J'
   ·simp only[K,Zo,Xw,L]
   ·rw[Zm K,Zm K];simp only[Xw,L]
  |false=>
   simp only[Xw,L]at h;by_cases K:(Q==NameKind.free&&env.scope.kind== .function&&env.kindOf n==B' .cell)=J'
   ·rw[Zn K];simp only[Xw,L];exact ih h
   ·rw[Zm K];simp only[Xw,L];exact ih h
theorem cw{env:Env}:∀{names:List (Str×NameKind)},names.lookup x=G'->
  (names.map λ(n,k)=>if (k==NameKind.free&&env.scope.kind== .function&&env.kindOf n==B' .cell) then(n,NameKind.cell) else(n,k)).lookup x=G'
 |[],h=>rfl
 |(n,Q)::r,h=>by
  show List.lookup x ((if (Q==NameKind.free&&env.scope.kind== .function&&env.kindOf n==B' .cell)=J' then(n,NameKind.cell) else(n,Q))::_)=_;cases L:x==n with
  |true=>simp only[Xw,L]at h;cases h
  |false=>
   simp only[Xw,L]at h;by_cases K:(Q==NameKind.free&&env.scope.kind== .function&&env.kindOf n==B' .cell)=J'
   ·rw[Zn K];simp only[Xw,L];exact cw h
   ·rw[Zm K];simp only[Xw,L];exact cw h
def dC(cap:List (Option Nat))(O:St):St:=cap.map λo=>o.bind λi=>(O[i]?).join
def Io(X:Cx)(ifs:List Expr)(t:TT):Prop:=
 ∀(M':List (Addr×Obj))(s:Shared)(σ:St)(H:Hp)(Q:Bool->Hp->Prop),Inv X M' σ H s->t σ H Q->
  wpAny (model X.prog X.w) X.A (forIn ifs J' λc r=>if r=J' then do let ok<-isTrue c X.env (eval c X.env);pure (ForInStep.yield ok) else pure (ForInStep.yield r)) (TP X M' σ Q) X.xe s
def SV:TT:=λ_ H Q=>Q J' H
theorem Gd:Io X [] SV:=λ_ _ _ H _ I h=>wpAny_tests_nil #[H,I,h]
theorem Ge(h:PT X c t):Io X [c] t:=λS s O H Q I y=>wpAny_tests_one<|h S s O H Q I y
end L2
end
section
namespace Mx
open PySem PySem.W PySem.Spec PyProof.Rows L2 PySem.SeqAt
section
variable{X:Cx}
def Sw:V->Option Int->Option Int->Hp->VK->Prop:=λx lo hi H Q=>∃z,x= .str z/\z.length<=sizeLine/\Q (.str<|PySem.Txt.slice z lo hi) H
theorem K5:LF X Sw:=by
 intro S s O H x v vl vu lo hi sl Q I M w pl c h;obtain⟨z,rfl,hz,q⟩:=h;obtain⟨t,rfl⟩:=M;refine#["str",_,PySem.F.slot_str_getitem.lookup,typeIs_str _ _ _,?_];have fin:∀(t':Tok)(k:Nat),EP X S O Q (.str (PySem.Txt.slice z lo hi) t') {s with toks:=k}:=λt' k=>#[.str _,H,I.tok k,#[t',rfl],q]
 have E:=Xh (PySem.Txt.slice_le z lo hi) hz;obtain⟨o,B,K,hd⟩:=w;cases pl with
 |none=>
  cases c with
  |none=>exact wpAny_getItem_str_slice (l:=G') (u:=G') (st:=G') #[o,B,K,hd] rfl<|post_val_or_str #[E,fin]
  |int j a=>exact wpAny_getItem_str_slice (l:=G') (u:=B' (j,a)) (st:=G') #[o,B,K,hd] rfl<|post_val_or_str #[E,fin]
 |int i b=>
  cases c with
  |none=>exact wpAny_getItem_str_slice (l:=B' (i,b)) (u:=G') (st:=G') #[o,B,K,hd] rfl<|post_val_or_str #[E,fin]
  |int j a=>exact wpAny_getItem_str_slice (l:=B' (i,b)) (u:=B' (j,a)) (st:=G') #[o,B,K,hd] rfl<|post_val_or_str #[E,fin]
def So(K:PySem.W.Frag):List V->Hp->VK->Prop:=λxs H Q=>∃x T t b,xs=[x,.ty T]/\jc K H x t/\PySem.W.kitOne K t (.type T)=B' b/\Q (.bl b) H
theorem AS:dQ X (.builtin "isinstance") (So X.K):=by intro S s O H xs i Q I r h;obtain⟨x,T,t,b,rfl,P,g,q⟩:=h;obtain⟨u,v,rfl,F,r2⟩:=r.two;cases r2;exact zu I F P g λtk=>#[.bl b,H,I.tok tk,rfl,q]
end
end Mx
end
section
namespace Mx
open PySem PySem.Spec PySem.W PyProof.Rows L2 PySem.SeqAt
section
variable{X:Cx}{pos:Pos}
def Hn(K:PySem.W.Frag)(n:Nat)(t:Ag):TG:=λv O H Q=>∃a xs,v= .ref a/\(fL K H a xs\/d8 K H a xs)/\xs.length=n/\t xs O H Q
theorem FZ(K:X.calm=J')(h:LC X es t)(P:(assignEach es X.env).length=n)(q:(assignEach es X.env).findIdx? (·.1)=G'):PG X (.Tuple es k pos) (Hn X.K n t):=by
 intro S s O H v u Q I r y;obtain⟨a,xs,rfl,F|F,W,y⟩:=y
 ·exact Kr K h P q S s O H _ u Q I r #[a,xs,rfl,F,W,y]
 cases r;obtain⟨J,rv,pl,_⟩:=I.list F;have e:(assignEach es X.env).length=J.toArray.size:=by rw[P,<-W,rv.length,W6]
 rw[arm_assign_Tuple];refine W1<|ZJ ?_;unfold unpack;rw[q,e];refine W1<|Zz<|PySem.W.kun_itemsOf (I.ok.hd K) pl.isList λh' L=>?_;exact h S _ O H xs _ Q (I.kept λb o z=>L b o (XB<|Xg z) z) rv y
end
end Mx
end
section
namespace Mx
open PySem PySem.W PySem.Spec PyProof.Rows L2
structure Az(z TI TO i1 i2:Addr):Prop where
 TIz:TI≠z
 TOz:TO≠z
 i1z:i1≠z
 i2z:i2≠z
 TITO:TI≠TO
 TIi1:TI≠i1
 TIi2:TI≠i2
 TOi1:TO≠i1
 TOi2:TO≠i2
 i12:i1≠i2
theorem cA(h:H p=G')(o):bJ H (upd H p o):=λb u q=>by rw[ax (aJ q h)];exact q
theorem ua{D:Addr}(F:H D=B' (.lst xs)):yP H (upd H D<|.lst ys):=λb w q=>by
 by_cases e:b=D
 ·subst e;rw[F]at q;cases q
 ·rw[ax e];exact q
def cM:Bool->Heap->Addr->Addr->Nat->Prop
 |false,h,i,l,k=>h.IsListIter i l k
 |true,h,i,l,k=>h.IsTupleIter i l k
def fK:Bool->Heap->Addr->Array Value->Prop
 |false,h,l,xs=>h.IsList l xs
 |true,h,l,xs=>h.IsTuple l xs
theorem cM.at:∀{b:Bool}{h h':Heap}{i l:Addr}{k:Nat},cM b h i l k->(∀o,h.get? i=B' o->h'.get? i=B' o)->cM b h' i l k
 |false,_,_,_,_,_,x,e=>Heap.IsListIter.at x e
 |true,_,_,_,_,_,x,e=>Heap.IsTupleIter.at x e
theorem fK.at:∀{b:Bool}{h h':Heap}{l:Addr}{xs:Array Value},fK b h l xs->(∀o,h.get? l=B' o->h'.get? l=B' o)->fK b h' l xs
 |false,_,_,_,_,x,e=>let #[o,B,r]:=x;#[o,e o B,r]
 |true,_,_,_,_,x,e=>let #[o,B,r]:=x;#[o,e o B,r]
theorem cM.obj:∀{b:Bool}{h:Heap}{i l:Addr}{k:Nat},cM b h i l k->∃o,h.get? i=B' o/\∀v,o.data≠ .cell v
 |false,_,_,_,_,x=>by obtain⟨o,e,c,d⟩:=x;exact#[o,e,λv q=>by rw[d]at q;cases q]
 |true,_,_,_,_,x=>by obtain⟨o,e,c,d⟩:=x;exact#[o,e,λv q=>by rw[d]at q;cases q]
section
variable{prog:Program}{w:World}{A:Around}{E:Value->Shared->Prop}{s:Shared}
theorem wc(u:s.heap.IsTupleIter it t i)(O:s.heap.IsTuple t items)(L:items[i]?=B' x)
  (H:∀h',h'.IsTupleIter it t (i+1)->Heap.SameBut it s.heap h'->Q x {s with heap:=h'}):wpAny (model prog w) A (Builtin.SmallTypes.nextOf<|.ref it) Q E s:=by
 obtain⟨o,B,K,hd⟩:=id u;obtain⟨b,a,_,J,P⟩:=O;refine W1<|Zw u.typeIs Ya<|Zx Ya u.typeIs X9 (show wpAny _ _ (field (.ref it) 0 >>=_) _ _ s from W1<|Zy B hd rfl ?_)<|X8 _;show wpAny _ _ (if (Value.ref t==Value.none)=J' then _ else _) _ _ s;rw[Zm (show¬((Value.ref t==Value.none)=J') from X3)];refine(W1<|Zy B hd rfl<|W1<|ZI a P ?_);simp only[Yg,L];refine W1<|wpAny_setField B hd (by simp)<|W4 #[x,rfl,W4<|H _ #[_,Heap.get?_update_self _ B<|Obj.isFreed_of_fields<|Obj.data_mapFields hd _,(Obj.cls_mapFields ..).trans K,?_]<|Heap.SameBut.update ..];rw[Obj.data_mapFields hd];simp[rawInt]
theorem zW(y:A.handled=G')(u:s.heap.IsTupleIter it t i)(O:s.heap.IsTuple t items)(L:items[i]?=G')
  (h:∀h' e,Heap.ExtBut it s.heap h'->(∃o,h'.get? e=B' o/\o.cls= .type "StopIteration")->E (.ref e) {s with heap:=h'}):wpAny (model prog w) A (Builtin.SmallTypes.nextOf (.ref it)) Q E s:=by
 obtain⟨o,B,K,hd⟩:=id u;obtain⟨b,a,_,J,P⟩:=O;refine W1 (Zw u.typeIs Ya (Zx Ya u.typeIs X9 (show wpAny _ _ (field (.ref it) 0 >>=_) _ _ s from W1 (Zy B hd rfl ?_)) (X8 _)));show wpAny _ _ (if (Value.ref t==Value.none)=J' then _ else _) _ _ s;rw[Zm (show¬((Value.ref t==Value.none)=J') from X3)];refine(W1 (Zy B hd rfl (W1 (ZI a P ?_))));simp only[Yg,L];refine W1 (ZH (W1 (wpAny_setField B hd (by simp) (W1 ?_))));simp only[newExc];refine W1 (ZC (W1 (wpAny_of_eq rfl (ZC ?_ (by size_fits)))) (by size_fits));simp only[raiseNew];refine W1 (wpAny_handled ?_)
 first|rw[show A.in1.handled=G' from y]|rw[y]
 exact W1 (W4 (wpAny_throw (h _ _ (((Heap.SameBut.update ..).extBut.push _).push _) #[_,Xd _ rfl,rfl])))
theorem iS(u:cM b s.heap it l i)(W:fK b s.heap l items)(L:items[i]?=B' x)
  (H:∀h',cM b h' it l (i+1)->Heap.SameBut it s.heap h'->Q x {s with heap:=h'}):wpAny (model prog w) A (Builtin.SmallTypes.nextOf<|.ref it) Q E s:=by
 cases b with
 |false=>exact wpAny_nextOf_list_item u W L H
 |true=>exact wc u W L H
theorem oM(y:A.handled=G')(u:cM b s.heap it l i)(W:fK b s.heap l items)(L:items[i]?=G')
  (h:∀h' e,Heap.ExtBut it s.heap h'->(∃o,h'.get? e=B' o/\o.cls= .type "StopIteration")->E (.ref e) {s with heap:=h'}):wpAny (model prog w) A (Builtin.SmallTypes.nextOf<|.ref it) Q E s:=by
 cases b with
 |false=>exact wpAny_nextOf_list_end y u W L h
 |true=>exact zW y u W L h
end
structure jX(z TO i1 i2 l:Addr):Prop where
 z:l≠z
 o:l≠TO
 a:l≠i1
 b:l≠i2
section
variable{prog:Program}{w:World}{A:Around}{E:Value->Shared->Prop}{s:Shared}
theorem Ad{z W t g p l1 S:Addr}(D:Az z W t g p)(O1:jX z t g p l1)(O2:jX z t g p S)
  (k:IsZip s.heap z W t .none) (Ro:IsPair s.heap W (.ref g) (.ref p)) (Rq:IsPair s.heap t a b) (Z:cM b1 s.heap g l1 k1) (Y:cM b2 s.heap p S k2) (K:fK b1 s.heap l1 xs) (i:fK b2 s.heap S ys) (L:xs[k1]?=B' x) (m:ys[k2]?=B' y)
  (hQ:∀h',IsZip h' z W t (rawInt s.heap.objs.size)->IsPair h' t x y->cM b1 h' g l1 (k1+1)->cM b2 h' p S (k2+1)->IsPair h' s.heap.objs.size x y->
   (∀c o,c≠z->c≠t->c≠g->c≠p->s.heap.get? c=B' o->h'.get? c=B' o)->Q (B'<|.ref s.heap.objs.size) {s with heap:=h'}):wpAny (model prog w) A (pyNext<|.ref z) Q E s:=by
 have v:s.TypeIs (.ref z) "zip":=#[_,k,rfl];refine W1<|wpAny_attempt<|Zw v Yb<|Zx Yb v F.entry_zip_next ?_<|F.args_zip_next_1 _;refine(show wpAny _ _ (field (.ref z) 2 >>=_) _ _ _ from W1<|Zy k rfl rfl<|W1<|Zy k rfl rfl<|W1<|ZI Ro rfl<|W1 ?_);refine W1<|Zy k rfl rfl<|W4 ?_;simp only[Zo];refine W1 (ZH<|W1<|Zy k rfl rfl<|W1<|XD k (by simp) λI O B=>W1 ?_)
 replace O:IsZip I z W t .ellipsis:=O
 simp only[List.zipIdx_cons,Yo];refine W1<|W1<|ZD<|W1<|iS (Z.at λo q=>B.extBut _ o D.i1z q) (K.at λo q=>B.extBut _ o O1.z q) L λr j1 e2=>W4 ?_;have t2:=e2.extBut _ _ D.TOi1<|B.extBut _ _ D.TOz Rq;refine W1 (ZI t2 rfl<|W1<|ZM t2 λM l J=>W1<|wpAny_letGo<|W4 ?_)
 replace l:IsPair M t x b:=l
 refine W1<|W1<|ZD<|W1<|iS (Y.at λo q=>J.extBut _ o D.TOi2.symm<|e2.extBut _ o D.i12.symm<|B.extBut _ o D.i2z q) (i.at λo q=>J.extBut _ o O2.o<|e2.extBut _ o O2.a<|B.extBut _ o O2.z q) m λg4 j2 n=>W4 ?_;have t4:=n.extBut _ _ D.TOi2 l;refine W1 (ZI t4 rfl<|W1<|ZM t4 λj t5 X=>W1<|wpAny_letGo<|W4<|W4 ?_)
 replace t5:IsPair j t x y:=t5
 refine W1<|ZI t5 rfl<|W1<|wpAny_newTuple ?_;have sz:j.objs.size=s.heap.objs.size:=by rw[X.1,n.1,J.1,e2.1,B.1]
 have z5:=X.extBut _ _ D.TOz.symm<|n.extBut _ _ D.i2z.symm<|J.extBut _ _ D.TOz.symm<|e2.extBut _ _ D.i1z.symm O;have h:∀c o,c≠z->c≠t->c≠g->c≠p->s.heap.get? c=B' o->j.get? c=B' o:=λc o u H c3 c4 q=>X.extBut _ _ H (n.extBut _ _ c4<|J.extBut _ _ H<|e2.extBut _ _ c3<|B.extBut _ _ u q)
 have n1:=j1.at λo q=>X.extBut _ o D.TOi1.symm (n.extBut _ o D.i12<|J.extBut _ o D.TOi1.symm q)
 have P:=j2.at λo q=>X.extBut _ o D.TOi2.symm q
 have UF:=Xg z5;refine(W1 ?_);have z6:IsZip (j.push {cls:=.type "tuple",data:=.seq [x,y].toArray}) z W t .ellipsis:=W3 _ z5;refine W1 (XD z6 (by simp) λg7 z7 e7=>?_)
 replace z7:IsZip g7 z W t (rawInt j.objs.size):=z7
 refine XD z7 (by simp) λg8 z8 e8=>?_
 replace z8:IsZip g8 z W t (rawInt j.objs.size):=z8
 have up:∀c o,c≠z->j.get? c=B' o->g8.get? c=B' o:=λc o u q=>e8.extBut _ _ u (e7.extBut _ _ u<|W3 _ q)
 have t8:=e8.extBut _ _ (Y3 UF)<|e7.extBut _ _ (Y3 UF)<|Xd _ rfl;rw[sz]at z8 t8;refine W4 #[_,rfl,W4 ?_];rw[sz];exact hQ g8 z8 (up _ _ D.TOz t5) (n1.at λo q=>up _ o D.i1z q) (P.at λo q=>up _ o D.i2z q) t8 λc o u H c3 c4 q=>up c o u<|h c o u H c3 c4 q
theorem DR{z W t g p l1 S:Addr}(y:A.handled=G')(D:Az z W t g p)(O1:jX z t g p l1)(O2:jX z t g p S)
  (k:IsZip s.heap z W t .none) (Ro:IsPair s.heap W (.ref g) (.ref p)) (Rq:IsPair s.heap t a b) (Z:cM b1 s.heap g l1 k1) (Y:cM b2 s.heap p S k2) (ju:fK b1 s.heap l1 xs) (i:fK b2 s.heap S ys) (Nc:xs[k1]?=G'\/ys[k2]?=G')
  (hQ:∀h',(∀c o,c≠z->c≠t->c≠g->c≠p->s.heap.get? c=B' o->h'.get? c=B' o)->Q G' {s with heap:=h'}):wpAny (model prog w) A (pyNext<|.ref z) Q E s:=by
 have v:s.TypeIs (.ref z) "zip":=#[_,k,rfl];refine W1<|wpAny_attempt<|Zw v Yb<|Zx Yb v F.entry_zip_next ?_<|F.args_zip_next_1 _;have stop:∀(h':Heap)(e:Addr),(∀c o,c≠z->c≠t->c≠g->c≠p->s.heap.get? c=B' o->h'.get? c=B' o)->(∃o,h'.get? e=B' o/\o.cls= .type "StopIteration")->wpAny (model prog w) A (isInstance (.ref e)<|.type "StopIteration") (λr l=>r=J'/\Q G' l) E {s with heap:=h'}:=λh' e kk P=>by obtain⟨o,ho,K⟩:=P;exact wpAny_isInstance #[o,ho,K] isSubtype_stop #[rfl,hQ _ kk]
 refine(show wpAny _ _ (field (.ref z) 2 >>=_) _ _ _ from W1<|Zy k rfl rfl<|W1<|Zy k rfl rfl<|W1<|ZI Ro rfl<|W1 ?_);refine W1<|Zy k rfl rfl<|W4 ?_;simp only[Zo];refine W1 (ZH<|W1<|Zy k rfl rfl<|W1<|XD k (by simp) λI O B=>W1 ?_)
 replace O:IsZip I z W t .ellipsis:=O
 simp only[List.zipIdx_cons,Yo];refine W1<|W1<|ZD ?_;cases L:xs[k1]? with
 |none=>
  refine W1<|oM y (Z.at λo q=>B.extBut _ o D.i1z q) (ju.at λo q=>B.extBut _ o O1.z q) L λg2 e e2 P=>?_;obtain⟨oe,Js,M7⟩:=P;have j:=e2 _ _ D.i1z.symm O;have Ry:e≠z:=λx=>by subst x;rw[j]at Js;cases Js;simp at M7
  refine XD j (by simp) λM _ J=>?_
  refine W1<|ZA (stop M e (λc o u _ c3 _ x=>J.extBut _ _ u<|e2 _ _ c3<|B.extBut _ _ u x) #[oe,J.extBut _ _ Ry Js,M7]) (λr l q=>?_) λ_ _ q=>q;obtain⟨rfl,q⟩:=q;exact W4 q
 |some x=>
  have m:ys[k2]?=G':=by rcases Nc with h|h;rw[L]at h;cases h;exact h
  refine W1<|iS (Z.at λo q=>B.extBut _ o D.i1z q) (ju.at λo q=>B.extBut _ o O1.z q) L λg2 j1 e2=>W4 ?_;have t2:=e2.extBut _ _ D.TOi1<|B.extBut _ _ D.TOz Rq;refine W1<|ZI t2 rfl<|W1<|ZM t2 λM t3 J=>W1<|wpAny_letGo<|W4 ?_;refine W1<|W1<|ZD<|W1<|oM y (Y.at λo q=>J.extBut _ o D.TOi2.symm<|e2.extBut _ o D.i12.symm<|B.extBut _ o D.i2z q) (i.at λo q=>J.extBut _ o O2.o<|e2.extBut _ o O2.a<|B.extBut _ o O2.z q) m λg4 e n P=>?_;obtain⟨oe,Js,M7⟩:=P;have z4:=n _ _ D.i2z.symm<|J.extBut _ _ D.TOz.symm<|e2.extBut _ _ D.i1z.symm O;have Ry:e≠z:=λx=>by subst x;rw[z4]at Js;cases Js;simp at M7
  refine XD z4 (by simp) λg5 _ X=>?_
  refine W1<|ZA (stop g5 e (λc o u H c3 c4 x=>X.extBut _ _ u<|n _ _ c4<|J.extBut _ _ H<|e2.extBut _ _ c3<|B.extBut _ _ u x) #[oe,X.extBut _ _ Ry Js,M7]) (λr l q=>?_) λ_ _ q=>q;obtain⟨rfl,q⟩:=q;exact W4 q
end
def sN:Bool->Addr->Obj
 |false,l=>{cls:=.type "list_iterator",data:=.fields [.ref l,.int 0 0].toArray}
 |true,l=>{cls:=.type "tuple_iterator",data:=.fields [.ref l,.int 0 0].toArray}
theorem sO:∀{b:Bool}{h:Heap}{i l:Addr},h.get? i=B' (sN b l)->cM b h i l 0
 |false,_,_,_,e=>#[_,e,rfl,rfl]
 |true,_,_,_,e=>#[_,e,rfl,rfl]
theorem oK(b)(l):(sN b l).isFreed=K':=by cases b<;>rfl
abbrev Qs(h:Heap)(b1:Bool)(l1:Addr):Heap:=h.push (sN b1 l1)
abbrev Qt(h:Heap)(b1 b2:Bool)(l1 l2:Addr):Heap:=(Qs h b1 l1).push (sN b2 l2)
abbrev Qu(h:Heap)(b1 b2:Bool)(l1 l2:Addr):Heap:=(Qt h b1 b2 l1 l2).push {cls:=.type "tuple",data:=.seq [.ref h.objs.size,.ref (Qs h b1 l1).objs.size].toArray}
abbrev Qv(h:Heap)(b1 b2:Bool)(l1 l2:Addr):Heap:=(Qu h b1 b2 l1 l2).push {cls:=.type "tuple",data:=.seq [.none,.none].toArray}
abbrev Ma(h:Heap)(b1 b2:Bool)(l1 l2:Addr):Heap:=(Qv h b1 b2 l1 l2).push {cls:=.type "zip",data:=.fields [.none,.bool K',.bool K',.ref (Qt h b1 b2 l1 l2).objs.size,.ref (Qu h b1 b2 l1 l2).objs.size].toArray}
theorem fK.push(x:fK b h l xs)(o):fK b (h.push o) l xs:=x.at λ_ e=>W3 _ e
theorem DS(o k)(Q S)(xs ys):
  Meets (Builtin.«zip.__new__» #[[.type "zip",.ref Q,.ref S],[]]) (λ_ R s=>fK o s.heap Q xs/\fK k s.heap S ys/\R (.ok<|.ret<|.ref (Qv s.heap o k Q S).objs.size) {s with heap:=Ma s.heap o k Q S}):=
 .of_wp λprog w A R s h=>by
  obtain⟨J,g,d,tk,os⟩:=s;obtain⟨K,i,h⟩:=h;have B:=sub_zip;have a:=i.push<|sN o Q;cases o<;>cases k
  ·have k1:Heap.IsList (Shared.heap #[J,g,d,tk,os]) Q xs:=K;have k2:Heap.IsList (Shared.heap #[J.push {cls:=.type "list_iterator",data:=.fields [.ref Q,.int 0 0].toArray},g,d,tk,os]) S ys:=a
   wp_walk using ZF k1,ZF k2
   exact#[_,rfl,h]
  ·have k1:Heap.IsList (Shared.heap #[J,g,d,tk,os]) Q xs:=K;have k2:Heap.IsTuple (Shared.heap #[J.push {cls:=.type "list_iterator",data:=.fields [.ref Q,.int 0 0].toArray},g,d,tk,os]) S ys:=a
   wp_walk using ZF k1,ZG k2
   exact#[_,rfl,h]
  ·have k1:Heap.IsTuple (Shared.heap #[J,g,d,tk,os]) Q xs:=K;have k2:Heap.IsList (Shared.heap #[J.push {cls:=.type "tuple_iterator",data:=.fields [.ref Q,.int 0 0].toArray},g,d,tk,os]) S ys:=a
   wp_walk using ZG k1,ZF k2
   exact#[_,rfl,h]
  ·have k1:Heap.IsTuple (Shared.heap #[J,g,d,tk,os]) Q xs:=K;have k2:Heap.IsTuple (Shared.heap #[J.push {cls:=.type "tuple_iterator",data:=.fields [.ref Q,.int 0 0].toArray},g,d,tk,os]) S ys:=a
   wp_walk using ZG k1,ZG k2
   exact#[_,rfl,h]
section
variable{prog:Program}{w:World}{A:Around}{E:Value->Shared->Prop}{s:Shared}
theorem yW(K:fK b1 s.heap l1 xs)(i:fK b2 s.heap l2 ys)
  (h:∀h',IsZip h' (s.heap.objs.size+4) (s.heap.objs.size+2) (s.heap.objs.size+3) .none->IsPair h' (s.heap.objs.size+2) (.ref s.heap.objs.size) (.ref<|s.heap.objs.size+1)->IsPair h' (s.heap.objs.size+3) .none .none->
   cM b1 h' s.heap.objs.size l1 0->cM b2 h' (s.heap.objs.size+1) l2 0->(∀c o,s.heap.get? c=B' o->h'.get? c=B' o)->Q (.ref<|s.heap.objs.size+4) {s with heap:=h'}):wpAny (model prog w) A (call (.type "zip") [.ref l1,.ref l2]) Q E s:=by
 refine callType_new F.called_zip (by decide) (F.typeCall_zip_2 _ _) (F.newCall_zip_2 _ _) (λobj=>F.args_object_init_3 obj _ _) F.entry_zip_new (DS b1 b2 l1 l2 xs ys) #[K,i,?_];have X:(Qs s.heap b1 l1).objs.size=s.heap.objs.size+1:=XA ..;have y:(Qt s.heap b1 b2 l1 l2).objs.size=s.heap.objs.size+2:=by rw[XA,X]
 have a:(Qu s.heap b1 b2 l1 l2).objs.size=s.heap.objs.size+3:=by rw[XA,y]
 have b:(Qv s.heap b1 b2 l1 l2).objs.size=s.heap.objs.size+4:=by rw[XA,a]
 have j:(Ma s.heap b1 b2 l1 l2).get? (Qv s.heap b1 b2 l1 l2).objs.size=B' _:=Xd _ rfl;have n:(Ma s.heap b1 b2 l1 l2).get? (Qu s.heap b1 b2 l1 l2).objs.size=B' _:=W3 _<|Xd _ rfl;have M:(Ma s.heap b1 b2 l1 l2).get? (Qt s.heap b1 b2 l1 l2).objs.size=B' _:=W3 _<|W3 _<|Xd _ rfl;have r:(Ma s.heap b1 b2 l1 l2).get? (Qs s.heap b1 l1).objs.size=B' _:=W3 _<|W3 _<|W3 _<|Xd _<|oK b2 l2;have I:(Ma s.heap b1 b2 l1 l2).get? s.heap.objs.size=B' _:=W3 _<|W3 _<|W3 _<|W3 _<|Xd _<|oK b1 l1;rw[y,a,b]at j;rw[X,y]at M;rw[a]at n;rw[X]at r;rw[b];exact#[#[_,j,rfl],h _ j M n (sO I) (sO r) λc o x=>W3 _<|W3 _<|W3 _<|W3 _<|W3 _ x]
end
def rB:Bool->List V->HO
 |false,xs=>.lst xs
 |true,xs=>.tup xs
theorem xq(h:rB b xs=rB b ys):xs=ys:=by
 cases b with
 |false=>injection h
 |true=>injection h
def QA(b1 b2:Bool)(l1 l2:Addr):It where
 go:=λi H=>∃xs ys x y,H l1=B' (rB b1 xs)/\H l2=B' (rB b2 ys)/\xs[i]?=B' x/\ys[i]?=B' y
 yld:=λi H v H'=>∃p x y,v= .ref p/\H p=G'/\H'=upd H p (.tup [x,y])/\∀xs ys,H l1=B' (rB b1 xs)->H l2=B' (rB b2 ys)->xs[i]?=B' x/\ys[i]?=B' y
 stop:=λi H=>∃xs ys,H l1=B' (rB b1 xs)/\H l2=B' (rB b2 ys)/\(xs.length<=i\/ys.length<=i)
theorem fZ{O:L2.St}(I:Inv X M' O H s)(h:H l=B' (rB b xs)):∃J:List Value,au xs J/\fK b s.heap l J.toArray:=by
 cases b with
 |false=>obtain⟨J,r,p,_⟩:=I.list<|.inl<|.inl h;exact#[J,r,p.isList]
 |true=>obtain⟨J,r,p,_⟩:=I.tuple<|.inl<|.inl h;exact#[J,r,p]
def WB(o k:Bool)(z W t g p Q S:Addr)(i:Nat)(h:Heap):Prop:=IsZip h z W t .none/\IsPair h W (.ref g) (.ref p)/\(∃a b,IsPair h t a b)/\cM o h g Q i/\cM k h p S i
theorem z9{K:PySem.W.Frag}{z TI TO g p Q l2:Addr}(ap:Az z TI TO g p):
  Turn P w K (.Tuple es k tp) (QA b1 b2 Q l2) [z,TI,TO,g,p] z (WB b1 b2 z TI TO g p Q l2) where
 mem:=by simp
 obj:=λi h st b M=>by
  obtain⟨s1,t,⟨a,b',s3⟩,s4,s5⟩:=st;simp only[Xi,Xj,Zs]at M;rcases M with rfl|rfl|rfl|rfl|rfl
  ·exact#[_,s1,λv q=>by cases q]
  ·exact#[_,t,λv q=>by cases q]
  ·exact#[_,s3,λv q=>by cases q]
  ·exact s4.obj
  ·exact s5.obj
 keep:=λi h h' st Z=>by obtain⟨s1,t,⟨a,b',s3⟩,s4,s5⟩:=st;exact#[Z z (by simp) _ s1,Z TI (by simp) _ t,#[a,b',Z TO (by simp) _ s3],s4.at λo e=>Z g (by simp) o e,s5.at λo e=>Z p (by simp) o e]
 item:=by
  intro X hP hw hK hc i S s O H E I r st j;subst hP hw hK;obtain⟨xs,ys,x,y,ju,kP,L,hy⟩:=j;obtain⟨s1,t,⟨a,b',s3⟩,s4,s5⟩:=st;obtain⟨j5,F,J⟩:=fZ I ju;obtain⟨bV,r2,p2⟩:=fZ I kP;obtain⟨u1,Nx,Wj⟩:=F.get L;obtain⟨u2,V1,Wl⟩:=r2.get hy;have ne:∀{l:Addr}{o:HO},H l=B' o->∀b∈[z,TI,TO,g,p],l≠b:=λ {l o} W b M e=>by subst e;rw[(r l M).1]at W;cases W
  have off:∀{l:Addr}{o:HO},H l=B' o->jX z TO g p l:=λ {l o} W=>#[ne W z<|by simp,ne W TO<|by simp,ne W g<|by simp,ne W p<|by simp]
  refine Ad ap (off ju) (off kP) s1 t s3 s4 s5 J p2 (by simpa using Nx) (by simpa using V1) λh' a1 a2 a3 a4 a5 a7=>#[_,rfl,?_]
  refine wpAny_letOwnedTupleGo_zip a1 λY c1 c2=>?_
  have Vm:s.heap.objs.size≠z:=λe=>by have:=Xg s1;rw[<-e]at this;exact YY _ this
  have Rp:=(c2.2 TI ap.TIz).trans<|a7 TI _ ap.TIz ap.TITO ap.TIi1 ap.TIi2 t;have Vh:=(c2.2 _ Vm).trans a5;have Z:∀b o,b∉[z,TI,TO,g,p]->s.heap.get? b=B' o->Y.get? b=B' o:=λb o M e=>by simp only[Xi,Xj,Zs,not_or]at M;exact(c2.2 b M.1).trans (a7 b o M.1 M.2.2.1 M.2.2.2.1 M.2.2.2.2 e)
  have lt:∀{b:Addr}{o:Obj},s.heap.get? b=B' o->b≠s.heap.objs.size:=λe=>XB (Xg e)
  have zH:∀b u,H b=B' u->b∉[z,TI,TO,g,p]:=λb u e M=>by rw[(r b M).1]at e;cases e
  have vh:=I.fresh;have I2:Inv X S O (upd H s.heap.objs.size<|.tup [x,y]) {s with heap:=Y,toks:=s.toks}:=by
   refine I.step (λb M=>#[(r b M).2.2.2.1,(r b M).2.1,(r b M).2.2.2.2.1,(r b M).2.2.2.2.2]) (λb o _ _ M e _=>Z b o M e) (λb o _ _ M e _=>#[o.slots,Z b o M e])
    (λb o M e n=>by rw[ax (lt e)];exact n) (λb o M e=>#[o,Z b o M e]) (λb zs e=>by rw[ax (aJ e vh)];exact e) (λb o u e=>by rw[ax (aJ e vh)];exact e)
    (λb ps e=>#[#[],by rw[ax (aJ e vh),e];simp]) (λm A=>?_) (λb u e=>?_) I.bare
   ·obtain⟨o,eJ,ep,ho,rr⟩:=A;exact#[o,eJ,ep,Z _ o (λM=>(r _ M).2.1 rfl) ho,rr]
   ·by_cases M:b=s.heap.objs.size
    ·subst M;rw[aB]at e;cases e;exact#[by show 2<=sizeLine;decide,[u1,u2],.cons Wj<|.cons Wl .nil,_,Vh,rfl,0,rfl,rfl,rfl]
    ·rw[ax M]at e;refine(I.hok b u e).kZ (λc v hc q=>Z c v ?_ q) (λc q=>by rw[ax (aJ q vh)];exact q) λc zs q=>by rw[ax (aJ q vh)];exact q
     rcases hc with rfl|hc
     ·exact zH c u e
     ·exact zH c _ hc
  refine#[.ref s.heap.objs.size,_,I2,rfl,#[s.heap.objs.size,x,y,rfl,vh,rfl,λkr Qr q1 q2=>?_],#[c1,Rp,#[u1,u2,(c2.2 TO ap.TOz).trans a2],a3.at λo e=>(c2.2 g ap.i1z).trans e,a4.at λo e=>(c2.2 p ap.i2z).trans e],λb M=>?_]
  ·rw[ju]at q1;rw[kP]at q2;rw[xq (Y7 q1).symm,xq (Y7 q2).symm];exact#[L,hy]
  ·rw[ax (λe=>?_)]
   ·exact(r b M).1
   ·have q:∃o,s.heap.get? b=B' o:=by
     simp only[Xi,Xj,Zs]at M;rcases M with rfl|rfl|rfl|rfl|rfl
     ·exact#[_,s1]
     ·exact#[_,t]
     ·exact#[_,s3]
     ·obtain⟨o,e,_⟩:=s4.obj;exact#[o,e]
     ·obtain⟨o,e,_⟩:=s5.obj;exact#[o,e]
    obtain⟨o,q⟩:=q;exact lt q e
 done:=by
  intro X hP hw hK hc i S s O H E I r st j;subst hP hw hK;obtain⟨xs,ys,ju,kP,Nc⟩:=j;obtain⟨s1,t,⟨a,b',s3⟩,s4,s5⟩:=st;obtain⟨j5,F,J⟩:=fZ I ju;obtain⟨bV,r2,p2⟩:=fZ I kP;have ne:∀{l:Addr}{o:HO},H l=B' o->∀b∈[z,TI,TO,g,p],l≠b:=λ {l o} W b M e=>by subst e;rw[(r l M).1]at W;cases W
  have off:∀{l:Addr}{o:HO},H l=B' o->jX z TO g p l:=λ {l o} W=>#[ne W z<|by simp,ne W TO<|by simp,ne W g<|by simp,ne W p<|by simp]
  have B:=F.length;have e2:=r2.length;refine DR (I.ok.hd hc) ap (off ju) (off kP) s1 t s3 s4 s5 J p2 (by simp;lia) λh' Z=>#[rfl,?_]
  have zH:∀b u,H b=B' u->b∉[z,TI,TO,g,p]:=λb u e M=>by rw[(r b M).1]at e;cases e
  have zB:∀b o,b∉[z,TI,TO,g,p]->s.heap.get? b=B' o->h'.get? b=B' o:=λb o M e=>by simp only[Xi,Xj,Zs,not_or]at M;exact Z b o M.1 M.2.2.1 M.2.2.2.1 M.2.2.2.2 e
  refine I.step (λb M=>#[(r b M).2.2.2.1,(r b M).2.1,(r b M).2.2.2.2.1,(r b M).2.2.2.2.2]) (λb o _ _ M e _=>zB b o M e) (λb o _ _ M e _=>#[o.slots,zB b o M e])
   (λb o M e n=>n) (λb o M e=>#[o,zB b o M e]) (λb zs e=>e) (λb o u e=>e) (λb ps e=>#[#[],by rw[e];simp]) (λm A=>?_) (λb u e=>?_) I.bare
  ·obtain⟨o,eJ,ep,ho,rr⟩:=A;exact#[o,eJ,ep,zB _ o (λM=>(r _ M).2.1 rfl) ho,rr]
  ·refine(I.hok b u e).kZ (λc v hc q=>zB c v ?_ q) (λc q=>q) λc zs q=>q
   rcases hc with rfl|hc
   ·exact zH c u e
   ·exact zH c _ hc
 self:=λ_ _ _ _ _ st h=>wpAny_pyIter_zip st.1 h
def NJ(z:TA):TI:=λO H R=>z O H λc j=>∃o k Q S xs ys,c=[.ref Q,.ref S]/\j Q=B' (rB o xs)/\j S=B' (rB k ys)/\R (QA o k Q S) j
theorem F2{X:Cx}{es:List Expr}{k:Nat}{tp:Pos}{a b:Expr}{z:TA}{p pos:Pos}(hg:Gl X "zip")(A:X.mg "zip"=G')(t:PA X [a,b] z)(w:starEach [a,b] X.env=[(K',eval a X.env),(K',eval b X.env)]:=by rfl)(nO:starEach [b] X.env=[(K',eval b X.env)]:=by rfl):
  PI X (.Tuple es k tp) (.Call (.Name "zip" p) [a,b] [] pos) (NJ z):=by
 intro S s O H R I h;refine Call_ (fQ I hg A boot_zip (Y8 (bS (t pos S s O H _ I h) λi s1#[c,j,g,F,l]=>?_) (by rw[w,nO]) (by rw[nO];rfl)));obtain⟨o,b2,Q,l2,xs,ys,e,B,E,q⟩:=l;subst e;obtain⟨u,v,rfl,m,rv⟩:=F.two;cases m;cases rv;obtain⟨x,_,J⟩:=fZ g B;obtain⟨bV,_,P⟩:=fZ g E;refine yW J P λh' g1 r g3 n g5 Z=>?_
 refine wpAny_pyIter_zip g1 ?_;have Y:=g.kept (t':=s1.toks) Z;refine#[s1.heap.objs.size+4,[s1.heap.objs.size+4,s1.heap.objs.size+2,s1.heap.objs.size+3,s1.heap.objs.size,s1.heap.objs.size+1],_,_,j,rfl,Y,z9 #[?_,?_,?_,?_,?_,?_,?_,?_,?_,?_],#[g1,r,#[_,_,g3],n,g5],λb M=>?_,q]
 iterate 10 (first|(apply XB;lia)|(apply Y3;lia))
 have y:s1.heap.objs.size<=b:=by simp only[Xi,Xj,Zs]at M;rcases M with h|h|h|h|h<;>(rw[h];first|exact Nat.le_add_right _ _|exact Xb _)
 exact g.nN y (g.hok.fresh y)
end Mx
end
section
namespace Mx
open PySem PySem.Spec PySem.W PyProof.Rows L2 PySem.SeqAt
def PD(x:Str):It:=#[λi _=>i<x.cps.size,λi H v L=>L=H/\∃c,x.cps[i]?=B' c/\v= .str ⟨#[c]⟩,λi _=>x.cps.size<=i]
theorem pe{K:PySem.W.Frag}(it)(x)(t)(a:Bool):Turn P w K tg (PD x) [it] it (λi h=>h.IsStrIter it (if a then "str_ascii_iterator" else "str_iterator") x t i) where
 mem:=XF.mpr rfl
 obj:=λi h st b M=>by cases XF.mp M;obtain⟨o,Z,Y,h3⟩:=st;exact#[o,Z,λv z=>by rw[h3]at z;cases z]
 keep:=λi h h' st k=>let #[o,B,r]:=st;#[o,k it Xc _ B,r]
 item:=by
  intro X l y hK hc i S s O H E I hf st j;subst l y hK;obtain⟨f0,f1,Q,A,m,F⟩:=hf it Xc;have W:Walks X.prog X.w X.A it [it] [it] x.cps.size (SignAt x) (λi h=>h.IsStrIter it (if a then "str_ascii_iterator" else "str_iterator") x t i):=by
   cases a
   ·exact Walks.strWide (I.ok.hd hc) it x t
   ·exact Walks.strAscii (I.ok.hd hc) it x t
  refine W.item i s _ _ j st λv h' tk n q kk=>?_
  obtain⟨c,u,Z,rfl⟩:=n;have g:Inv X S O H {s with heap:=h',toks:=tk}:=I.turned (λb o M e=>kk b o (λz=>M<|XF.mp z) e) f0 f1 A m F;obtain⟨o,g1,g2,g3⟩:=id q;exact#[_,rfl,sy g1 g2 g3 (by cases a<;>decide) #[.str ⟨#[c]⟩,H,g,#[u,rfl],#[rfl,c,Z,rfl],q,λb M=>(hf b M).1]]
 done:=by
  intro X l y hK hc i S s O H E I hf st j;subst l y hK;obtain⟨f0,f1,Q,A,m,F⟩:=hf it Xc;have hi:=Array.getElem?_eq_none j;cases a
  ·exact wpAny_pyNext_wide_end (I.ok.hd hc) st hi λh' L=>#[rfl,I.turned L f0 f1 A m F]
  ·exact wpAny_pyNext_ascii_end (I.ok.hd hc) st hi λh' L=>#[rfl,I.turned L f0 f1 A m F]
 self:=λ_ _ _ _ _ st h=>by
  cases a
  ·exact wpAny_pyIter_striter_wide st h
  ·exact wpAny_pyIter_striter_ascii st h
theorem CJ{O:L2.St}(I:Inv X M' O H s)(q:R (PD x) H):
  wpAny (model X.prog X.w) X.A (pyIter<|.str x t) (QF X M' O tg R) E s:=by
 cases ha:x.cps.all (· < 128)
 ·refine wpAny_pyIter_wide ha #[_,[s.heap.objs.size],_,_,H,rfl,I.kept λb o e=>W3 _ e,pe s.heap.objs.size x t K',#[_,Xd _ rfl,rfl,rfl],λb M=>?_,q];cases XF.mp M;exact I.nN (Xb _)<|I.hok.fresh<|Xb _
 ·refine wpAny_pyIter_ascii ha #[_,[s.heap.objs.size],_,_,H,rfl,I.kept λb o e=>W3 _ e,pe s.heap.objs.size x t J',#[_,Xd _ rfl,rfl,rfl],λb M=>?_,q];cases XF.mp M;exact I.nN (Xb _)<|I.hok.fresh<|Xb _
end Mx
end
section
namespace Mx
open PySem PySem.W PySem.Spec PyProof.Rows L2
theorem rl(P:n≠0)(h:∀i d,i<n->Q i {s with drawn:=d}):wpAny M A (choose src n) Q E s:=
 λ_ _ _=>#[P,h _ _<|Nat.mod_lt _<|Nat.pos_of_ne_zero P]
def AO(w:World):Bool:=w.params.followText "set-order"
section
variable{prog:Program}{w:World}{A:Around}{E:Value->Shared->Prop}{s:Shared}
theorem d5(h:Q (AO w) s):wpAny (model prog w) A setsByText Q E s:=by unfold setsByText;exact W1<|wpAny_askSetting<|W4 h
theorem nX(t:SetTable)(n):(t.orStandIn n).led=t.led:=by unfold SetTable.orStandIn;split<;>rfl
theorem vv(t)(es)(h:Int)(x):(layNew t es h x).2.1.led=t.led:=by
 unfold layNew;split
 ·dsimp only;rw[nX];rfl
 ·rfl
theorem qS(t)(es)(n):(relayAll t es n).2.1.led=t.led:=by
 unfold relayAll;split
 ·rename_i t' a h;unfold SetTable.relaid SetTable.laid at h;obtain⟨o,_,h⟩:=W2.mp h;cases h;dsimp only;split<;>rfl
 ·rfl
theorem mM(t)(es)(n)(J:t.plain=K'):(relayAll t es n).2.1.plain=K':=by
 unfold relayAll;split
 ·rename_i t' a h;unfold SetTable.relaid SetTable.laid at h;obtain⟨o,_,h⟩:=W2.mp h;cases h;dsimp only;split
  ·exact J
  ·rfl
 ·rfl
variable(prog w)in
def dc(h:Heap)(a:Addr)(O:List Str):Prop:=
 ∃(es:Array (Int×Value))(ep:Nat)(t:SetTable),h.get? a=B' {cls:=.type "set",dict:=G',data:=.set es ep t,slots:=#[]}/\O.Nodup/\au (O.map V.str) (es.toList.map (·.2))/\ElemsOf (strKind prog w) es.toList/\
  es.size<scanBound/\t.fits es.size=J'/\t.led= !AO w/\(es.size≠0->t.plain=K')
theorem dc.at(x:dc prog w h a ks)(g:∀o,h.get? a=B' o->h'.get? a=B' o):dc prog w h' a ks:=by obtain⟨es,ep,t,Z,r⟩:=x;exact#[es,ep,t,g _ Z,r]
theorem kq{l g:List (Int×Value)}(p:g.Perm l):∀{O:List Str},au (O.map V.str) (l.map (·.2))->∃H:List Str,H.Perm O/\au (H.map V.str) (g.map (·.2)):=by
 have hh:=p.symm;clear p
 induction hh with
 |nil=>intro O h;exact#[O,Yj _,h]
 |cons x h ih=>
  intro O r;cases O with
  |nil=>cases r
  |cons k O=>
   rw[XT,XT]at r;cases r with
   |cons c Q=>obtain⟨H,J,P⟩:=ih Q;exact#[k::H,J.cons k,by rw[XT,XT];exact .cons c P]
 |swap x y l=>
  intro O r;cases O with
  |nil=>cases r
  |cons k O=>
   cases O with
   |nil=>cases r with|cons _ Q=>cases Q
   |cons k2 O=>
    simp only[XT]at r;cases r with
    |cons c Q=>
     cases Q with
     |cons F Q=>exact#[k2::k::O,List.Perm.swap k k2 O,by simp only[XT];exact .cons F<|.cons c Q]
 |trans Z Y b a=>intro O r;obtain⟨S,J,F⟩:=b r;obtain⟨q,P,r2⟩:=a F;exact#[q,P.trans J,r2]
theorem uf{es:List (Int×Value)}{O:List Str}(r:au (O.map V.str) (es.map (·.2)))(k):(∃e∈es,(strKind prog w).is k e.2=J')↔k∈O:=by
 induction es generalizing O with
 |nil=>
  cases O with
  |nil=>simp
  |cons k O=>cases r
 |cons e es ih=>
  cases O with
  |nil=>cases r
  |cons k0 O=>
   simp only[XT]at r;cases r with
   |cons c Q=>
    obtain⟨t,B⟩:=c;have:(strKind prog w).is k e.2=J'↔k=k0:=by rw[B];show Value.isStrOf k (.str k0 t)=J'↔_;unfold Value.isStrOf;simp;exact eq_comm
    rw[Xi,<-ih Q,<-this];constructor
    ·rintro⟨x,L,q⟩;rcases Xi.mp L with rfl|L
     ·exact .inl q
     ·exact .inr #[x,L,q]
    ·rintro(q|⟨x,L,q⟩)
     ·exact#[e,by simp,q]
     ·exact#[x,W9 _ L,q]
theorem uc(h:Heap)(B:h.get? a=B' {cls:=.type "set",dict:=G',data:=.set es ep t,slots:=#[]})(F)(t'):
  (h.update a<|Obj.putSet F t').get? a=B' {cls:=.type "set",dict:=G',data:=.set F (ep+1) t',slots:=#[]}:=by
 have:=Heap.get?_update_self (Obj.putSet F t') B (by rw[putSet_of F t' rfl];rfl);rw[putSet_of F t' rfl]at this;exact this
theorem yI{g:Bool->Sem Unit}(j:∀(b:Bool){Z:Shared}{c:Unit->Shared->Prop},c () Z->wpAny (model prog w) A (g b) c E Z)
  (B:s.heap.get? a=B' {cls:=.type "set",dict:=G',data:=.set es ep t,slots:=#[]})    (y:ks.Nodup) (n:au (ks.map V.str) (jh.toList.map (·.2))) (Y:ElemsOf (strKind prog w) jh.toList)
  (M:jh.size<scanBound) (r:t2.fits jh.size=J') (W:t2.led= !AO w) (J:t2.plain=K')  
  (h:∀h' H,Heap.SameBut a s.heap h'->H.Perm ks->dc prog w h' a H->R (B' J') {s with heap:=h'}):
  wpAny (model prog w) A (do
    storeSet a jh t2
    if (!ug&&t2.tooFull)=J' then do
      g (relayAll t2 jh<|SetTable.grown jh.size).2.2
      storeSet a (relayAll t2 jh<|SetTable.grown jh.size).1 (relayAll t2 jh<|SetTable.grown jh.size).2.1
      pure (B' J')
     else pure (B' J')) R E s:=by
 refine W1<|wpAny_storeSet_of B rfl ?_<|fits_of_scanBound M;have k:=uc s.heap B jh t2;have u:=Heap.SameBut.update s.heap a<|Obj.putSet jh t2;split
 ·have p:=relayAll_perm t2 jh<|SetTable.grown jh.size;have K:=relayAll_fits t2 jh<|SetTable.grown jh.size;have o:=qS t2 jh<|SetTable.grown jh.size;have i:=mM t2 jh (SetTable.grown jh.size) J;generalize x:relayAll t2 jh (SetTable.grown jh.size)=Rl at p K o i ⊢;obtain⟨v,l,z⟩:=Rl;dsimp only at p K o i ⊢;obtain⟨q,P,LZ⟩:=kq p n;have m:v.size=jh.size:=by rw[<-Xq,p.length_eq,Xq]
  refine W1<|j _ ?_;refine W1<|wpAny_storeSet_of k rfl ?_<|fits_of_scanBound ⋯;exact W4<|h _ q (u.trans<|Heap.SameBut.update _ a _) P #[v,ep+2,l,uc _ k v l,P.nodup_iff.mpr y,LZ,Y.perm p,⋯,K,o.trans W,λ_=>i]
 ·exact W4<|h _ ks u (Yj _) #[jh,ep+1,t2,k,y,n,Y,M,r,W,λ_=>J]
theorem Aa(l:dc prog w s.heap a ks)(Ug:ks.length+1<scanBound)
  (h:∀b h' H,Heap.SameBut a s.heap h'->dc prog w h' a H->(∀y,y∈H↔y∈ks\/y=k)->H.length<=ks.length+1->Q b {s with heap:=h'}):
  wpAny (model prog w) A (setAddHashed a (.str k tk)<|(strKind prog w).hash k) Q E s:=by
 obtain⟨es,ep,t,B,kQ,n,Y,M,r,u,iD⟩:=l;have v:(strKind prog w).is k (.str k tk)=J':=strKind_is _ _ _ _;have i:(Value.str k tk).scannable=J':=rfl;have X:es.size=ks.length:=by have:=n.length;rw[Xf,Xf,Xq]at this;exact this.symm
 unfold setAddHashed setAddHashedIn;refine Zz<|W1<|wpAny_setState_of B rfl r ?_;dsimp only;rw[byScan_of i M Y];simp only[↓reduceIte];unfold setAddByScan;refine W1<|W1<|ZH<|W1<|wpAny_setScan_of v B rfl r Y ?_;cases I:List.findIdx? (λe=>(strKind prog w).is k e.2) es.toList with
 |some j=>
  dsimp only;obtain⟨hj,Np,_⟩:=List.findIdx?_eq_some_iff_getElem.mp I;have g:k∈ks:=(uf (prog:=prog) (w:=w) n k).mp #[es.toList[j],List.getElem_mem hj,Np];refine W4<|W4 ?_;have e:s={s with heap:=s.heap}:=by cases s;rfl
  rw[e];exact h _ _ ks (Heap.SameBut.refl a s.heap) #[es,ep,t,B,kQ,n,Y,M,r,u,iD] (λy=>#[.inl,λz=>z.elim id λq=>q▸g]) ⋯
 |none=>
  dsimp only;have g:k∉ks:=λg=>by obtain⟨e,P,J⟩:=(uf (prog:=prog) (w:=w) n k).mpr g;have:=List.findIdx?_eq_none_iff.mp I e P;rw[J]at this;exact Bool.noConfusion this
  have Rz:∀(b:Bool){Z:Shared}{c:Unit->Shared->Prop},c () Z->wpAny (model prog w) A (match b with|true=>rule "set.scan.the-table-gave-way"|false=>pure ()) c E Z:=
   λb Z c F=>by cases b<;>first|exact W4 F|exact ZH F
  have o:=layNew_perm t es ((strKind prog w).hash k)<|.str k tk;have O:=layNew_fits t es ((strKind prog w).hash k)<|.str k tk;have K:=vv t es ((strKind prog w).hash k)<|.str k tk;generalize hL:layNew t es ((strKind prog w).hash k) (.str k tk)=L at o O K ⊢;obtain⟨jh,p,ug,U3⟩:=L;dsimp only at o O K ⊢;rw[Array.toList_push]at o;have Nb:ElemsOf (strKind prog w) jh.toList:=(Y.push v i).perm o;have B0:au ((ks++[k]).map V.str) ((es.toList++[((strKind prog w).hash k,Value.str k tk)]).map (·.2)):=by rw[XU,XU];exact n.append (.cons #[tk,rfl] .nil)
  obtain⟨S,p1,NB⟩:=kq o B0;have VY:jh.size=es.size+1:=by rw[<-Xq,o.length_eq,Xm,Xq];rfl
  have W:jh.size<scanBound:=⋯
  have Nl:S.Nodup:=p1.nodup_iff.mpr (by
   rw[List.nodup_append];exact#[kQ,by simp,λx hx y m=>by rw[XF]at m;subst m;exact λe=>g<|e▸hx])
  have Ua:∀y,y∈S↔y∈ks\/y=k:=λy=>by rw[p1.mem_iff,Xs,XF]
  have Hx:S.length<=ks.length+1:=by rw[p1.length_eq,Xm];simp
  refine W1<|Rz _ ?_;split
  ·refine W1 ?_;rw[hashByValue_scannable 8 i];refine W4 ?_;exact yI Rz B Nl NB Nb W (t2:=if plainKind (Value.str k tk)=J' then p else{p with plain:=K'}) (by
     rw[Zm (by show¬(K'=J');simp)];exact SetTable.fits_plain_off O) (by rw[Zm (by show¬(K'=J');simp)];exact K.trans u) (by rw[Zm (by show¬(K'=J');simp)]) λh' H sb pm x=>W4<|h _ h' H sb x (λy=>pm.mem_iff.trans<|Ua y)<|by rw[pm.length_eq];exact Hx
  ·refine W1<|W4 ?_;simp only[↓reduceIte];exact yI Rz B Nl NB Nb W O (K.trans u) (by rename_i q;simpa using q) λh' H sb pm x=>W4<|h _ h' H sb x (λy=>pm.mem_iff.trans<|Ua y)<|by rw[pm.length_eq];exact Hx
end
section
variable{prog:Program}{w:World}{A:Around}{R:Result->Shared->Prop}{I:Addr}{fp wr:List Addr}{G:Array GenState->Array GenState->Prop}{n:Nat}{P:Nat->Value->Prop}{St:Nat->Shared->Prop}
theorem yH(W:WalksS prog w A.in1 I fp X G n P St)(S)(j:S∉fp)(xs:List Str)(Z:xs.length=n)(K:∀i v,P i v->∃x t,xs[i]?=B' x/\v= .str x t)(M:n+1<scanBound):
  ∀(k i:Nat)(s:Shared)(O:List Str),n-i=k->i<=n->St i s->dc prog w s.heap S O->(∀y,y∈O↔y∈xs.take i)->O.length<=i->
   (∀l H,Moved (S::X) G s l->dc prog w l.heap S H->(∀y,y∈H↔y∈xs)->R (.ok<|.ret .none) l)->
   codeAny (model prog w) A (.builtin "set.update.loop" #[[.ref S,.ref I],[]]) R s:=by
 have Y:S∉X:=λh=>j (W.sub _ h)
 have B:∀b∈X,b∈S::X:=λb M=>W9 _ M
 intro k
 induction k with
 |zero=>
  intro i s O g hi oJ hS hm hl hR;have Qa:i=n:=⋯
  subst Qa;refine codeAny_builtin F.entry_set_update_loop ?_;rw[Around.under_plainId F.plain_set_update_loop _];show wpAny _ A.in1 (pyNext (.ref I) >>=_) _ _ s;refine W1<|W.done s _ _ oJ λl c=>?_;show wpAny _ A.in1 (ret Value.none) _ _ l;exact W4 (hR l O (c.mono B) (hS.at λo e=>c.heap S o Y e) λy=>by rw[hm y,YS ⋯])
 |succ k ih=>
  intro i s O g hi oJ hS hm hl hR;have p:i<n:=⋯
  refine codeAny_builtin F.entry_set_update_loop ?_;rw[Around.under_plainId F.plain_set_update_loop _];show wpAny _ A.in1 (pyNext (.ref I) >>=_) _ _ s;refine W1<|W.item i s _ _ p oJ λv l hP E c=>?_;obtain⟨x,t,L,rfl⟩:=K i v hP;have z:dc prog w l.heap S O:=hS.at λo e=>c.heap S o Y e
  show wpAny _ A.in1 (holding [Value.str x t] (setAdd S<|.str x t) >>=_) _ _ l;refine W1<|Zz ?_;unfold setAdd;refine Zz ?_;refine W1<|(strKind prog w).pyHash (k:=x) (strKind_is _ _ _ _) ?_;refine Aa (s:={l with toks:=l.toks+1}) z ⋯ λb h' H q Q r kP=>?_
  refine W4 #[plainId_quiet F.plain_set_update_loop _,ih (i+1) _ H ⋯ p (W.frame _ l _ _ E (YX _) λb M o e=>?_) Q (λy=>?_) ⋯ λs'' J m u a=>?_]
  ·rw[q.2 b (λh:b=S=>j<|by rw[<-h];exact M)];exact e
  ·rw[r y,hm y,List.take_succ,L];simp
  ·refine hR s'' J (Moved.trans W.gtrans ((c.mono B).then_heap (YX _) λb o M e=>?_) m) u a;rw[q.2 b (λh:b=S=>M<|by rw[h];exact Xc)];exact e
end
namespace F
theorem sub_tuple_set:isSubtype (.type "tuple") (.type "set")=pure K':=by rw[isSubtype_type];kernel_rfl
theorem sub_tuple_frozenset:isSubtype (.type "tuple") (.type "frozenset")=pure K':=by rw[isSubtype_type];kernel_rfl
end F
def cW(w:World):Obj:={cls:=.type "set",dict:=G',data:=.set #[] 0<|.fresh 0 0<|!AO w}
section
variable{prog:Program}{w:World}{A:Around}{E:Value->Shared->Prop}{s:Shared}
theorem DB:dc prog w (s.heap.push<|cW w) s.heap.objs.size []:=
 #[#[],0,_,Xd _ rfl,List.nodup_nil,.nil,λe P=>by simp at P,by decide,by rfl,rfl,λz=>(z rfl).elim]
theorem code_set_new(a)(h:Q₁ (.ref s.heap.objs.size) {s with heap:=s.heap.push<|cW w}):
  codeAny (model prog w) A (.call (.builtin "set.__new__") #[[.type "set",a],[]]) (wants Q₁ E) s:=by
 refine codeAny_of_tree ?_;show wpAny _ A.in1 (do checkBuiltinCall "set.__new__" #[[.type "set",a],[]];again (.builtin "set.__new__" #[[.type "set",a],[]])) _ _ s;refine W1<|wpAny_of_eq (F.newCall_set_1 a)<|W4 #[plainId_quiet F.plain_set_new _,codeAny_builtin F.entry_set_new ?_];rw[Around.under_plainId F.plain_set_new _];unfold Builtin.«set.__new__» Builtin.Frozenset.newClass;have B:=sub_set_self;obtain⟨J,g,d,tk,os⟩:=s;dsimp only
 wp_walk
 refine wpAny_askSetting<|W4 ?_;dsimp only;simp only[newObj];refine W1<|wpAny_alloc<|W4 ?_;exact W4 h
theorem C9(x:fK b h l xs):∃o,h.get? l=B' o:=by
 cases b with
 |false=>obtain⟨o,B,_⟩:=x;exact#[o,B]
 |true=>obtain⟨o,B,_⟩:=x;exact#[o,B]
set_option maxHeartbeats 8000000 in
theorem pP{xs:List Str}
  (hh:A.handled=G') (W:fK b s.heap l items) (hi:au (xs.map V.str) items.toList) (M:items.size+1<scanBound)
  (h:∀(h':Heap)(tk:Nat)(O:List Str),dc prog w h' s.heap.objs.size O->(∀y,y∈O↔y∈xs)->
   (∀b o,s.heap.get? b=B' o->h'.get? b=B' o)->Q (.ref s.heap.objs.size) {s with heap:=h',toks:=tk}):
  wpAny (model prog w) A (call (.type "set") [.ref l]) Q E s:=by
 obtain⟨c,tl,VJ⟩:=F.called_set.mro;have Ub:=F.called_set.made;have nR:=F.called_set.sub;refine wpAny_call<|codeAny_of_tree ?_;show wpAny _ _ (callAny (.type "set") _) _ _ _;refine W4 #[Code.quiet_builtin _<|by decide +kernel,codeAny_builtin F.entry_type_call ?_];rw[Around.under_plain (weight_type_call_type "set" [.ref l] []) rfl];have Z:=F.called_set.notType;have Y:=F.called_set.canCreate;have T5:=F.typeCall_set_1 (.ref l)
 repeat (any_goals (first|assumption|wp_step))
 refine codeAny_mono (code_set_new (.ref l) (E:=E) (Q₁:=λobj s₁=>obj= .ref s.heap.objs.size/\s₁={s with heap:=s.heap.push<|cW w}) #[rfl,rfl]) λr s₁ I=>?_
 cases r with
 |error e=>exact I
 |ok fl=>
  cases fl with
  |ret obj=>
   obtain⟨rfl,rfl⟩:=I;have hT:Shared.TypeIs {s with heap:=s.heap.push<|cW w} (.ref s.heap.objs.size) "set":=#[_,Xd _ rfl,rfl];have WL:=F.called_set.init.lookup;have P7:=F.called_set.init.bind (.ref s.heap.objs.size)
   repeat (any_goals (first|assumption|wp_step))
   refine codeAny_mono (codeAny_call_builtin (R:=wants (λr q=>r= .none/\∃h' tk O,q={s with heap:=h',toks:=tk}/\dc prog w h' s.heap.objs.size O/\(∀y,y∈O↔y∈xs)/\
     (∀b o,s.heap.get? b=B' o->h'.get? b=B' o)) E) F.called_set.init.plain F.entry_set_init<|check_set_init_1 hT ?_) λr₂ q p=>?_
   ·have WJ:=W;obtain⟨m,VR⟩:=C9 W;have RC:l<s.heap.objs.size:=Xg VR;have T8:A.in1.in1.in1.handled=G':=by simp[hh]
    have k:(s.heap.push<|cW w).objs.size=s.heap.objs.size+1:=XA ..;have Nm:l≠(s.heap.push<|cW w).objs.size:=by rw[k];exact XB (Y0 RC)
    have Hq:s.heap.objs.size∉[(s.heap.push<|cW w).objs.size,l]:=by rw[k];simp only[Xi,XF,Xj,Zs,not_or];exact#[XB<|Y1 _,Y3 RC]
    have hlen:xs.length=items.size:=by have:=hi.length;rw[Xf,Xq]at this;exact this
    have Fb:∀(i:Nat)(v:Value),items[i]?=B' v->∃x t,xs[i]?=B' x/\v= .str x t:=λi v n=>by
     rw[<-Array.getElem?_toList]at n;cases L:xs[i]? with
     |none=>
      have B:=List.getElem?_eq_none_iff.mp L;have e2:=(W8.mp n).1;rw[Xq]at e2
      lia
     |some x=>obtain⟨u,X,t,ru⟩:=hi.get (i:=i) (x:=.str x) (by rw[Xp,L];rfl);rw[X]at n;cases n;exact#[x,t,rfl,ru]
    have fin:∀(o:Obj)(s':Shared)(H:List Str),Moved [s.heap.objs.size,(s.heap.push<|cW w).objs.size] (λa b=>b=a) {s with heap:=(s.heap.push<|cW w).push o} s'->dc prog w s'.heap s.heap.objs.size H->(∀y,y∈H↔y∈xs)->
      ∃h' tk O,s'={s with heap:=h',toks:=tk}/\dc prog w h' s.heap.objs.size O/\(∀y,y∈O↔y∈xs)/\(∀b o,s.heap.get? b=B' o->h'.get? b=B' o):=by
     intro o s' H hm z E6;obtain⟨h',g',d',S4,Od⟩:=s';have eg:g'=s.gens:=hm.gens;have ed:d'=s.drawn:=hm.drawn;have eo:Od=s.os:=hm.os;subst eg;subst ed;subst eo;refine#[h',S4,H,rfl,z,E6,λb g e=>?_];have M:=Xg e;have BL:b≠s.heap.objs.size:=XB M;have BM:b≠(s.heap.push<|cW w).objs.size:=by rw[k];exact XB (Y0 M)
     exact hm.heap b g (by simp only[Xi,XF,Xj,Zs,not_or];exact#[BL,BM]) (W3 _<|W3 _ e)
    cases b with
    |false=>
     obtain⟨ol,Jt,S,J,P⟩:=W;obtain⟨Sg,Cn,N6,vG⟩:=ol;simp only at S P;subst S;subst P;have Ju:(s.heap.push<|cW w).get? l=B' {cls:=.type "list",dict:=Cn,data:=.seq items J,slots:=vG}:=W3 _ Jt;have RN:=F.sub_list_set;have RM:=F.sub_list_frozenset;have j:(Value.type "list"==Value.type "dict")=K':=by decide
     have K:(s.heap.push<|cW w).IsList l items:=#[_,Ju,rfl,J,rfl];unfold Builtin.«set.__init__» noKeywords Builtin.Frozenset.updateFrom;generalize hPI:pyIter=PI
     wp_walk
     subst hPI;refine ZF K ?_;refine W1<|wpAny_runValue ?_;refine yH ((Walks.list T8 _ l Nm items).toS) s.heap.objs.size Hq xs hlen Fb M (items.size-0) 0 _ [] ⋯ (Y5 _)
      #[#[_,Xd _ rfl,rfl,rfl],(K.push _)] (DB.at λo e=>W3 _ e) (by simp) (Xb _) λs' H hm z E6=>?_
     show wpAny _ _ _ _ _ _;refine W4 ?_;show wpAny _ _ (ret Value.none) _ _ _;exact W4 #[rfl,fin _ s' H hm z E6]
    |true=>
     obtain⟨ol,Jt,S,J,P⟩:=W;obtain⟨Sg,Cn,N6,vG⟩:=ol;simp only at S P;subst S;subst P;have Ju:(s.heap.push<|cW w).get? l=B' {cls:=.type "tuple",dict:=Cn,data:=.seq items J,slots:=vG}:=W3 _ Jt;have RN:=F.sub_tuple_set;have RM:=F.sub_tuple_frozenset;have j:(Value.type "tuple"==Value.type "dict")=K':=by decide
     have K:(s.heap.push<|cW w).IsTuple l items:=#[_,Ju,rfl,J,rfl];unfold Builtin.«set.__init__» noKeywords Builtin.Frozenset.updateFrom;generalize hPI:pyIter=PI
     wp_walk
     subst hPI;refine ZG K ?_;refine W1<|wpAny_runValue ?_;refine yH ((Walks.tuple T8 _ l Nm items).toS) s.heap.objs.size Hq xs hlen Fb M (items.size-0) 0 _ [] ⋯ (Y5 _)
      #[#[_,Xd _ rfl,rfl,rfl],(K.push _)] (DB.at λo e=>W3 _ e) (by simp) (Xb _) λs' H hm z E6=>?_
     show wpAny _ _ _ _ _ _;refine W4 ?_;show wpAny _ _ (ret Value.none) _ _ _;exact W4 #[rfl,fin _ s' H hm z E6]
   ·cases r₂ with
    |error e=>exact p
    |ok fl₂=>
     cases fl₂ with
     |ret r=>
      obtain⟨rfl,h',tk,O,rfl,z,E6,LP⟩:=p
      repeat (any_goals (first|assumption|wp_step))
      exact h _ _ _ z E6 LP
     |_=>exact p.elim
  |_=>exact I.elim
end
namespace F
theorem eA:Manifest.owners.lookup (String.ofList ['r','o','t','a','r','e','t','i','_','t','e','s'].reverse)=B' Manifest.sig_set_iterator:=by kernel_rfl
theorem aE:Slot "set_iterator" "__next__" "set_iterator.__next__":=
 .of (owner:="set_iterator") (n:="__next__") (by rw[typeLookup_type,builtinLookup_eq_fast];kernel_rfl) (by decide +kernel) (by decide +kernel) (by decide +kernel)
  (by first|exact .inl (by decide +kernel)|exact .inr<|by decide +kernel) (by rw[isSubtype_type];kernel_rfl)
theorem cG:entryFor table "set_iterator.__next__"=B' Builtin.«set_iterator.__next__»:=entryFor_of_tree (by kernel_rfl)
theorem cy(a):argsOk "set_iterator.__next__" #[[a],[]]:=by unfold argsOk;rw[signature?_of (id:="set_iterator.__next__") (n:=['_','_','t','x','e','n','_','_']) (o:=['r','o','t','a','r','e','t','i','_','t','e','s']) (by kernel_rfl) eA];kernel_rfl
theorem cX:Slot "set_iterator" "__iter__" "set_iterator.__iter__":=
 .of (owner:="set_iterator") (n:="__iter__") (by rw[typeLookup_type,builtinLookup_eq_fast];kernel_rfl) (by decide +kernel) (by decide +kernel) (by decide +kernel)
  (by first|exact .inl (by decide +kernel)|exact .inr<|by decide +kernel) (by rw[isSubtype_type];kernel_rfl)
theorem fj:entryFor table "set_iterator.__iter__"=B' Builtin.«dict_keyiterator.__iter__»:=
 entryFor_alias (id':="dict_keyiterator.__iter__") (by kernel_rfl) (by first|rfl|decide +kernel|(unfold String.splitOn;simp +decide [String.splitOnAux])) (by decide +kernel) (by kernel_rfl)
theorem eZ(a):argsOk "set_iterator.__iter__" #[[a],[]]:=by unfold argsOk;rw[signature?_of (id:="set_iterator.__iter__") (n:=['_','_','r','e','t','i','_','_']) (o:=['r','o','t','a','r','e','t','i','_','t','e','s']) (by kernel_rfl) eA];kernel_rfl
theorem lR:entryFor table "set.__iter__"=B' Builtin.«frozenset.__iter__»:=
 entryFor_alias (id':="frozenset.__iter__") (by kernel_rfl) (by first|rfl|decide +kernel|(unfold String.splitOn;simp +decide [String.splitOnAux])) (by decide +kernel) (by kernel_rfl)
end F
abbrev Eb(h:Heap)(I:Addr)(f:Value)(i:Nat)(S:Addr)(n ep:Nat):Prop:=
 h.get? I=B' {cls:=.type "set_iterator",dict:=G',data:=.fields [f,rawInt i,.ref S,rawInt n,rawInt ep].toArray,slots:=#[]}
abbrev Av(h:Heap)(S:Addr)(es:Array (Int×Value))(ep:Nat)(t:SetTable):Prop:=h.get? S=B' {cls:=.type "set",dict:=G',data:=.set es ep t,slots:=#[]}
def Mh(w:World)(h:Heap)(f:Value)(i:Nat)(S:Addr)(es:Array (Int×Value))(ep:Nat)(t:SetTable)(c:List Value)(T:Addr):Prop:=
 (AO w=J'/\f=rawInt 0/\c=(pickOrder (w.params.setOrder S ep) es).toList.map (·.2))\/
 (AO w=K'/\t.led=J'/\es.size<=1/\c=es.toList.map (·.2)/\∃slot:Nat,f=rawInt slot/\(i=0->slot=0)/\(i=1->slot=t.place.getD 0 0+1))\/
 (AO w=K'/\1<es.size/\f= .ref T/\∃q:List Nat,h.get? T=B' {cls:=.type "tuple",dict:=G',data:=.seq (q.map λi=>rawInt (i:Nat)).toArray 0,slots:=#[]}/\q.length=es.size/\(∀j∈q,j<es.size)/\c=q.map λj=>(es.getD j (0,.none)).2)
def DU(w:World)(I S:Addr)(es:Array (Int×Value))(ep:Nat)(t:SetTable)(c:List Value)(T:Addr)(i:Nat)(h:Heap):Prop:=
 Av h S es ep t/\t.fits es.size=J'/\c.length=es.size/\∃f,Eb h I f i S es.size ep/\Mh w h f i S es ep t c T
section
variable{prog:Program}{w:World}{A:Around}{E:Value->Shared->Prop}{s:Shared}
theorem gk(B:Av s.heap S es ep t)(r:t.fits es.size=J')(M:AO w=J')
  (h:Q (pickOrder (w.params.setOrder S ep) es) s):wpAny (model prog w) A (setWalk S) Q E s:=by
 unfold setWalk;refine W1<|wpAny_setState_of B rfl r ?_;dsimp only;refine W1<|d5 ?_;rw[M,Zn rfl];exact W1<|wpAny_askSetting<|W4 h
theorem oo(a)(j):SetTable.below #[a] j=if a<j then 1 else 0:=by unfold SetTable.below;show SetTable.below.go #[a] j 1 0 1=_;unfold SetTable.below.go;simp only[Nat.zero_lt_one,Zo];show (if (#[a]:Array Nat).getD 0 j<j then SetTable.below.go #[a] j 0 1 1 else SetTable.below.go #[a] j 0 0 0)=_;rfl
theorem Dc(K:I≠S)(MV:I≠T)
  (st:DU w I S es ep t vs T i s.heap) (L:vs[i]?=B' x) (H:∀h',DU w I S es ep t vs T (i+1) h'->Heap.SameBut I s.heap h'->Q (B' x) {s with heap:=h'}):
  wpAny (model prog w) A (pyNext<|.ref I) Q E s:=by
 obtain⟨hS,r,W,f,u,y⟩:=st;have v:s.TypeIs (.ref I) "set_iterator":=#[_,u,rfl];have hi:i<es.size:=by rw[<-W];exact(W8.mp L).1
 unfold pyNext;refine W1 (wpAny_attempt<|Zw (name:=Str.ofString "__next__") v F.aE
  (Zx F.aE v F.cG ?_<|F.cy _))
 show wpAny _ _ (fieldsOf (.ref I) >>=_) _ _ s;refine W1<|wpAny_fieldsOf u rfl ?_;show wpAny _ _ (setEntries S >>=_) _ _ s;refine W1<|wpAny_setEntries_of hS rfl r ?_;show wpAny _ _ (if (((es.size:Int) != (es.size:Int))=J') then _ else _) _ _ s;rw[Zm (by simp)];refine W1<|W4 ?_;rcases y with ⟨o,k,M⟩|⟨o,k,M,n,slot,h,b6,b⟩|⟨o,k,M,q,n,h,b6,b⟩
 ·subst k;show wpAny _ _ (setNext S (0:Int).toNat ((i:Nat):Int).toNat ((ep:Nat):Int).toNat >>=_) _ _ s;simp only[Yg];refine W1 ?_;unfold setNext;refine W1<|wpAny_setState_of hS rfl r ?_;dsimp only;refine W1<|d5 ?_;rw[o,Zn rfl];rw[Zm (by simp)];refine W1<|gk hS r o<|W4 ?_;rw[M,Xp]at L;obtain⟨e,P,rfl⟩:=Xl.mp L;rw[Array.getElem?_toList]at P;rw[P];show wpAny _ _ (setField (.ref I) 0 (rawInt _) >>=_) _ _ s;refine W1<|XD u (by simp) λZ g B=>?_;refine W1<|XD g (by simp) λY p e2=>?_;refine W4 #[_,rfl,W4<|H Y #[?_,r,W,rawInt 0,p,.inl #[o,rfl,M]]<|B.trans e2];exact e2.extBut _ _ K.symm<|B.extBut _ _ K.symm hS
 ·subst h;have Nf:i=0:=⋯
  subst Nf;have VX:=b6 rfl;subst VX;have Z:es.size=1:=⋯
  have iQ:t.place.size=1:=by
   unfold SetTable.fits at r;rw[W5,beq_iff_eq]at r
   lia
  obtain⟨pl,J⟩:∃pl,t.place=#[pl]:=by
   cases O:t.place with
   |mk l=>
    rw[O]at iQ
    match l,iQ with
    |[a],_=>exact#[a,rfl]
  obtain⟨e,P⟩:∃e,es=#[e]:=by
   obtain⟨l⟩:=es
   match l,Z with
   |[a],_=>exact#[a,rfl]
  show wpAny _ _ (setNext S ((0:Nat):Int).toNat ((0:Nat):Int).toNat ((ep:Nat):Int).toNat >>=_) _ _ s;simp only[Yg];refine W1 ?_;unfold setNext;refine W1<|wpAny_setState_of hS rfl r ?_;dsimp only;refine W1<|d5 ?_;rw[o,Zm (by simp)];show wpAny _ _ (if (!t.plain&&decide (es.size>1))=J' then _ else _) _ _ s;rw[Zm (by rw[Z];simp)];show wpAny _ _ ((if (!t.led&& !es.isEmpty)=J' then _ else _) >>=_) _ _ s;rw[Zm (by rw[k];simp)];refine W1<|W4 ?_;have m:SetTable.below t.place 0=0:=by rw[J,oo];simp
  rw[m];have Vs:es[0]?=B' e:=by rw[P];rfl
  have X:t.place[0]?=B' pl:=by rw[J];rfl
  rw[Vs,X];refine W4 ?_;have uH:e.2=x:=by rw[n,P]at L;simpa using L
  show wpAny _ _ (setField (.ref I) 0 (rawInt _) >>=_) _ _ s;refine W1<|XD u (by simp) λZ g B=>?_;refine W1<|XD g (by simp) λY p e2=>?_;rw[<-uH]at H;refine W4 #[_,rfl,W4<|H Y #[?_,r,W,rawInt (pl+1:Nat),p,.inr<|.inl #[o,k,M,n,pl+1,rfl,λz=>⋯,λ_=>by rw[J];rfl]]<|B.trans e2];exact e2.extBut _ _ K.symm<|B.extBut _ _ K.symm hS
 ·subst M;rw[b,Xp]at L;obtain⟨j,hj,rfl⟩:=Xl.mp L;have T9:=b6 j<|YJ hj;show wpAny _ _ (seqItems? (.ref T) >>=_) _ _ s;refine W1<|ZI n rfl ?_;have c:(q.map λi=>rawInt ((i:Nat):Int)).toArray[((i:Nat):Int).toNat]?=B' (rawInt ((j:Nat):Int)):=by simp[hj]
  dsimp only;rw[c];show wpAny _ _ (setNextDrawn S ((j:Nat):Int).toNat ((ep:Nat):Int).toNat >>=_) _ _ s;simp only[Yg];refine W1 ?_;unfold setNextDrawn;refine W1<|wpAny_setState_of hS rfl r ?_;dsimp only;rw[Zm (by simp)];have Vt:es[j]?=B' es[j]:=by simp[T9]
  rw[Vt];refine W4 ?_;refine W1<|XD u (by simp) λZ g B=>?_;have hd:(es.getD j (0,.none)).2=es[j].2:=by simp[Array.getD,T9]
  rw[hd]at H;refine W4 #[_,rfl,W4<|H Z #[B.extBut _ _ K.symm hS,r,W,.ref T,g,.inr<|.inr #[o,k,rfl,q,B.extBut _ _ MV.symm n,h,b6,b]] B]
theorem GH(hh:A.handled=G')
  (st:DU w I S es ep t vs T vs.length s.heap) (H:∀h',Heap.ExtBut I s.heap h'->Q G' {s with heap:=h'}):
  wpAny (model prog w) A (pyNext (.ref I)) Q E s:=by
 obtain⟨hS,r,W,f,u,y⟩:=st;have v:s.TypeIs (.ref I) "set_iterator":=#[_,u,rfl];have stop:∀(Z:Heap){j:Value->Shared->Prop}{c:PySem.Fin->Shared->Prop},Heap.ExtBut I s.heap Z->(∀e h',Heap.ExtBut I s.heap h'->(∃o,h'.get? e=B' o/\o.cls= .type "StopIteration")->j (.ref e) {s with heap:=h'})->
   wpAny (model prog w) A.in1 (newExc (.type "StopIteration") [] >>=λe=>raiseNew e) c j {s with heap:=Z}:=by
  intro Z j c B L;refine W1 ?_;simp only[newExc,newTuple];refine W1 (ZC ?_ (by size_fits));refine W1 (m:=firstArgMember _ _) (wpAny_of_eq (a:=Value.none) (by first|rfl|(simp only[firstArgMember];rfl)) ?_);refine ZC ?_ (by size_fits);simp only[raiseNew];refine W1 (wpAny_handled ?_)
  first|rw[show A.in1.handled=G' from hh]|rw[hh]
  refine W1 (W4 (wpAny_throw ?_));exact L _ _ ((B.push _).push _) #[_,Xd _ rfl,rfl]
 have fin:∀e h',Heap.ExtBut I s.heap h'->(∃o,h'.get? e=B' o/\o.cls= .type "StopIteration")->wpAny (model prog w) A (do let __do_lift<-isInstance (.ref e) (Value.type "StopIteration");if __do_lift=J' then pure G' else throw (.ref e)) Q E {s with heap:=h'}:=by rintro e h' g ⟨o,ho,K⟩;refine W1 (wpAny_isInstance (T:="StopIteration") (b:=J') #[o,ho,K] isSubtype_stop ?_);exact W4 (H _ g)
 unfold pyNext;refine W1 (wpAny_attempt (Zw (name:=Str.ofString "__next__") v F.aE
  (Zx F.aE v F.cG ?_ (F.cy _))))
 show wpAny _ _ (fieldsOf (.ref I) >>=_) _ _ s;refine W1 (wpAny_fieldsOf u rfl ?_);show wpAny _ _ (setEntries S >>=_) _ _ s;refine W1 (wpAny_setEntries_of hS rfl r ?_);show wpAny _ _ (if (((es.size:Int) != (es.size:Int))=J') then _ else _) _ _ s;rw[Zm (by simp)];refine W1 (W4 ?_);rcases y with ⟨b1,k,M⟩|⟨b1,k,M,n,slot,h,b6,b7⟩|⟨b1,k,M,q,n,h,b6,b7⟩
 ·subst k;show wpAny _ _ (setNext S (0:Int).toNat ((vs.length:Nat):Int).toNat ((ep:Nat):Int).toNat >>=_) _ _ s;simp only[Yg];refine W1 ?_;unfold setNext;refine W1 (wpAny_setState_of hS rfl r ?_);dsimp only;refine W1 (d5 ?_);rw[b1,Zn rfl];rw[Zm (by simp)];refine W1 (gk hS r b1 (W4 ?_));have P:(pickOrder (w.params.setOrder S ep) es)[vs.length]?=G':=by rw[M,Xf,Xq];simp
  rw[P];show wpAny _ _ (setField (.ref I) 2 Value.none >>=_) _ _ s;exact W1 (XD u (by simp) λZ i1 B=>stop Z B.extBut fin)
 ·subst h;have Rv:es[SetTable.below t.place slot]?=G':=by
   by_cases h0:es.size=0
   ·simp[h0]
   ·have Z:es.size=1:=⋯
    have z:t.place.size=1:=by
     unfold SetTable.fits at r;rw[W5,beq_iff_eq]at r
     lia
    obtain⟨pl,J⟩:∃pl,t.place=#[pl]:=by
     cases O:t.place with
     |mk l=>
      rw[O]at z
      match l,z with
      |[a],_=>exact#[a,rfl]
    have:=b7 ⋯;rw[J]at this;have x:slot=pl+1:=this;rw[J,oo,Zn ⋯];simp[Z]
  show wpAny _ _ (setNext S ((slot:Nat):Int).toNat ((vs.length:Nat):Int).toNat ((ep:Nat):Int).toNat >>=_) _ _ s;simp only[Yg];refine W1 ?_;unfold setNext;refine W1 (wpAny_setState_of hS rfl r ?_);dsimp only;refine W1 (d5 ?_);rw[b1,Zm (by simp)];show wpAny _ _ (if (!t.plain&&decide (es.size>1))=J' then _ else _) _ _ s;rw[Zm (by rw[Xv ⋯];simp)];show wpAny _ _ ((if (!t.led&& !es.isEmpty)=J' then _ else _) >>=_) _ _ s;rw[Zm (by rw[k];simp)];refine W1 (W4 ?_);rw[Rv];refine W4 ?_;show wpAny _ _ (setField (.ref I) 2 Value.none >>=_) _ _ s;exact W1 (XD u (by simp) λZ i1 B=>stop Z B.extBut fin)
 ·subst M;show wpAny _ _ (seqItems? (.ref T) >>=_) _ _ s;refine W1 (ZI n rfl ?_);have Np:(q.map λi=>rawInt ((i:Nat):Int)).toArray[((vs.length:Nat):Int).toNat]?=G':=by rw[Yg,b7];simp
  dsimp only;rw[Np];show wpAny _ _ (setField (.ref I) 0 (rawInt 0) >>=_) _ _ s;refine W1 (XD u (by simp) λZ i1 B=>?_);exact W1 (XD i1 (by simp) λY p e2=>stop Y (B.trans e2).extBut fin)
theorem De(st:DU w I S es ep t vs T i s.heap)(h:Q (.ref I) s):
  wpAny (model prog w) A (pyIter<|.ref I) Q E s:=by
 obtain⟨hS,r,W,f,u,y⟩:=st;have v:s.TypeIs (.ref I) "set_iterator":=#[_,u,rfl];refine wpAny_pyIter_slot v F.cX<|Zx F.cX v F.fj ?_<|F.eZ _;show wpAny _ _ (ret<|.ref I) _ _ s;exact W4 #[_,rfl,"set_iterator",_,v,F.aE.lookup,h]
theorem DU.keep(st:DU w I S es ep t vs T i h)(g:∀b∈[I,S,T],∀o,h.get? b=B' o->h'.get? b=B' o):DU w I S es ep t vs T i h':=by
 obtain⟨hS,r,W,f,u,y⟩:=st;refine#[g S (by simp) _ hS,r,W,f,g I (by simp) _ u,?_];rcases y with b|b|⟨b1,k,M,q,n,b5⟩
 ·exact .inl b
 ·exact .inr<|.inl b
 ·exact .inr<|.inr #[b1,k,M,q,g T (by simp) _ n,b5]
theorem Ab(y:A.handled=G')(I S T)(K:I≠S)(a:I≠T)(es)(ep)(t)(c):
  Walks prog w A I [I,S,T] [I] c.length (λi v=>c[i]?=B' v) (DU w I S es ep t c T) where
 sub:=λb M=>by simp at M;simp[M]
 frame:=λ_ _ _ st g=>st.keep g
 item:=λi s Q E hi st H=>Dc K a st (x:=c[i]) (by simp[hi]) λh' q m=>H _ h' s.toks (by simp[hi]) q λb o M e=>m.extBut b o (λh=>M<|by simp[h]) e
 done:=λs Q E st H=>GH y st λh' W=>H h' s.toks λb o M e=>W b o (λh=>M<|by simp[h]) e
 self:=λ_ _ _ _ st H=>De st H
theorem iN{α:Type}:∀{l:List α}{i:Nat}(h:i<l.length),(l[i]::l.eraseIdx i).Perm l
 |a::l,0,h=>Yj _
 |a::l,i+1,h=>by
  have hi:i<l.length:=by simpa using h
  show (l[i]::a::l.eraseIdx i).Perm (a::l);exact(List.Perm.swap _ _ _).trans<|(iN hi).cons a
theorem ya(next):∀(b k:Nat)(left:List α)(c:Array α),left.length<=b->(pickOrder.go next b k left c).toList.Perm (c.toList++left)
 |0,k,left,c,h=>by have:left=[]:=List.length_eq_zero_iff.mp ⋯;subst this;unfold pickOrder.go;simp
 |b+1,k,left,c,h=>by
  unfold pickOrder.go;cases left with
  |nil=>simp
  |cons a r=>have p:next k % (a::r).length<(a::r).length:=Nat.mod_lt _ (by simp);rw[Xu p];dsimp only;refine(ya next b (k+1) _ _ (by rw[List.length_eraseIdx_of_lt p];simp at h ⊢;lia)).trans ?_;rw[Array.toList_push,Xk];refine List.Perm.append_left _ ?_;exact iN p
theorem oX(next)(xs:Array α):(pickOrder next xs).toList.Perm xs.toList:=by unfold pickOrder;simpa using ya next xs.size 0 xs.toList #[] (by simp)
theorem jT:∀(n:Nat)(xs:List α){s:Shared}{Q:List α->Shared->Prop},xs.length<=n->(∀ys d,ys.Perm xs->Q ys {s with drawn:=d})->wpAny (model prog w) A (drawOrder n xs) Q E s
 |0,xs,s,Q,P,h=>by have:xs=[]:=List.length_eq_zero_iff.mp ⋯;subst this;unfold drawOrder;exact W4<|h [] s.drawn<|Yj _
 |n+1,[],s,Q,P,h=>by unfold drawOrder;exact W4<|h [] s.drawn<|Yj _
 |n+1,x::xs,s,Q,P,h=>by unfold drawOrder;refine W1<|rl (by simp) λi d hi=>?_;rw[Xu hi];dsimp only;refine W1<|jT n _ (by rw[List.length_eraseIdx_of_lt hi];simp at P ⊢;lia) λys d' J=>W4 ?_;exact h _ d'<|(J.cons _).trans<|iN hi
end
theorem nE(r:au (ks.map V.str) us)(p:Qq.Perm us):∃H:List Str,H.Perm ks/\au (H.map V.str) Qq:=by
 have e:us=(us.map λv=>((0:Int),v)).map (·.2):=by rw[YC];simp[Function.comp_def]
 have K:Qq=(Qq.map λv=>((0:Int),v)).map (·.2):=by rw[YC];simp[Function.comp_def]
 rw[e]at r;rw[K];exact kq (p.map _) r
theorem mn{α:Type}(es:Array α)(d):(List.range es.size).map (λj=>es.getD j d)=es.toList:=by
 refine List.ext_getElem (by simp) λi Z Y=>?_
 simp at Z;simp[Array.getD,Z]
section
variable{prog:Program}{w:World}{A:Around}{E:Value->Shared->Prop}{s:Shared}
theorem G2(l:dc prog w s.heap S ks)
  (h:∀(h':Heap)(d':_)(I T:Addr)(es:Array (Int×Value))(ep:Nat)(t:SetTable)(c:List Value)(H:List Str),DU w I S es ep t c T 0 h'->I≠S->I≠T->I<h'.objs.size->S<h'.objs.size->T<h'.objs.size->s.heap.objs.size<=I->(T=S\/s.heap.objs.size<=T)->(∀b o,s.heap.get? b=B' o->h'.get? b=B' o)->H.Perm ks->au (H.map V.str) c->Q (.ref I) {s with heap:=h',drawn:=d'}):
  wpAny (model prog w) A (pyIter<|.ref S) Q E s:=by
 obtain⟨es,ep,t,B,y,n,Y,M,r,BU,iD⟩:=l;have v:s.TypeIs (.ref S) "set":=#[_,B,rfl];have a:S<s.heap.objs.size:=Xg B;refine wpAny_pyIter_slot v PySem.F.slot_set_iter<|Zx PySem.F.slot_set_iter v F.lR ?_<|PySem.F.args_set_iter_1 _;show wpAny _ _ (Builtin.Frozenset.sizeOf S >>=_) _ _ s;refine W1 ?_;unfold Builtin.Frozenset.sizeOf;refine W1<|wpAny_setEntries_of B rfl r<|W4 ?_;refine W1 ?_;unfold setDrawn;refine W1<|wpAny_setState_of B rfl r ?_;dsimp only;refine W1<|d5<|W4 ?_;show wpAny _ _ (if ((!AO w&&(!t.plain&&decide (es.size>1)))=J') then _ else _) _ _ s;by_cases W:AO w=J'
 ·rw[Zm (by rw[W];simp)];refine W1<|W4 ?_;refine W1<|wpAny_setEpoch_of B rfl r ?_;show wpAny _ _ (newFields "set_iterator" [rawInt 0,rawInt 0,.ref S,rawInt es.size,rawInt ep] >>=_) _ _ s;unfold newFields;refine W1<|ZC ?_;refine W4 #[_,rfl,"set_iterator",_,#[_,Xd _ rfl,rfl],F.aE.lookup,?_];obtain⟨H,J,P⟩:=nE n ((oX (w.params.setOrder S ep) es).map (·.2));have u:Eb (s.heap.push {cls:=.type "set_iterator",data:=.fields [rawInt 0,rawInt (0:Nat),.ref S,rawInt es.size,rawInt ep].toArray}) s.heap.objs.size (rawInt 0) 0 S es.size ep:=Xd _ rfl;refine h _ s.drawn s.heap.objs.size S es ep t ((pickOrder (w.params.setOrder S ep) es).toList.map (·.2)) H #[W3 _ B,r,?_,rawInt 0,u,.inl #[W,rfl,rfl]] (Y3 a) (Y3 a) ?_ ?_ ?_ (Xb _) (.inl rfl) (λb o e=>W3 _ e) J P
  ·rw[Xf,(oX _ es).length_eq,Xq]
  ·rw[XA];exact Y1 _
  ·rw[XA];exact Y0 a
  ·rw[XA];exact Y0 a
 ·have K:AO w=K':=by simpa using W
  by_cases Z:1<es.size
  ·have X:=iD ⋯;rw[Zn (by rw[K,X,Xz Z];rfl)];refine W1<|jT es.size (List.range es.size) (by simp) λq d g=>?_;refine W1 (m:=newTuple _) (wpAny_newTuple ?_<|by
    rw[Xf,g.length_eq,Yw];exact fits_of_scanBound M)
   generalize k:s.heap.push {cls:=.type "tuple",data:=.seq (q.map λ(i:Nat)=>rawInt (i:Int)).toArray}=iI;have k1:∀b o,s.heap.get? b=B' o->iI.get? b=B' o:=λb o e=>by rw[<-k];exact W3 _ e
   have O:iI.objs.size=s.heap.objs.size+1:=by rw[<-k,XA]
   have p:iI.get? s.heap.objs.size=B' {cls:=.type "tuple",dict:=G',data:=.seq (q.map λ(i:Nat)=>rawInt (i:Int)).toArray 0,slots:=#[]}:=by rw[<-k];exact Xd _ rfl
   refine W1<|wpAny_setEpoch_of (s:={s with heap:=iI,drawn:=d}) (k1 _ _ B) rfl r ?_;show wpAny _ _ (newFields "set_iterator" [.ref s.heap.objs.size,rawInt 0,.ref S,rawInt es.size,rawInt ep] >>=_) _ _ _;unfold newFields;refine W1<|ZC ?_;refine W4 #[_,rfl,"set_iterator",_,#[_,Xd _ rfl,rfl],F.aE.lookup,?_];have u:Eb (iI.push {cls:=.type "set_iterator",data:=.fields [.ref s.heap.objs.size,rawInt (0:Nat),.ref S,rawInt es.size,rawInt ep].toArray}) iI.objs.size (.ref s.heap.objs.size) 0 S es.size ep:=Xd _ rfl;have pm:(q.map λj=>(es.getD j (0,.none)).2).Perm (es.toList.map (·.2)):=by rw[<-mn es (0,.none),YC];exact g.map _
   obtain⟨H,J,P⟩:=nE n pm;refine h _ d iI.objs.size s.heap.objs.size es ep t (q.map λj=>(es.getD j (0,.none)).2) H #[W3 _<|k1 _ _ B,r,?_,.ref s.heap.objs.size,u,.inr<|.inr #[K,Z,rfl,q,W3 _ p,?_,λj hj=>?_,rfl]] (λe=>?_) (λe=>?_) ?_ ?_ ?_ ?_ (.inr<|Xb _) (λb o e=>W3 _<|k1 b o e) J P
   ·rw[Xf,g.length_eq,Yw]
   ·rw[g.length_eq,Yw]
   ·exact XX.mp<|g.mem_iff.mp hj
   ·rw[O]at e;exact Y3 (Y0 a) e
   ·rw[O]at e;exact Nat.succ_ne_self _ e
   ·rw[XA];exact Y1 _
   ·rw[XA,O];exact Y0<|Y0 a
   ·rw[XA,O];exact Y0<|Y1 _
   ·rw[O];exact YX _
  ·rw[Zm (by rw[Xv Z];simp)];refine W1<|W4 ?_;refine W1<|wpAny_setEpoch_of B rfl r ?_;show wpAny _ _ (newFields "set_iterator" [rawInt 0,rawInt 0,.ref S,rawInt es.size,rawInt ep] >>=_) _ _ s;unfold newFields;refine W1<|ZC ?_;refine W4 #[_,rfl,"set_iterator",_,#[_,Xd _ rfl,rfl],F.aE.lookup,?_];have u:Eb (s.heap.push {cls:=.type "set_iterator",data:=.fields [rawInt 0,rawInt (0:Nat),.ref S,rawInt es.size,rawInt ep].toArray}) s.heap.objs.size (rawInt (0:Nat)) 0 S es.size ep:=Xd _ rfl;refine h _ s.drawn s.heap.objs.size S es ep t (es.toList.map (·.2)) ks #[W3 _ B,r,?_,rawInt (0:Nat),u,.inr<|.inl #[K,by rw[BU,K];rfl,⋯,rfl,0,rfl,λ_=>rfl,λz=>⋯]] (Y3 a) (Y3 a) ?_ ?_ ?_ (Xb _) (.inl rfl) (λb o e=>W3 _ e) (Yj _) n
   ·rw[Xf,Xq]
   ·rw[XA];exact Y1 _
   ·rw[XA];exact Y0 a
   ·rw[XA];exact Y0 a
namespace F
theorem Fv:typeLookup (.type "set") "__len__"=pure (B'<|.builtin "set.__len__"):=by rw[typeLookup_type,builtinLookup_eq_fast];kernel_rfl
end F
theorem wg(y:A.handled=G')(hS:dc prog w s.heap S ks)
  (hQ:∀(h':Heap)d' tk(c:List Value)(H:List Str),(∀b o,s.heap.get? b=B' o->h'.get? b=B' o)->H.Perm ks->au (H.map V.str) c->Q c {s with heap:=h',drawn:=d',toks:=tk}):wpAny (model prog w) A (collect (.ref S)) Q E s:=by
 obtain⟨o0,VQ⟩:∃o,s.heap.get? S=B' o:=by obtain⟨es,ep,t,B,_⟩:=hS;exact#[_,B]
 have a:S<s.heap.objs.size:=Xg VQ;unfold collect;refine W1 (wpAny_runValue (codeAny_builtin PySem.F.entry_proto_collect ?_));rw[Around.under_plainId PySem.F.plain_proto_collect _];show wpAny _ A.in1 (newList [] >>=λl=>again (.builtin "list.__iadd__" #[[l,.ref S],[]])) _ _ s;refine W1 (ZC ?_);refine W4 #[plainId_quiet PySem.F.plain_list_iadd _,codeAny_builtin PySem.F.entry_list_iadd ?_];rw[Around.under_plainId PySem.F.plain_list_iadd _];generalize k:s.heap.push {cls:=.type "list",data:=.seq ([]:List Value).toArray}=h1;have k1:∀b o,s.heap.get? b=B' o->h1.get? b=B' o:=λb o e=>by rw[<-k];exact W3 _ e
 have O:h1.objs.size=s.heap.objs.size+1:=by rw[<-k,XA]
 have p:h1.get? s.heap.objs.size=B' (seqObj "list" #[] 0):=by rw[<-k];exact Xd _ rfl
 have Rm:dc prog w h1 S ks:=hS.at λo e=>k1 _ o e
 have P6:∀{h:Heap}{d:_},(∀b o,h1.get? b=B' o->h.get? b=B' o)->Shared.TypeIs {s with heap:=h,drawn:=d} (.ref S) "set":=λZ=>by obtain⟨es,ep,t,B,_⟩:=Rm;exact#[_,Z _ _ B,rfl]
 have P5:s.heap.objs.size≠S:=Y3 a;have LX:Builtin.List.listSameRef (.ref s.heap.objs.size) (.ref S)=K':=by simp[Builtin.List.listSameRef,P5]
 show wpAny _ A.in1 (Builtin.List.listExtendWith (.ref s.heap.objs.size) (.ref S) (.ref s.heap.objs.size)) _ _ _;unfold Builtin.List.listExtendWith;refine W1 (ZL (s:={s with heap:=h1}) (P6 (d:=s.drawn) λb o e=>e) ?_);rw[Zm (by rw[LX];decide)];refine W1 (G2 (s:={s with heap:=h1}) Rm λY j I T es ep t c H st EX MV TQ P4 T1 hIn vh Z p1 P=>?_);refine W1 (Zz ?_);unfold Builtin.List.listLengthHint;refine W1 (wpAny_specialOf (s:={s with heap:=Y,drawn:=j}) (P6 Z) F.Fv ?_)
 (generalize RA:("set.__len__":String)=id0;(fail_if_success (clear RA id0));wp_delta;rw[show splitId id0=B' ("set","__len__") from by subst RA;decide +kernel];subst RA)
 refine W1 (wpAny_isInstance (b:=J') (P6 Z) (by rw[isSubtype_type];kernel_rfl) ?_);rw[Zm (by simp)];refine W1 (m:=typeOf (.ref S)) (ZL (P6 Z) ?_);refine W4 ?_;rw[Zn (by decide +kernel)];refine W1 (ZH (W1 ?_));unfold Builtin.List.listTouch;have t2:Y.get? s.heap.objs.size=B' (seqObj "list" #[] 0):=Z _ _ p;refine W1 (listUpdate_at (s:={s with heap:=Y,drawn:=j}) t2 rfl ?_ (by decide) (by decide));obtain⟨J,t3⟩:∃e,(Y.update s.heap.objs.size (Obj.mapSeq λx=>x.push .none)).get? s.heap.objs.size=B' (seqObj "list" #[.none] e):=#[_,get?_update_seq t2 λx=>x.push .none];refine listUpdate_at (s:={s with heap:=Y.update s.heap.objs.size (Obj.mapSeq λx=>x.push .none),drawn:=j}) t3 rfl ?_ (by decide) (by decide);obtain⟨n,v⟩:∃e,((Y.update s.heap.objs.size (Obj.mapSeq λx=>x.push .none)).update s.heap.objs.size (Obj.mapSeq λx=>x.pop)).get? s.heap.objs.size=B' (seqObj "list" #[] e):=#[_,get?_update_seq t3 λx=>x.pop];generalize hh4:(Y.update s.heap.objs.size (Obj.mapSeq λx=>x.push .none)).update s.heap.objs.size (Obj.mapSeq λx=>x.pop)=h4 at v ⊢;have g:∀b o,b≠s.heap.objs.size->Y.get? b=B' o->h4.get? b=B' o:=λb o M e=>by rw[<-hh4];exact(Xy _ _ (Y6 M)).trans ((Xy _ _ (Y6 M)).trans e)
 have Ri:I≠s.heap.objs.size:=λe=>by rw[e,O]at hIn;exact Nat.not_succ_le_self _ hIn
 have Rr:T≠s.heap.objs.size:=λe=>by
  rcases vh with q|q
  ·exact P5 (e.symm.trans q)
  ·rw[e,O]at q;exact Nat.not_succ_le_self _ q
 have TU:s.heap.objs.size∉[I,S,T]:=by simp only[Xi,Xj,Zs,not_or];exact#[Ri.symm,P5,Rr.symm]
 have OT:DU w I S es ep t c T 0 h4:=st.keep λb M o e=>g b o (λq=>TU (q▸M)) e
 have V4:c.length<=sizeLine:=by
  obtain⟨_,_,hl,_⟩:=st;obtain⟨eJ,Hj,t',sJ,_,_,_,u,_⟩:=Rm;have q:es=eJ:=by have:=OT.1;have K:=g S _ P5.symm (Z _ _ sJ);unfold Av at this;rw[this]at K;cases K;rfl
  rw[hl,q];exact fits_of_scanBound u
 have W:=(Ab (prog:=prog) (w:=w) (A:=A.in1) y I S T EX MV es ep t c).toS;refine W4 #[plainId_quiet PySem.F.plain_extend_loop _,codeAny_extend_loopS W V4 _ TU _ c.length 0 _ _ _ rfl (Y5 _) OT v (ItemsOf.nil _) λs' r c' hm z X=>?_];show wpAny _ A (load s.heap.objs.size >>=_) _ _ s';refine W1 (wpAny_load z (W4 ?_));obtain⟨h',g',d',S4,Od⟩:=s';have eg:g'=s.gens:=hm.gens;have ed:d'=j:=hm.drawn;have L:Od=s.os:=hm.os;subst eg;subst ed;subst L;have MY:r.toList=c:=by
  refine List.ext_getElem (by rw[Xq];exact X.1) λi q1 K=>?_
  have:c[i]?=B' r[i]:=X.2 i r[i] (by simp);rw[Xu K]at this;rw[Array.getElem_toList];exact(Y7 this).symm
 show Q r.toList _;rw[MY];refine hQ h' d' S4 c H (λb o e=>?_) p1 P;have M:=Xg e;have BL:b≠s.heap.objs.size:=XB M;have BM:b≠I:=λq=>by subst q;have:=Xr M (Xh (by rw[O];exact YX _) hIn);exact YY _ this
 exact hm.heap b o (by simp only[Xi,Xj,Zs,not_or];exact#[BL,BM]) (g b o BL (Z b o (k1 b o e)))
end
end Mx
end
section
namespace Mx
open PySem PySem.W PySem.Spec PyProof.Rows L2 PySem.SeqAt MxSort
section
variable{prog:Program}{w:World}{A:Around}{E:Value->Shared->Prop}{s:Shared}
theorem xN:∀(f n r:Nat),r<=1->minRun' f n r<=n+r
 |0,n,r,_=>Nat.le_of_eq (by kernel_rfl)
 |f+1,n,r,h=>by
  rw[minRun'_succ];split
  ·lia
  ·have:=xN f (n/2) (max r<|n % 2) ⋯
   lia
theorem C6(hp:p.size=r+2)
  (hc:(kas_count (r+2) p).kasWp (kas_cmp prog w A κ it) (λz s'=>z=(r+2,p)/\s=s') s)
  (hQ:∀eN:SortSt,arrOf eN=p.map (kas_item it)->failedOf eN=G'->Q () eN s):kasC (model prog w) A E sortRuns' Q (kas_st κ it p) s:=by
 have z:(arrOf (kas_st κ it p)).size=r+2:=(Array.size_map ..).trans hp;have mr:=xN (r+2) (r+2) 0 ⋯;rw[sortRuns'_eq];refine Xa (kasC_get ?_);dsimp only;rw[z];generalize minRun' (r+2) (r+2) 0=mr at mr ⊢;refine Xa (kasC_range (kasC_cons (l:=1::List.range' 2 r) ?_));dsimp only;rw[Zm ⋯];refine Xa (kas_count_ ⋯ ⋯ (λm q s' _ _ _ h=>?_) hc);obtain⟨e,rfl⟩:=h;cases e;dsimp only;rw[Zm ⋯];refine Xa (kasC_get ?_);refine Xa (kasC_modify (Xe (kasC_cons ?_)));dsimp only;rw[Zn ⋯];refine Xe (Xa (kasC_range (kasC_cons (l:=1::List.range' 2 r) (Xa (kasC_get ?_)))));split
 ·exact Xe (Xe (hQ _ rfl rfl))
 ·rename_i c;exact absurd (Xb 1) c
theorem GC{key:Nat->O.α}{Q:SortSt->Shared->Prop}(T:Tells O key (kas_ask prog w A κ vs) vs.length s)(Y:2<=vs.length)(up:∀i,i+1<vs.length->O.blt (key<|i+1) (key i)=K')
  (H:∀(q:SortSt)(p:Array Nat),Ord vs.length p->Up key p vs.length->arrOf q=p.map (kas_item<|vs.toArray.zip vs.toArray)->failedOf q=G'->Q q s):
  wpAny (model prog w) A ((sortRuns').run<|SortSt.mk' κ (vs.toArray.zip vs.toArray) #[] 7 G') (λr s'=>Q r.2 s') E s:=by
 have J:Ord vs.length (List.range vs.length).toArray:=Yj _;have at_:∀i,i<vs.length->(List.range vs.length).toArray.getD i 0=i:=λi hi=>by simp[Array.getD,hi]
 obtain⟨r,I⟩:∃r,vs.length=r+2:=#[vs.length-2,⋯];have k:(vs.toArray.zip vs.toArray).size=vs.length:=by simp
 have e:=kas_range<|vs.toArray.zip vs.toArray;rw[k]at e;rw[show SortSt.mk' κ (vs.toArray.zip vs.toArray) #[] 7 G'=kas_st κ (vs.toArray.zip vs.toArray) (List.range vs.length).toArray by unfold kas_st;rw[e]];rw[kat_ask_eq rfl]at T
 suffices Up key (List.range vs.length).toArray vs.length from by
  refine C6 (r:=r) (Q:=λ_ q s'=>Q q s') (J.size.trans I) ?_ λq a f=>H q _ J this a f
  unfold kas_count;rw[KasT.kasWp_bind];refine pH T J (r+1) 1 (Xb _) ⋯ (λi j x y=>by rw[show i=j by lia];exact Yi _) λm a b c d=>?_
  have hm:m=r+2:=by
   by_cases l:m<1+(r+1)
   ·have:=d l;unfold c9 at this;rw[at_ m ⋯,at_ (m-1) ⋯]at this;have u:=up (m-1) ⋯;rw[show m-1+1=m by lia,this]at u;cases u
   ·lia
  subst hm;rw[Zn (Zh _)];exact#[rfl,rfl]
 have go:∀n,n<=vs.length->Up key (List.range vs.length).toArray n:=λn=>by
  induction n with
  |zero=>exact λ_ i j _ _=>by lia
  |succ n ih=>
   intro h;rcases Nat.eq_zero_or_pos n with rfl|Z
   ·exact λi j x y=>by rw[show i=j by lia];exact Yi _
   ·refine(ih ⋯).succ Z ?_;unfold c9;rw[at_ n ⋯,at_ (n-1) ⋯];have u:=up (n-1) ⋯;rw[show n-1+1=n by lia]at u;exact u
 exact go _<|Xb _
theorem Di(ho:s.heap.get? a=B' (seqObj "list" vs.toArray n))(h6:vs.length<=1000000)
  (hk:2<=vs.length->∀h',(∀b o,b≠a->s.heap.get? b=B' o->h'.get? b=B' o)->∃κ:SortKind,(∀(Q:SortKind->Shared->Prop)(E:Value->Shared->Prop),Q κ {s with heap:=h'}->wpAny (model prog w) A (keyKind' vs.toArray) Q E {s with heap:=h'})/\
   Tells O key (kas_ask prog w A κ vs) vs.length {s with heap:=h'})
  (Rb:vs.length<64\/∀i,i+1<vs.length->O.blt (key (i+1)) (key i)=K')
  (h:∀(p:Array Nat)(h':Heap)(e:Nat),Ord vs.length p->Up key p vs.length->(∀b o,b≠a->s.heap.get? b=B' o->h'.get? b=B' o)->h'.get? a=B' (seqObj "list" (p.toList.map λi=>vs.getD i Value.none).toArray e)->
   P (.done (.ret .none)) {s with heap:=h'}):wpAny (model prog w) A (Builtin.«list.sort» #[[.ref a],[]]) P E s:=by
 have ha:a<s.heap.objs.size:=Xg ho;have xu:vs.length<=sizeLine:=by rw[Zu];lia
 rw[list_sort_plain];refine W1 (listItems_at ho rfl (W1 (listUpdate_at ho rfl ?_ (by rw[W6];exact xu) (Y5 _))));obtain⟨e1,LR⟩:∃e1,(s.heap.update a (Obj.mapSeq λ_=>(#[]:Array Value))).get? a=B' (seqObj "list" #[] e1):=#[_,get?_update_seq ho λ_=>#[]];refine W1 (seqEpoch_at LR rfl (W1 (wpAny_newTuple ?_ xu)));refine W1 (wpAny_newList (Zz ?_) (Y5 _));show wpAny (model prog w) A _ P E {s with heap:=((s.heap.update a (Obj.mapSeq λ_=>(#[]:Array Value))).push (seqObj "tuple" vs.toArray 0)).push (seqObj "list" #[] 0)};generalize hh:((s.heap.update a (Obj.mapSeq λ_=>(#[]:Array Value))).push (seqObj "tuple" vs.toArray 0)).push (seqObj "list" #[] 0)=h1;have k1:∀b o,b≠a->s.heap.get? b=B' o->h1.get? b=B' o:=λb o hb e=>by rw[<-hh];exact W3 _ (W3 _ ((Xy s.heap _ (Y6 hb)).trans e))
 have LN:h1.get? a=B' (seqObj "list" #[] e1):=by rw[<-hh];exact W3 _ (W3 _ LR)
 dsimp only;have fin:∀(eN:SortSt)(p:Array Nat),Ord vs.length p->Up key p vs.length->(arrOf eN).map (·.2)=(p.toList.map λi=>vs.getD i Value.none).toArray->failedOf eN=G'->
   wpAny (model prog w) A (do
    let touched:=(<-seqEpoch a) != e1
    Builtin.List.listUpdate (.ref a) λ_=>(arrOf eN).map (·.2)
    if let B' e:=failedOf eN then rule "list.sort.comparison-raised";throw e
    if touched then rule "list.sort.modified";raiseError "ValueError" "list modified during sort"
    ret .none) P E {s with heap:=h1}:=λeN p hp hu Jw hf=>by
  refine W1 (seqEpoch_at (s:={s with heap:=h1}) LN rfl ?_);have la:(p.toList.map λi=>vs.getD i Value.none).toArray.size=vs.length:=by rw[W6,Xf,Xq,hp.size]
  rw[Jw];refine W1 (listUpdate_at (s:={s with heap:=h1}) LN rfl ?_ (Y5 _) (by rw[la];lia));rw[hf];simp only[bne_self_eq_false,X2,Zl];obtain⟨c2,xm⟩:∃c2,(h1.update a (Obj.mapSeq λ_=>(p.toList.map λi=>vs.getD i Value.none).toArray)).get? a=B' (seqObj "list" (p.toList.map λi=>vs.getD i Value.none).toArray c2):=#[_,get?_update_seq LN λ_=>_];exact W4 (h p _ c2 hp hu (λb o hb e=>(Xy h1 _ (Y6 hb)).trans (k1 b o hb e)) xm)
 by_cases h2:2<=vs.length
 ·have Jp:¬vs.toArray.size<2:=by rw[W6];lia
  rw[Zm Jp,Zm Jp];obtain⟨κ,VF,T⟩:=hk h2 h1 k1;refine W1 (VF _ _ ?_);refine W1 (ZA (Q:=λ(r:Unit×SortSt)s'=>s'={s with heap:=h1}/\∃p:Array Nat,Ord vs.length p/\Up key p vs.length/\(arrOf r.2).map (·.2)=(p.toList.map λi=>vs.getD i Value.none).toArray/\failedOf r.2=G') ?_ ?_ λ_ _ e=>e)
  ·rcases Rb with Rb|up
   ·exact kat_run (s:={s with heap:=h1}) (G:=λp s'=>s'={s with heap:=h1}/\Ord vs.length p/\Up key p vs.length)
     (Q:=λeN s'=>s'={s with heap:=h1}/\∃p:Array Nat,Ord vs.length p/\Up key p vs.length/\(arrOf eN).map (·.2)=(p.toList.map λi=>vs.getD i Value.none).toArray/\failedOf eN=G') rfl h2 Rb
     (λp eN s' z1 z2 z3 z4=>#[z4.1,p,z4.2.1,z4.2.2,kat_snds rfl z2,z3]) (GM T ⋯ λp' hp hu=>#[rfl,hp,hu])
   ·exact GC (s:={s with heap:=h1}) (Q:=λeN s'=>s'={s with heap:=h1}/\∃p:Array Nat,Ord vs.length p/\Up key p vs.length/\(arrOf eN).map (·.2)=(p.toList.map λi=>vs.getD i Value.none).toArray/\failedOf eN=G') T h2 up λeN p hp hu e f=>#[rfl,p,hp,hu,kat_snds rfl e,f]
  rintro⟨⟨⟩,eN⟩ s' ⟨rfl,p,hp,hu,Jw,hf⟩;exact fin eN p hp hu Jw hf
 ·have Jp:vs.toArray.size<2:=by rw[W6];lia
  rw[Zn Jp,Zn Jp];refine W1 (W4 ?_);rw[StateT.run_pure];refine W1 (W4 ?_);refine fin (SortSt.mk' general' (vs.toArray.zip vs.toArray) #[] 7 G') (List.range vs.length).toArray (by unfold MxSort.Ord;simp) (λi j hij hj=>?_) ?_ rfl
  ·rw[show i=j by lia];exact Yi _
  ·apply Array.toList_inj.mp;show (((vs.toArray.zip vs.toArray)).map (·.2)).toList=_
   match vs,h2 with
   |[],_=>simp
   |[v],_=>simp
   |_::_::_,h2=>exact absurd (by simp) h2
end
end Mx
end
section
namespace Mx
def L8:List D->Bool
 |a::b::l=> !D.lt b a&&L8 (b::l)
 |_=>J'
def SL(ds:List D):Bool:=decide (ds.length<64)||(decide (ds.length<1000000)&&L8 ds)
theorem SL.lt(h:SL ds=J'):ds.length<1000000:=by
 unfold SL at h;rw[XQ,W5]at h;rcases h with h|⟨h,_⟩
 ·have:=W7 h
  lia
 ·exact W7 h
theorem SL.of(h:ds.length<64):SL ds=J':=by unfold SL;rw[Xz h];rfl
theorem DE:∀{ds:List D},(ds.Pairwise λa b=>D.lt b a=K')->L8 ds=J'
 |[],_=>rfl
 |[_],_=>rfl
 |a::b::l,h=>by have h:=YN.mp h;unfold L8;rw[h.1 b Xc,DE h.2];rfl
theorem DD:∀{ds:List D},L8 ds=J'->∀i,i+1<ds.length->D.lt (ds.getD (i+1)<|.int 0) (ds.getD i<|.int 0)=K'
 |[],_,i,h=>absurd h (by simp)
 |[_],_,i,h=>absurd h (by simp)
 |a::b::l,h,i,hi=>by
  unfold L8 at h;rw[W5,X4]at h;cases i with
  |zero=>exact h.1
  |succ i=>exact DD h.2 i (by simpa using hi)
theorem SL.rise(h:ds.length<1000000)(p:ds.Pairwise λa b=>D.lt b a=K'):SL ds=J':=by unfold SL;rw[Xz h,DE p];exact X7 _
theorem SL.up(e:n=ds.length)(h:SL ds=J'):n<64\/∀i,i+1<n->D.lt (ds.getD (i+1)<|.int 0) (ds.getD i<|.int 0)=K':=by subst e;unfold SL at h;rw[XQ,W5]at h;exact h.imp W7 λz=>DD z.2
end Mx
end
section
namespace Mx
open PySem PySem.W PySem.Spec PyProof.Rows L2 PySem.SeqAt MxSort
inductive SK where
 |tt|ts|ti|s|i
 deriving DecidableEq
def SK.ok:SK->D->Prop
 |.tt,d=>∃f r,d= .tup (.tup f::r)
 |.ts,d=>∃f r,d= .tup (.str f::r)
 |.ti,d=>∃f r,d= .tup (.int f::r)
 |.s,d=>∃x,d= .str x
 |.i,d=>∃x,d= .int x
def SK.κ:SK->SortKind
 |.tt=>tuples' K'
 |.ts=>tuples' J'
 |.ti=>tuples' J'
 |.s=>oneType'
 |.i=>oneType'
def SK.f:SK->String
 |.tt=>"tuple"
 |.ts=>"str"
 |.s=>"str"
 |_=>"int"
section
variable{P:Program}{w:World}{H:Hp}{prog:Program}{s:Shared}{A:Around}
theorem Ft(z:Zp K' A s (v::us) (wv::vs) (d::ds) (e::es))
  (hs:b=J'->∀{E:Value->Shared->Prop},wpAny (model prog w) A (oneLt' J' v wv) (λr l=>r=D.lt d e/\l=s) E s)
  (hlen:ds.length+m=es.length+n) (q:Q (D.gi (d::ds) (e::es)) s):KatLex prog w A b (decide (n<m)) Q ((v::us).zip (wv::vs)) 0 s:=by
 cases z with
 |cons he W p=>
  rw[YT];rw[D.b8]at q;refine kat_cons<|he prog w _ _ ?_;by_cases a:d=e
  ·rw[(D.dw d e).mpr a];rw[Zn a]at q;exact kat_yes<|Fs p 1 ⋯ hlen q
  ·rw[show D.iH d e=K' by rw[D.jg];exact Xv a];rw[Zm a]at q;refine kat_no ?_;cases b with
   |false=>rw[show (K'&&0==0)=K' by rfl];exact kat_one v wv<|W a prog w _ _ q
   |true=>rw[show (J'&&0==0)=J' by rfl];exact ZA (hs rfl) (λr l#[B,e2]=>by subst B e2;exact q) λ_ _ x=>x
theorem qt(hok:dZ P w H s.heap)(X:A.units+n<cLine)(hd:D.dep (.tup (d0::dr))<=n+1)(W:D.eS (.tup (d0::dr)) (.tup (e0::er)))
  (hs:b=J'->(∃p q,d0= .str p/\e0= .str q)\/∃p q,d0= .int p/\e0= .int q) (L:DV H x (.tup (d0::dr))) (m:DV H y (.tup (e0::er))) (rx:RelV x u) (c:RelV y v)  
  (q:Q (D.lt (.tup (d0::dr))<|.tup (e0::er)) s):wpAny (model prog w) A (keyLt' (tuples' b) u v) Q E s:=by
 obtain⟨a,xs,l,B,e2⟩:=L.ao;subst l;cases rx;obtain⟨h,ys,l,Y,f2⟩:=m.ao;subst l;cases c;obtain⟨J,F,o,ho,K,k,Z⟩:=aV hok B;obtain⟨bV,r2,o2,vj,xm,k2,BQ⟩:=aV hok Y;obtain⟨x0,xr,rfl,LL,TF⟩:=e2.cons_inv;obtain⟨y0,yr,rfl,TH,U5⟩:=f2.cons_inv;cases F with
 |cons r10 r1r=>
  cases r2 with
  |cons r20 r2r=>
   rename_i u0 ur v0 vr;have r:D.bq (d0::dr)<=n:=by unfold D.dep at hd;lia
   have g:D.jz (d0::dr) (e0::er):=by unfold D.eS at W;exact W
   have zz:=DT hok X (λd e x y u v I i ND NF rx2 ry2=>Fy hok n d e x y u v A I X i ND NF rx2 ry2) r g e2 f2 (.cons r10 r1r)<|.cons r20 r2r;refine kat_lt ho Z vj BQ ?_;have l1:(u0::ur).toArray.size=(d0::dr).length:=by rw[W6,Xo,Xo,<-r1r.length,TF.length]
   have S:(v0::vr).toArray.size=(e0::er).length:=by rw[W6,Xo,Xo,<-r2r.length,U5.length]
   have q':Q (D.gi (d0::dr) (e0::er)) s:=by have z:=q;unfold D.lt at z;exact z
   refine Ft zz (λM=>?_) (by rw[l1,S];simp only[Xo];lia) q';intro E';rcases hs M with ⟨p,q2,rfl,rfl⟩|⟨p,q2,rfl,rfl⟩
   ·have O:=LL.str_inv;have j:=TH.str_inv;subst O j;obtain⟨t,rfl⟩:=r10;obtain⟨t',rfl⟩:=r20;exact oneLt_str #[by unfold D.lt;rfl,rfl]
   ·have O:=LL.int_inv;have j:=TH.int_inv;subst O j;obtain⟨t,rfl⟩:=r10;obtain⟨t',rfl⟩:=r20;exact oneLt_int #[by unfold D.lt;rfl,rfl]
theorem oO(x y):keyLt' oneType' x y=oneLt' J' x y:=rfl
theorem Fu(hok:dZ P w H s.heap)(X:A.units+n<cLine)(k:SK)(hd:D.dep d<=n+1)(W:D.eS d e)(J:k.ok d)(a:k.ok e)(L:DV H x d)(m:DV H y e)(M:RelV x u)(c:RelV y v)
  (q:Q (D.lt d e) s):wpAny (model prog w) A (keyLt' k.κ u v) Q E s:=by
 cases k with
 |tt=>obtain⟨f,r,rfl⟩:=J;obtain⟨l,Z,rfl⟩:=a;exact qt (b:=K') hok X hd W (λz=>nomatch z) L m M c q
 |ts=>obtain⟨f,r,rfl⟩:=J;obtain⟨l,Z,rfl⟩:=a;exact qt hok X hd W (λ_=>.inl #[_,_,rfl,rfl]) L m M c q
 |ti=>obtain⟨f,r,rfl⟩:=J;obtain⟨l,Z,rfl⟩:=a;exact qt hok X hd W (λ_=>.inr #[_,_,rfl,rfl]) L m M c q
 |s=>obtain⟨f,rfl⟩:=J;obtain⟨l,rfl⟩:=a;have O:=L.str_inv;have j:=m.str_inv;subst O j;obtain⟨t,rfl⟩:=M;obtain⟨t',rfl⟩:=c;show wpAny _ _ (keyLt' oneType' _ _) _ _ _;rw[oO];exact oneLt_str q
 |i=>obtain⟨f,rfl⟩:=J;obtain⟨l,rfl⟩:=a;have O:=L.int_inv;have j:=m.int_inv;subst O j;obtain⟨t,rfl⟩:=M;obtain⟨t',rfl⟩:=c;show wpAny _ _ (keyLt' oneType' _ _) _ _ _;rw[oO];exact oneLt_int q
theorem xE(hok:dZ P w H s.heap){k:SK}(g:k= .tt\/k= .ts\/k= .ti):∀{xs:List V}{i:List Value}{ds:List D},bj H xs ds->au xs i->(∀d∈ds,k.ok d)->
  ∃fs,KatTups s.heap i fs/\fs.length=i.length/\∀v∈fs,Looks (model prog w) s.heap (typeOf v) (.type k.f)
 |[],i,ds,_,r,_=>by cases r;exact#[[],KatTups.nil,rfl,λv n=>absurd n<|by simp]
 |x::xs,i,ds,h,r,hf=>by
  cases r with
  |cons c Q=>
   cases ds with
   |nil=>unfold bj at h;exact h.elim
   |cons d ds=>
    obtain⟨fs,t,l,lk⟩:=xE hok g h.2 Q λd hd=>hf d (W9 _ hd)
    have sh:∃d0 dr,d= .tup (d0::dr)/\((k= .ts/\∃p,d0= .str p)\/(k= .ti/\∃p,d0= .int p)\/(k= .tt/\∃p,d0= .tup p)):=by
     have z:=hf d Xc;rcases g with rfl|rfl|rfl
     ·obtain⟨f,r,rfl⟩:=z;exact#[_,_,rfl,.inr<|.inr #[rfl,_,rfl]]
     ·obtain⟨f,r,rfl⟩:=z;exact#[_,_,rfl,.inl #[rfl,_,rfl]]
     ·obtain⟨f,r,rfl⟩:=z;exact#[_,_,rfl,.inr<|.inl #[rfl,_,rfl]]
    obtain⟨d0,dr,rfl,u⟩:=sh;obtain⟨a,ys,q1,B,E⟩:=h.1.ao;subst q1;cases c;obtain⟨J,F,o,ho,K,Z,BP⟩:=aV hok B;obtain⟨Y,m,rfl,q,W⟩:=E.cons_inv;cases F with
    |cons b j=>
     rename_i A X;refine#[A::fs,KatTups.cons ho K BP (by simp) t,by simp[l],λv n=>?_];rcases Xi.mp n with rfl|n
     ·rcases u with ⟨M,p,rfl⟩|⟨M,p,rfl⟩|⟨M,p,rfl⟩
      ·have O:=q.str_inv;subst O;obtain⟨t',rfl⟩:=b;rw[M];exact Looks.of_pure rfl
      ·have O:=q.int_inv;subst O;obtain⟨t',rfl⟩:=b;rw[M];exact Looks.of_pure rfl
      ·obtain⟨L,y,q2,I,g2⟩:=q.ao;subst q2;cases b;obtain⟨bV,_,o2,vj,S,_⟩:=aV hok I;rw[M];show Looks (model prog w) _ _ (Value.type "tuple");rw[<-S];exact(Looks.ld vj).andThen .now
     ·exact lk v n
theorem jP:∀{xs:List V}{i:List Value}{ds:List D},bj H xs ds->au xs i->(∀d∈ds,SK.s.ok d)->∃ss,StrsAre i ss
 |[],i,ds,_,r,_=>by cases r;exact#[[],.nil]
 |x::xs,i,ds,h,r,hf=>by
  cases r with
  |cons c Q=>
   cases ds with
   |nil=>unfold bj at h;exact h.elim
   |cons d ds=>
    obtain⟨ss,q⟩:=jP h.2 Q λd hd=>hf d (W9 _ hd)
    obtain⟨y,rfl⟩:=hf d Xc;have O:=h.1.str_inv;subst O;obtain⟨t,rfl⟩:=c;exact#[y::ss,.cons y t q]
theorem xy:∀{xs:List V}{i:List Value}{ds:List D},bj H xs ds->au xs i->(∀d∈ds,SK.i.ok d)->∃ss,IntsAre i ss
 |[],i,ds,_,r,_=>by cases r;exact#[[],.nil]
 |x::xs,i,ds,h,r,hf=>by
  cases r with
  |cons c Q=>
   cases ds with
   |nil=>unfold bj at h;exact h.elim
   |cons d ds=>
    obtain⟨ss,q⟩:=xy h.2 Q λd hd=>hf d (W9 _ hd)
    obtain⟨y,rfl⟩:=hf d Xc;have O:=h.1.int_inv;subst O;obtain⟨t,rfl⟩:=c;exact#[y::ss,.cons y t q]
theorem NR(hok:dZ P w H s.heap)(k:SK)(hd:bj H xs ds)(r:au xs us)(hf:∀d∈ds,k.ok d)(Y:2<=us.length)(q:Q k.κ s):
  wpAny (model prog w) A (keyKind' us.toArray) Q E s:=by
 have tup:k= .tt\/k= .ts\/k= .ti->wpAny (model prog w) A (keyKind' us.toArray) Q E s:=λg=>by obtain⟨fs,t,l,lk⟩:=xE hok g hd r hf;refine kat_kind t ⋯ lk (by rcases g with rfl|rfl|rfl<;>rfl) ?_;rcases g with rfl|rfl|rfl<;>exact q
 cases k with
 |tt=>exact tup<|.inl rfl
 |ts=>exact tup<|.inr<|.inl rfl
 |ti=>exact tup<|.inr<|.inr rfl
 |s=>
  obtain⟨ss,hs⟩:=jP hd r hf
  match us,Y,hs with
  |v1::v2::c,_,hs=>rw[keyKind_strs hs];exact W4 q
 |i=>
  obtain⟨ss,hs⟩:=xy hd r hf
  match us,Y,hs with
  |v1::v2::c,_,hs=>rw[keyKind_ints hs];exact W4 q
end
def i8(ds:List D):Prop:=SL ds=J'/\(2<=ds.length->D.bq ds<=100/\(∃k:SK,∀d∈ds,k.ok d)/\∀d∈ds,∀e∈ds,D.eS d e)
section
variable{X:Cx}{M':List (Addr×Obj)}{σ:L2.St}{H:Hp}
theorem kf(hu:A.units+148<cLine)(I:Inv X M' σ H s)(rv:au ys ak)(nI:bj H ys ds)(hc:i8 ds)
  (q:∀(l:Addr)(zs:List V)(es:List D)(s':Shared),H l=G'->bj H zs es->gC ds es->Inv X M' σ (upd H l (.lst zs)) s'->Q (.done (.ret (.ref l))) s'):
  wpAny (model X.prog X.w) A (do let l<-newList ak;let _<-holding [l] (call (.builtin "list.sort") [l] []);ret l) Q E s:=by
 obtain⟨xu,hc⟩:=hc;have hlen:=SL.lt xu;have hl:=rv.length;have kP:=nI.length;have la:ak.length<=sizeLine:=by rw[Zu];lia
 refine W1 (wpAny_newList ?_ (by simpa using la));have Qd:(s.heap.push (seqObj "list" ak.toArray 0)).get? s.heap.objs.size=B' (seqObj "list" ak.toArray 0):=Xd _ rfl;have ne:∀b o,s.heap.get? b=B' o->b≠s.heap.objs.size:=λb o e=>XB (Xg e)
 refine W1 (Zz (Zx slot_list_sort #[_,Qd,rfl] entry_list_sort
  (Di (s:={s with heap:=s.heap.push (seqObj "list" ak.toArray 0)}) (O:=MD) (key:=λi=>ds.getD i (.int 0)) Qd ⋯ (λh2 h' kk=>?_) (SL.up ⋯ xu) λp h' e hp RT kk hD=>?_) (args_list_sort _)))
 ·obtain⟨Vr,⟨k,hf⟩,Am⟩:=hc ⋯;have E7:=I.hok.kept λb o e=>kk b o (ne b o e) (W3 _ e)
  refine#[k.κ,λQ' E' q'=>NR E7 k nI rv hf ⋯ q',λi j hi hj C hC=>?_]
  ·obtain⟨di,Q3,UW⟩:=nI.get (i:=i) (x:=ys[i]'⋯) (by simp);obtain⟨dj,Tt,UX⟩:=nI.get (i:=j) (x:=ys[j]'⋯) (by simp);obtain⟨ui,V2,Wm⟩:=rv.get (i:=i) (x:=ys[i]'⋯) (by simp);obtain⟨uj,V3,Wn⟩:=rv.get (i:=j) (x:=ys[j]'⋯) (by simp);unfold kas_ask;rw[show ak.getD i Value.none=ui by simp[V2],show ak.getD j Value.none=uj by simp[V3]];have ki:ds.getD i (.int 0)=di:=by simp[Q3]
   have kj:ds.getD j (.int 0)=dj:=by simp[Tt]
   have mi:=YJ Q3;have mj:=YJ Tt;refine Fu E7 (by show A.units+1+100<cLine;lia) k (Xh (pY Q3) ⋯) (Am di mi dj mj) (hf di mi) (hf dj mj) UW UX Wm Wn ?_;have TM:C (D.lt (ds.getD i (.int 0)) (ds.getD j (.int 0))) {s with heap:=h'}:=hC;rw[ki,kj]at TM;exact TM
 ·refine#[_,rfl,W4 ?_];have kR:=hp;have Qa:∀i∈p.toList,i<ys.length:=λi hi=>by
   have:=XX.mp (kR.mem_iff.mp hi)
   lia
  have new:cu X.prog X.w (upd H s.heap.objs.size (.lst (p.toList.map λi=>ys.getD i .bX))) h' s.heap.objs.size (.lst (p.toList.map λi=>ys.getD i .bX)):=
   #[by rw[Xf,kR.length_eq,Yw];rw[Zu];lia,_,e,ue rv Qa,hD]
  have I2:=I.laid (t':=s.toks) (λb o q=>kk b o (ne b o q) (W3 _ q)) (Xb _) new;refine q _ _ (p.toList.map λi=>ds.getD i (.int 0)) _ (I.hok.fresh (Xb _)) (nI.map Qa) #[?_,?_] I2
  ·have e1:=kR.map (λi=>ds.getD i (.int 0));rw[show ak.length=ds.length by lia]at e1;rw[mq]at e1;exact e1
  ·have RU:∀i j,i<=j->j<ak.length->D.lt (ds.getD (p.getD j 0) (.int 0)) (ds.getD (p.getD i 0) (.int 0))=K':=RT;have la:p.toList.length=ak.length:=by rw[kR.length_eq,Yw]
   rw[YQ,YO];intro i j hi hj hij;have:=RU i j ⋯ ⋯;rw[show p.getD i 0=p.toList[i] by simp at hi;simp[hi],show p.getD j 0=p.toList[j] by simp at hj;simp[hj]]at this;exact this
end
def KG(K:PySem.W.Frag):List V->Hp->VK->Prop:=λxs H Q=>∃a ys ds,xs=[.ref a]/\(d8 K H a ys\/fL K H a ys)/\bj H ys ds/\i8 ds/\∀l w es,H l=G'->bj H w es->gC ds es->Q (.ref l) (upd H l<|.lst w)
theorem pQ(hu:X.A.units+150<cLine):dQ X (.builtin "sorted") (KG X.K):=by
 intro S s O H xs i Q I r h;obtain⟨a,ys,ds,rfl,F,nI,K,q⟩:=h;obtain⟨u,rfl,m⟩:=r.one;cases m;have b:∃(J:List Value)(T:String)(o:Obj)(n:Nat),au ys J/\(T="list"\/T="tuple")/\s.heap.get? a=B' o/\o.cls= .type T/\o.data= .seq J.toArray n:=by
  rcases F with F|F
  ·obtain⟨J,rv,⟨o,n,B,K,_,hd⟩,_⟩:=I.list F;exact#[J,"list",o,n,rv,.inl rfl,B,K,hd]
  ·obtain⟨J,rv,⟨o,B,K,n,hd⟩,_⟩:=I.tuple F;exact#[J,"tuple",o,n,rv,.inr rfl,B,K,hd]
 obtain⟨J,T,o,n,rv,v,B,sG,hd⟩:=b;have x:J.length<=sizeLine:=by rw[Zu,<-rv.length,nI.length];have:=SL.lt K.1;lia
 refine Calls.call_function_entry kind_sorted plain_sorted entry_sorted (args_sorted1 _) ?_;refine W1 (W4 (W1 (wpAny_collect_seq a v B sG hd (λZ k1=>?_) (by rw[W6];exact x))));have g:=I.kept (t':=s.toks) k1;exact kf (by show X.A.units+1+148<cLine;lia) g rv nI K λl w es s' W k t Y=>#[_,rfl,.ref l,_,Y,rfl,q l w es W k t]
theorem se:∀O:List Str,bj H (O.map V.str) (O.map D.str)
 |[]=>bj.nil
 |k::O=>bj.cons DV.str<|se O
theorem oE:∀O:List Str,D.bq (O.map D.str)<=0
 |[]=>by show D.bq []<=0;unfold D.bq;exact Xb _
 |k::O=>by
  have:=oE O;show D.bq (D.str k::O.map D.str)<=0;unfold D.bq;have e:D.dep (D.str k)=0:=by unfold D.dep;rfl
  lia
theorem vX(hu:X.A.units+150<cLine)(K:X.calm=J'){O:L2.St}(I:Inv X M' O H s)(hS:dc X.prog X.w s.heap S ks)(E:ks.length<64)
  (q:∀l w es,H l=G'->bj H w es->gC (ks.map D.str) es->Q (.ref l) (upd H l<|.lst w)):wpAny (model X.prog X.w) X.A (call (.builtin "sorted") [.ref S]) (EP X M' O Q) X.xe s:=by
 refine Calls.call_function_entry kind_sorted plain_sorted entry_sorted (args_sorted1 _) ?_;unfold Builtin.«sorted»;refine W1 (m:=checkCount "sorted" 1 1 _)<|W4<|W1<|wg (I.ok.hd K) hS λh' d' tk vs dM Z J p2=>?_;have g:Inv X M' O H {s with heap:=h',drawn:=d',toks:=tk}:=by
  refine I.step (g':=s.gens) (ch:=[]) (λb M=>by cases M) (λb o _ _ _ e _=>Z b o e) (λb o _ _ _ e _=>#[o.slots,Z b o e])
   (λb o _ e n=>n) (λb o _ e=>#[o,Z b o e]) (λb w e=>e) (λb o u e=>e) (λb ps e=>#[#[],by rw[e];simp]) (λm hm=>?_) (λb u q=>?_) I.bare
  ·obtain⟨o,F,ep,B,rr⟩:=hm;exact#[o,F,ep,Z _ o B,rr]
  ·exact(I.hok b u q).kZ (λc v _ z=>Z c v z) (λc z=>z) λc w z=>z
 have h:bj H (dM.map V.str) (dM.map D.str):=se dM;refine kf (A:=X.A.in1) (by show X.A.units+1+148<cLine;lia) g p2 h #[SL.of<|by rw[Xf,J.length_eq];exact E,λ_=>#[?_,#[.s,λd hd=>?_],λd hd e P=>?_]] λl w es s' W k t Y=>#[_,rfl,.ref l,_,Y,rfl,q l w es W k #[t.1.trans<|J.map _,t.2]]
 ·exact Xh (oE dM)<|Y5 _
 ·obtain⟨x,_,rfl⟩:=XH.mp hd;exact#[x,rfl]
 ·obtain⟨x,_,rfl⟩:=XH.mp hd;obtain⟨y,_,rfl⟩:=XH.mp P;unfold D.eS;trivial
end Mx
end
section
namespace Mx
open PySem PySem.W PySem.Spec PyProof.Rows L2
theorem qK(ns:List Int):∀j,preSum (λi=>ns.getD i 0) j=(ns.take j).sum
 |0=>by simp[preSum]
 |j+1=>by
  rw[preSum,qK ns j];by_cases h:j<ns.length
  ·have e:ns.take (j+1)=ns.take j++[ns[j]]:=by rw[List.take_append_getElem h]
   rw[e,List.sum_append];simp[h]
  ·rw[YS ⋯,YS ⋯];simp[show ns.length<=j by lia]
theorem int_at{ns:List Int}(r:au (ns.map V.int) ak){i:Nat}(h:ak[i]?=B' v):∃t,v= .int (ns.getD i 0) t:=by
 have W:=r.length;have hi:i<ns.length:=by
  have:=(W8.mp h).1;simp at W
  lia
 obtain⟨u,X,m⟩:=r.get (i:=i) (x:=V.int<|ns.getD i 0) (by simp[hi]);rw[h]at X;cases X;exact m
section
variable{X:Cx}
theorem B4{s:Shared}(W:s.heap.IsList l items)
  (h:∀t:Shared,t={s with heap:=s.heap.push {cls:=.type "list_iterator",data:=.fields [.ref l,.int 0 0].toArray}}->(t.heap.IsListIter s.heap.objs.size l 0/\t.heap.IsList l items)->(∀b∈[s.heap.objs.size,l],b<t.heap.objs.size)->l≠s.heap.objs.size->
   (∀(b:Addr)(o:Obj),s.heap.get? b=B' o->b∉[s.heap.objs.size]/\t.heap.get? b=B' o)->Q (.ref s.heap.objs.size) t):wpAny (model prog w) A (pyIter<|.ref l) Q E s:=by
 have lt:l<s.heap.objs.size:=by obtain⟨_,e,_⟩:=W;exact Xg e
 refine ZF W<|h _ rfl #[#[_,Xd _ rfl,rfl,rfl],W.push _] (λb M=>?_) (XB lt) λb o e=>#[?_,W3 _ e]
 ·show b<(s.heap.push _).objs.size;rw[XA];simp only[Xi,Xj,Zs]at M;have a:=lt;rcases M with rfl|rfl
  ·exact Y1 _
  ·exact Y0 a
 ·intro M;have:=Xg e;rw[XF.mp M]at this;exact YY _ this
def Sz(K:PySem.W.Frag):List V->Hp->VK->Prop:=λxs H Q=>∃(l:Addr)(ns:List Int),xs=[.ref l]/\d8 K H l (ns.map V.int)/\Q (.int ns.sum) H
theorem AU(K:X.calm=J'):dQ X (.builtin "sum") (Sz X.K):=by
 intro S s O H xs us Q I r h;obtain⟨l,ns,rfl,F,q⟩:=h;obtain⟨u,rfl,m⟩:=r.one;cases m;obtain⟨J,rv,pl,k⟩:=I.list F;have W:J.length=ns.length:=by rw[<-rv.length];simp
 refine call_sum_walkG<|B4 pl.isList λt e st fp ne old=>?_;refine#[_,_,_,_,_,_,λi=>ns.getD i 0,rfl,Walks.list (A:=X.A.in1) (I.ok.hd K) _ l ne J.toArray,st,fp,λi v n=>?_,λh' tk t' g=>?_]
 ·have a:=n;exact int_at rv (by simpa using a)
 ·subst e;refine#[.int _,H,I.kept λb o e=>g b o (old b o e).1 (old b o e).2,#[t',rfl],?_];rw[show J.toArray.size=ns.length by simp[W],qK,List.take_length];exact q
end
end Mx
end
section
namespace Mx
open PySem PySem.W PySem.Spec PyProof.Rows L2 HT
open PySem.AutoSeq1 (wpAny_loadPart')
theorem tuple_addW0(l b)(i m)(n P)(dd q)(t p)(a:i.isEmpty=J'):
  Meets (Builtin.«tuple.__add__» #[[.ref l,.ref b],[]]) (λ_ R s=>s.heap.get? l=B' {cls:=.type "tuple",dict:=dd,data:=.seq i n,slots:=t}/\s.heap.get? b=B' {cls:=.type "tuple",dict:=q,data:=.seq m P,slots:=p}/\R (.ok<|.ret<|Value.ref b) s):=
 .of_wp λprog w A R s h=>by
  obtain⟨J,g,d,tk,os⟩:=s;obtain⟨W,M,h⟩:=h;have Q:=sub_tuple_tuple
  wp_walk using wpAny_loadPart' W,wpAny_loadPart' M
  exact#[_,rfl,h]
theorem B6{α:Type}(pre)(x:α):qq (pre++[x]).length (-1)=B' pre.length:=by
 unfold qq;rw[Zm (by decide),Zn (by simp;lia)];simp
 lia
theorem AC(pre)(x:α):pI (pre++[x]) (-1)=B' x:=by unfold pI;rw[B6];simp
end Mx
end
section
namespace L2
open PySem PySem.Spec PyProof.Rows
def km(e:Expr)(d:Nat)(it acc:Value)(env:Env)(target:Expr)(ifs:List Expr)(p:Pos)(body:Sem Unit):Sem PySem.Fin:=do
 standAt p
 match<-pyNext it with
 |none=>pure<|.done .next
 |some v=>
  letOwnedTupleGo target it v
  assign target env v
  let mut ok:=J'
  for c in ifs do
   if ok then ok<-isTrue c env (eval c env)
  if ok then body
  again (.compLoop e d it acc env)
theorem pU(H:compTurn (.ListComp elt gens scope pos) d it acc env=km (.ListComp elt gens scope pos) d it acc env target ifs p body)
  (k:∀x l,EE x l->notedBy (model prog w) A env (λx l=>R (.error x) l) x l) (I:Nat->Shared->Prop)
  (z:∀n s,I n s->wpAny (model prog w) A (pyNext it) (λr Z=>match r with
   |none=>R (.ok .next) Z
   |some v=>wpAny (model prog w) A (letOwnedTupleGo target it v) (λ_ b=>wpAny (model prog w) A (assign target env v) (λ_ q=>
     wpAny (model prog w) A (forIn ifs J' λc r=>if r=J' then do let ok<-isTrue c env (eval c env);pure (ForInStep.yield ok) else pure (ForInStep.yield r)) (λok i=>
      if ok=J' then wpAny (model prog w) A body (λ_ t=>∃m,m<n/\I m t) EE i
      else∃m,m<n/\I m i) EE q) EE b) EE Z) EE s)
  (n) (h:I n s):codeAny (model prog w) A (.compLoop (.ListComp elt gens scope pos) d it acc env) R s:=by
 refine codeAny_loop rfl I (λn s u=>?_) n h;refine wpAny_noted ?_;rw[H];refine W1<|ZJ<|W1<|ZA (z n s u) (λr Z h₁=>?_) k;cases r with
 |none=>exact W4 h₁
 |some v=>
  refine W1<|ZA h₁ (λ_ b j=>?_) k;refine W1<|ZA j (λ_ q a=>W1<|ZA a (λok i g=>?_) k) k;cases ok with
  |false=>exact W4 #[rfl,g]
  |true=>exact W1<|ZA g (λ_ t o=>W4 #[rfl,o]) k
def u9(elt:Expr)(acc:Value)(env:Env):Sem Unit:=do let _<-call (.builtin "list.append") [acc,<-eval elt env]
theorem ub(c b p)(a)(scope)(pos)(it W)(env):
  compTurn (.ListComp c [#[b,p,a,0]] scope pos) 0 it W env=km (.ListComp c [#[b,p,a,0]] scope pos) 0 it W env b a p.pos (u9 c W env):=by rfl
def Le(O c:St):Prop:=c.length=O.length/\∀(j:Nat)(v:V),O[j]?=B' (B' v)->c[j]?=B' (B' v)
theorem Le.refl(σ):Le σ σ:=#[rfl,λ_ _ h=>h]
def GL(h:St)(g:TG):Prop:=∀x O H(Q:St->Hp->Prop),Le h O->g x O H Q->g x O H λc n=>Le h c/\Q c n
def Pv(h:St)(g:Ag):Prop:=∀x O H(Q:St->Hp->Prop),Le h O->g x O H Q->g x O H λc n=>Le h c/\Q c n
theorem Le.set(h:σ0[k]?=B' G')(q:Le σ0 σ):Le σ0 (σ.set k v):=#[by simpa using q.1,λj w F=>by
 rw[Xn (by rintro rfl;rw[h]at F;cases F)];exact q.2 j w F]
theorem EV(h:σ0[k]?=B' G'):GL σ0 (eX k):=λx O H Q p q=>#[p.set h,q]
theorem EW:Pv σ0 Jd:=λx σ H Q p q=>#[q.1,p,q.2]
theorem BD(h:σ0[k]?=B' G')(X:Pv σ0 u):Pv σ0 (By (eX k) u):=λx O H Q p q=>by obtain⟨v,r,e,q⟩:=q;exact#[v,r,e,X r _ H Q (p.set h) q]
theorem Inv.le{O c:St}(I:Inv X M' c H s)(h:Le O c):Inv X M' O H s:=I.weak h.1.symm h.2
abbrev TB:=St->Hp->(Hp->Prop)->Prop
def PB(X:Cx)(body:Sem Unit)(tb:TB):Prop:=∀(S:List (Addr×Obj))(s:Shared)(O:St)(H:Hp)(Q:Hp->Prop),Inv X S O H s->tb O H Q->wpAny (model X.prog X.w) X.A body (λ_ l=>∃L,Inv X S O L l/\Q L) X.xe s
def wA(J:It)(g:TG)(tt:TT)(tb:TB)(h:St)(F:Hp->Prop)(j:Hp):Prop:=
 ∃W:Nat->Nat->Hp->Prop,(∃m,W 0 m j)/\∀i m H,W i m H->
  (J.stop i H/\F H)\/(J.go i H/\∀x L,J.yld i H x L->g x h L λc n=>tt c n λb Z=>if b=J' then tb c Z λs=>∃t,t<m/\W (i+1) t s else∃t,t<m/\W (i+1) t Z)
section
variable{X:Cx}{g:TG}{tt:TT}{tb:TB}
theorem yZ(K:X.calm=J')
  (H:compTurn (.ListComp elt gens scope pos) d (.ref it) acc X.env=km (.ListComp elt gens scope pos) d (.ref it) acc X.env target ifs p body) (L:∀x l,X.xe x l->notedBy (model X.prog X.w) X.A X.env (λx l=>R (.error x) l) x l)
  (j:PG X target g) (y:GL σ0 g) (O:Io X ifs tt) (M:PB X body tb) (I0:Inv X S σ0 H0 s0) (T:Turn X.prog X.w X.K target J k it tn) (mX:tn 0 s0.heap) (f0:∀b∈k,iy X S H0 b)
  (v:wA J g tt tb σ0 F H0) (fin:∀l H',Inv X S σ0 H' l->F H'->R (.ok .next) l):codeAny (model X.prog X.w) X.A (.compLoop (.ListComp elt gens scope pos) d (.ref it) acc X.env) R s0:=by
 obtain⟨W,⟨m0,w0⟩,z⟩:=v;have Z:∀{H':Hp},(∀b∈k,H' b=G')->∀b∈k,iy X S H' b:=λP b M=>#[P b M,(f0 b M).2]
 refine pU H L (λn l=>∃i H',Inv X S σ0 H' l/\tn i l.heap/\(∀b∈k,H' b=G')/\W i n H') ?_ m0 #[0,H0,I0,mX,λb M=>(f0 b M).1,w0];rintro n E ⟨i,s,I4,OT,Tw,w4⟩;rcases z i n s w4 with ⟨stop,a⟩|⟨go,step⟩
 ·refine bS (T.done X rfl rfl rfl K i S E _ s X.xe I4 (Z Tw) OT stop) λr s5#[I,h]=>?_
  subst I;exact fin s5 s h a
 ·refine bS (T.item X rfl rfl rfl K i S E _ s X.xe I4 (Z Tw) OT go) λr s5#[u,I,h5]=>?_
  subst I;refine bS h5 λ_ Y#[x,H6,I6,r6,y6,SH,U1]=>?_
  have UJ:=I6.pinned (Z U1)<|T.obj _ _ SH;have B:∀{w:Shared}{c:St}{q:Hp}{m7:Nat},Inv X (S++mE k Y.heap) c q w->Le σ0 c->m7<n->W (i+1) m7 q->
    ∃m,m<n/\∃i H',Inv X S σ0 H' w/\tn i w.heap/\(∀b∈k,H' b=G')/\W i m H':=λ {w c q m7} I7 hσ A w7=>by
   refine#[m7,A,i+1,q,I7.jS.le hσ,T.keep _ _ _ SH λb M o e=>(I7.pin (b,o)<|XC _<|XC _<|fR M e).1,λb M=>?_,w7];obtain⟨o,e,d⟩:=T.obj _ _ SH b M;exact(I7.pin (b,o)<|XC _<|XC _<|fR M e).2.1
  refine bS (j _ Y _ H6 x u _ UJ r6<|y x _ H6 _ (Le.refl _)<|step x H6 y6) λ_ w#[c,q,I7,Ur,Q]=>?_
  refine bS (O _ w c q _ I7 Q) λb s8#[H8,I8,q8]=>?_
  cases b with
  |false=>obtain⟨t,A,w8⟩:=q8;exact B I8 Ur A w8
  |true=>
   refine bS (M _ s8 c H8 _ I8 q8) λ_ s9#[H9,I9,t,A,w9]=>?_
   exact B I9 Ur A w9
def Dv(D:Addr)(a:TE):TB:=λO H Q=>a O H λv s=>∃r,s D=B' (.lst r)/\r.length<sizeLine/\Q (upd s D<|.lst<|r++[v])
theorem xU(P:PE X elt te):PB X (u9 elt (.ref D) X.env) (Dv D te):=by intro S s O H Q I h;refine W1<|bS (P S s O H _ I h) λy c#[v,a,b,j,r,g,k,q]=>?_;refine W1<|bS (oU _ c O a (.ref D) [v] (.ref D) [y] (λ_ L=>L=upd a D (.lst<|r++[v])) b rfl (.cons j .nil) #[D,r,v,rfl,rfl,g,k,rfl]) λ_ l#[_,n,i,_,m]=>?_;subst m;exact W4 #[_,i,q]
end
theorem gW:∀(names:List (Str×NameKind))(n:Nat)(W:List (Str×Addr)),(cellsFrom n names W).lookup x=B' c->(n<=c/\(x,NameKind.cell)∈names)\/W.lookup x=B' c
 |[],n,W,h=>.inr h
 |(y,k)::r,n,W,h=>by
  unfold cellsFrom at h;by_cases g:(k==NameKind.cell)=J'
  ·rw[Zn g]at h;rcases gW r (n+1) _ h with ⟨Z,Y⟩|Z
   ·exact .inl #[Xh (YX _) Z,W9 _ Y]
   ·rw[Xw]at Z;cases M:x==y with
    |true=>
     rw[M]at Z;cases Z;have:x=y:=by simpa using M
     subst this;have:k=NameKind.cell:=by simpa using g
     subst this;exact .inl #[Xb _,Xc]
    |false=>rw[M]at Z;exact .inr Z
  ·rw[Zm g]at h;rcases gW r n _ h with ⟨Z,Y⟩|Z
   ·exact .inl #[Z,W9 _ Y]
   ·exact .inr Z
theorem uX:∀(names:List (Str×NameKind))(n:Nat)(W:List (Str×Addr)),(∀x c,W.lookup x=B' c->c<n)->(∀x y c,W.lookup x=B' c->W.lookup y=B' c->x=y)->
  (cellsFrom n names W).lookup x=B' c->(cellsFrom n names W).lookup y=B' c->x=y
 |[],n,W,Z,Y,L,m=>Y x y c L m
 |(z,k)::r,n,W,Z,Y,L,m=>by
  unfold cellsFrom at L m;by_cases g:(k==NameKind.cell)=J'
  ·rw[Zn g]at L m;refine uX r (n+1) _ (λa b fP=>?_) (λa b e t M=>?_) L m
   ·rw[Xw]at fP;cases F:a==z with
    |true=>rw[F]at fP;cases fP;exact Y1 _
    |false=>rw[F]at fP;exact Y0<|Z a b fP
   ·rw[Xw]at t M;cases F:a==z with
    |true=>
     rw[F]at t;cases t;cases h:b==z with
     |true=>
      have B:a=z:=by simpa using F
      have E:b=z:=by simpa using h
      rw[B,E]
     |false=>rw[h]at M;exact absurd (Z b _ M)<|YY _
    |false=>
     rw[F]at t;cases h:b==z with
     |true=>rw[h]at M;cases M;exact absurd (Z a _ t)<|YY _
     |false=>rw[h]at M;exact Y a b e t M
  ·rw[Zm g]at L m;exact uX r n W Z Y L m
theorem pS:∀(names:List (Str×NameKind))(n:Nat)(W:List (Str×Addr)),(x,NameKind.cell)∉names->W.lookup x=B' c->(cellsFrom n names W).lookup x=B' c
 |[],n,W,_,h=>h
 |(z,k)::r,n,W,P,h=>by
  unfold cellsFrom;by_cases g:(k==NameKind.cell)=J'
  ·rw[Zn g];refine pS r (n+1) _ (λp=>P<|W9 _ p) ?_;rw[Xw];have:(x==z)=K':=by
    cases F:x==z with
    |false=>rfl
    |true=>
     have B:x=z:=by simpa using F
     have E:k=NameKind.cell:=by simpa using g
     subst B E;exact absurd Xc P
   rw[this];exact h
  ·rw[Zm g];exact pS r n W (λp=>P<|W9 _ p) h
theorem lK:∀(names:List (Str×NameKind))(h:Heap)(W:List (Str×Addr)),(∀x c,W.lookup x=B' c->∃v,h.IsCell c v)->(cellsFrom h.objs.size names W).lookup x=B' c->∃v,(pushCells h names).IsCell c v
 |[],h,W,t,L=>t x c L
 |(z,k)::r,h,W,t,L=>by
  unfold cellsFrom at L;unfold pushCells;by_cases g:(k==NameKind.cell)=J'
  ·rw[Zn g]at L ⊢;refine lK r _ ((z,h.objs.size)::W) (λa b fP=>?_) (by rw[XA];exact L);rw[Xw]at fP;cases F:a==z with
   |true=>rw[F]at fP;cases fP;exact#[G',_,Xd _ rfl,rfl]
   |false=>rw[F]at fP;obtain⟨v,o,B,hd⟩:=t a b fP;exact#[v,o,W3 _ B,hd]
  ·rw[Zm g]at L ⊢;exact lK r h W t L
theorem um
  (H:∀h',h'=pushCells (s.heap.push {cls:=.type "dict",data:=.dict #[]}) scope.names->Q (newEnv scope s.heap.objs.size globals (cellsFrom (s.heap.objs.size+1) scope.names cl) qual G' .none (B' out) builtinsNs) {s with heap:=h'}):
  wpAny M A (newFunctionEnv scope globals cl [] qual G' .none<|B' out) Q E s:=by
 simp only[newFunctionEnv,Option.isSome_some,Zo];refine W1<|wpAny_alloc ?_;refine W1<|wpAny_layCells _ (λname kind a=>by cases b:kind==NameKind.cell<;>simp[b]) _ _ _ _ ?_;rw[show ({s with heap:=s.heap.push {cls:=.type "dict",data:=.dict #[]}}:Shared).heap.objs.size=s.heap.objs.size+1 from XA ..];rw[List.forIn_nil];exact W1<|W4<|W4<|H _ rfl
def j4(X:Cx)(scope:Scope)(a:List Str)(C:Addr)(s:Shared)(H:Hp)(k:List Addr)(xe:Value->Shared->Prop):Cx:=
 {X with N:=a,s₀:=s,H₀:=H,env:=compEnvC scope (cellsFrom (C+1) scope.names<|gp scope X.env) C X.env,outer:=X.stack,stack:=X.stack,ex:=k,fn:=λx=>scope.names.lookup x==B' .cell,pn:=[],xe:=xe}
structure gA(X:Cx)(scope:Scope)(N':List Str)(cap:List (Option Nat)):Prop where
 kind:scope.kind= .function
 nd:∀y∈scope.names,scope.names.lookup y.1=B' y.2
 free:∀y∈scope.names,y.2= .free->X.env.scope.names.lookup y.1=B' .cell\/X.env.scope.names.lookup y.1=B' .free
 yX:∀(j i:Nat),cap[j]?=B' (B' i)->∃x,N'[j]?=B' x/\X.N[i]?=B' x/\scope.names.lookup x=B' .free
 len:cap.length=N'.length
section
variable{X:Cx}{scope:Scope}{N':List Str}{cap:List (Option Nat)}{M':List (Addr×Obj)}{σ:St}{H:Hp}{s:Shared}
theorem gA.frees(B:gA X scope N' cap)(ok:X.Ok):∀y∈scope.names,y.2= .free->∃c,X.env.cells.lookup y.1=B' c:=λy m r=>ok.has y.1<|B.free y m r
theorem gA.up(B:gA X scope N' cap)(ok:X.Ok)(h:(gp scope X.env).lookup x=B' c):X.env.cells.lookup x=B' c:=
 kz scope.names [] (B.frees ok) (λ_ z=>by simp at z) h
theorem gA.sY(B:gA X scope N' cap)(h:scope.names.lookup x=B' .free):(x,NameKind.cell)∉scope.names:=λz=>by have:=B.nd _ z;rw[h]at this;cases this
theorem uV(B:gA X scope N' cap)(I:Inv X M' σ H s){fp:List Addr}(hf:∀b∈fp,iy X M' H b)(df:∀b∈fp,b<s.heap.objs.size):
  Inv (j4 X scope N' s.heap.objs.size s H fp xe) [] (dC cap σ) H {s with heap:=pushCells (s.heap.push {cls:=.type "dict",data:=.dict #[]}) scope.names,toks:=tk}:=by
 have ok:=I.ok;have hz:(s.heap.push {cls:=.type "dict",data:=.dict #[]}).objs.size=s.heap.objs.size+1:=XA ..;have g:∀b o,s.heap.get? b=B' o->(pushCells (s.heap.push {cls:=.type "dict",data:=.dict #[]}) scope.names).get? b=B' o:=λb o e=>Zt _ _ _ _ (W3 _ e)
 have uD:(pushCells (s.heap.push {cls:=.type "dict",data:=.dict #[]}) scope.names).Ns s.heap.objs.size λ_=>G':=(Heap.Ns.new s.heap<|.type "dict").keeps (Zt _ _)
 have UM:∀x c,(gp scope X.env).lookup x=B' c->c<s.heap.objs.size:=λx c h=>by obtain⟨v,z⟩:=I.cell x c<|B.up ok h;exact z.lt
 have AX:∀x c,(cellsFrom (s.heap.objs.size+1) scope.names<|gp scope X.env).lookup x=B' c->(s.heap.objs.size+1<=c/\(x,NameKind.cell)∈scope.names)\/X.env.cells.lookup x=B' c:=λx c h=>(gW _ _ _ h).imp id (B.up ok)
 have vq:∀x,scope.names.lookup x=B' .free->(compEnvC scope (cellsFrom (s.heap.objs.size+1) scope.names<|gp scope X.env) s.heap.objs.size X.env).kindOf x=B' .cell\/(compEnvC scope (cellsFrom (s.heap.objs.size+1) scope.names<|gp scope X.env) s.heap.objs.size X.env).kindOf x=B' .free:=λx L=>by
  have q:=ba (env:=X.env) L;by_cases K:(NameKind.free==NameKind.free&&X.env.scope.kind== .function&&X.env.kindOf x==B' .cell)=J'
  ·rw[Zn K]at q;exact .inl q
  ·rw[Zm K]at q;exact .inr q
 refine#[#[ok.mod,?kind,ok.glob,ok.blt,Xb _,?inj,?has,?DY,ok.hd,ok.frames,.inl rfl,?Hm,I.bs,Xh ok.DX I.sz,?nU,?p9,I.stack,I.q9],
  rfl,I.bare,Un.kept g,#[_,uD,?loc],?cell,I.hok.fresh<|Xb _,?de,?pin,I.hok.kept g,?len]
 case kind=>exact B.kind
 case inj=>exact λx y c Z Y=>uX _ _ _ (λx c h=>Y0<|UM x c h) (λx y c Z Y=>ok.inj x y c (B.up ok Z)<|B.up ok Y) Z Y
 case has=>
  intro x L;cases W:scope.names.lookup x with
  |none=>
   have q:=cw (env:=X.env) W;exact absurd L (by
    have t:(compEnvC scope (cellsFrom (s.heap.objs.size+1) scope.names<|gp scope X.env) s.heap.objs.size X.env).kindOf x=G':=q;show¬((compEnvC scope (cellsFrom (s.heap.objs.size+1) scope.names<|gp scope X.env) s.heap.objs.size X.env).kindOf x=B' .cell\/(compEnvC scope (cellsFrom (s.heap.objs.size+1) scope.names<|gp scope X.env) s.heap.objs.size X.env).kindOf x=B' .free);rw[t];simp)
  |some k=>
   have q:(compEnvC scope (cellsFrom (s.heap.objs.size+1) scope.names<|gp scope X.env) s.heap.objs.size X.env).kindOf x=B' (if (k==NameKind.free&&X.env.scope.kind== .function&&X.env.kindOf x==B' .cell) then NameKind.cell else k):=ba W;have A:=Zf W;by_cases Jn:k= .free
   ·subst Jn;obtain⟨c,S⟩:=lL scope.names []<|.inl A;exact#[c,pS _ _ _ (B.sY W) S]
   ·have M:(k==NameKind.free)=K':=by simpa using Jn
    have uH:(compEnvC scope (cellsFrom (s.heap.objs.size+1) scope.names<|gp scope X.env) s.heap.objs.size X.env).kindOf x=B' .cell\/(compEnvC scope (cellsFrom (s.heap.objs.size+1) scope.names<|gp scope X.env) s.heap.objs.size X.env).kindOf x=B' .free:=L;rw[q,M]at uH;simp only[Bool.false_and,Zl,Option.some.injEq]at uH;rcases uH with z|z
    ·subst z;exact Option.isSome_iff_exists.mp<|Zd scope.names _ _<|.inl W
    ·exact absurd z Jn
 case DY=>
  intro x c Al h;rcases gW _ _ _ h with ⟨Z,_⟩|Z
  ·exact Xh (YX _) Z
  ·exfalso;have e:=Xt Al;have:∀(l:List (Str×NameKind))(cs:List (Str×Addr)),(∀c,cs.lookup x≠B' c)->(∀y∈l,y.1=x->y.2≠ .free)->(rO X.env l cs).lookup x=G':=by
    intro l
    induction l with
    |nil=>
     intro cs O _;cases F:cs.lookup x with
     |none=>exact F
     |some c=>exact absurd F<|O c
    |cons y l ih=>
     intro cs O W;obtain⟨n,k⟩:=y;refine ih _ (λc=>?_) λy hy=>W y (W9 _ hy)
     by_cases g:(k==NameKind.free)=J'
     ·rw[Zn g,Xw];have:(x==n)=K':=by
       cases F:x==n with
       |false=>rfl
       |true=>
        have e1:x=n:=by simpa using F
        have E:k=NameKind.free:=by simpa using g
        exact absurd E (W (n,k) Xc e1.symm)
      rw[this];exact O c
     ·rw[Zm g];exact O c
   have q:=this scope.names [] (λc z=>by simp at z) λy hy e1 E=>by have:=B.nd y hy;rw[e1,E,e]at this;cases this
   unfold gp at Z;rw[q]at Z;cases Z
 case Hm=>
  intro b M;refine#[XB<|df b M,λx c e=>?_];rcases AX x c e with ⟨Z,_⟩|Z
  ·intro z;subst z;exact absurd (Xr (df c M)<|Xh (YX _) Z)<|YY _
  ·exact(hf b M).2.2.2.2.1 x c Z
 case nU=>
  intro b o e M;rcases (hf b M).2.2.2.1 with z|z
  ·exact ok.nU b o e z
  ·exact absurd (Xr (Xg (ok.bs b o e).1) z) (YY _)
 case p9=>
  intro b M w;rcases Xi.mp (I.mZ b w)with z|z
  ·exact(hf b M).2.1 z
  ·exact(hf b M).2.2.1 z
 case loc=>
  intro j x v Z Y h3;have hj:∃i,cap[j]?=B' (B' i)/\(σ[i]?).join=B' v:=by
   unfold dC at Y;rw[Xp]at Y;cases K:cap[j]? with
   |none=>rw[K]at Y;cases Y
   |some o=>
    rw[K]at Y;cases o with
    |none=>cases Y
    |some i=>exact#[i,rfl,by simpa using Y]
  obtain⟨i,K,hv⟩:=hj;obtain⟨x',e1,E,e3⟩:=B.yX j i K;have ex:x'=x:=by have QX:N'[j]?=B' x:=Z;rw[QX]at e1;injection e1 with e1;exact e1.symm
  subst ex;have NA:σ[i]?=B' (B' v):=by
   cases q:σ[i]? with
   |none=>rw[q]at hv;cases hv
   |some o=>rw[q]at hv;cases o with
    |none=>cases hv
    |some z=>simp at hv;rw[hv]
  have NC:=B.free _ (Zf e3) rfl;obtain⟨m,P,W⟩:=I.loc;obtain⟨u,r,l⟩:=W i x' v E NA<|.inr NC;refine#[u,r,?_];obtain⟨c,S⟩:=lL scope.names []<|.inl<|Zf e3;have T6:=B.up ok S;rcases l with ⟨k,_⟩|⟨k,c',e,z⟩
  ·exfalso;have Q:X.env.scope.names.lookup x'=B' .local:=k;rcases NC with q|q
   ·rw[Q]at q;cases q
   ·rw[Q]at q;cases q
  ·have US:c'=c:=by rw[e]at T6;injection T6
   subst US;exact .inr #[vq x' e3,c',pS _ _ _ (B.sY e3) S,by obtain⟨o,ho,hd⟩:=z;exact#[o,g _ _ ho,hd]]
 case cell=>intro x c e;refine lK scope.names (s.heap.push {cls:=.type "dict",data:=.dict #[]}) (gp scope X.env) (λa b fP=>?_) (by rw[hz];exact e);obtain⟨v,o,ho,hd⟩:=I.cell a b<|B.up ok fP;exact#[v,o,W3 _ ho,hd]
 case de=>
  intro x c e;rcases AX x c e with ⟨Z,_⟩|Z
  ·exact I.hok.fresh<|Xh (YX _) Z
  ·exact I.de x c Z
 case pin=>intro p J;cases J
 case len=>show (dC cap σ).length=N'.length;unfold dC;rw[Xf];exact B.len
def Ha(X:Cx)(C:Addr)(x:Value)(l:Shared):Prop:=∃m,l.heap.Ns C m/\∀h',Heap.SameBut C l.heap h'->∀y:Env,y.locals=C->wpAny (model X.prog X.w) X.A (passOn "comprehension.variables-let-go" x y:Sem Value) (λ_ _=>False) X.xe {l with heap:=h'}
structure Ec(X:Cx)(scope:Scope)(N':List Str)(xb:Addr->Shared->Hp->List Addr->Value->Shared->Prop):Prop where
 note:∀(M':List (Addr×Obj))(σ:St)(C:Addr)(s s1:Shared)(H H1:Hp)(fp:List Addr)x s',Inv X M' σ H1 s1->(∀b∈fp,iy X M' H1 b)->s1.heap.objs.size<C->s={s1 with heap:=s1.heap.push {cls:=.type "list",data:=.seq ([]:List Value).toArray},toks:=s1.toks}->H=upd H1 s1.heap.objs.size (.lst [])->C=s.heap.objs.size->
  xb C s H fp x s'->notedBy (model X.prog X.w) X.A (j4 X scope N' C s H fp<|xb C s H fp).env (Ha X C) x s'
variable{elt tg iter:Expr}{ifs:List Expr}{pos:Pos}{g:TG}{tt:TT}
theorem oB{tb:Addr->TB}{body:Value->Env->Sem Unit}{RR:Value->Addr->Result->Shared->Prop}(K:X.calm=J')(B:gA X scope N' cap)(r:Ec X scope N' xb)
  (heq:∀vp W env,compTurn (.ListComp elt (#[tg,iter,ifs,0]::gens) scope pos) 0 vp W env=km (.ListComp elt (#[tg,iter,ifs,0]::gens) scope pos) 0 vp W env tg ifs p (body W env))
  (zm:GL (dC cap σ) g) (j:∀C s H k,PG (j4 X scope N' C s H k<|xb C s H k) tg g) (O:∀C s H k,Io (j4 X scope N' C s H k<|xb C s H k) ifs tt) (M:∀C s H k D,PB (j4 X scope N' C s H k<|xb C s H k) (body (.ref D) (j4 X scope N' C s H k<|xb C s H k).env)<|tb D)
  (Y:Inv X M' σ H2 s2) (T:Turn X.prog X.w X.K tg J k it tn) (I:tn 0 s2.heap) (Q:∀b∈k,iy X M' H2 b) (hF:wA J g tt (tb s2.heap.objs.size) (dC cap σ) F (upd H2 s2.heap.objs.size<|.lst []))
  (Vj:∀C l L m,s2.heap.objs.size<C->Inv X M' σ L l->l.heap.Ns C m->iy X M' L C->F L->RR (.ref s2.heap.objs.size) C (.ok .next) l) (TV:∀C x l,Ha X C x l->RR (.ref s2.heap.objs.size) C (.error x) l) :
  wpAny (model X.prog X.w) X.A (newList []) (λW i=>wpAny (model X.prog X.w) X.A (newFunctionEnv scope X.env.globals (gp scope X.env) [] X.env.qual G' .none<|B' X.env) (λyY t=>
   codeAny (model X.prog X.w) X.A (.compStart (.ListComp elt (#[tg,iter,ifs,0]::gens) scope pos) 0 (.ref it) W {yY with scope:=relabel scope X.env}) (RR W yY.locals) t) E i) E s2:=by
 refine ZC<|um λh₁ c=>?_;have Z:=Y.NV (t':=s2.toks) .nil<|Y5 _;dsimp only at c ⊢;have hC:(s2.heap.push {cls:=.type "list",data:=.seq ([]:List Value).toArray}).objs.size=s2.heap.objs.size+1:=XA ..;generalize hD:s2.heap.objs.size=D at *;have D1:∀b∈k,b<D:=λb M=>by obtain⟨o,e,_⟩:=T.obj 0 _ I b M;rw[<-hD];exact Xg e
 have A:∀b∈k,iy X M' (upd H2 D<|.lst []) b:=λb M=>#[by rw[ax (XB<|D1 b M)];exact(Q b M).1,(Q b M).2]
 generalize Jx:({s2 with heap:=s2.heap.push {cls:=.type "list",data:=.seq ([]:List Value).toArray},toks:=s2.toks}:Shared)=s3 at Z;have BZ:s3.heap=s2.heap.push {cls:=.type "list",data:=.seq ([]:List Value).toArray}:=by rw[<-Jx]
 have Ho:s3.heap.objs.size=D+1:=by rw[BZ];exact hC
 have IB:=uV (xe:=xb s3.heap.objs.size s3 (upd H2 D<|.lst []) k) (tk:=s2.toks) B Z A (λb M=>by rw[Ho];exact Y0<|D1 b M);have hk:∀b o,s3.heap.get? b=B' o->(pushCells (s3.heap.push {cls:=.type "dict",data:=.dict #[]}) scope.names).get? b=B' o:=λb o e=>Zt _ _ _ _ (W3 _ e)
 rw[<-BZ]at c;rw[<-c]at IB hk;have n:({s3 with heap:=h₁,toks:=s2.toks}:Shared)={s2 with heap:=h₁}:=by rw[<-Jx]
 rw[n]at IB;rw[hC];have qZ:∀{L:Hp},(∀b∈k,L b=G')->∀b∈k,iy (j4 X scope N' s3.heap.objs.size s3 (upd H2 D<|.lst []) k<|xb s3.heap.objs.size s3 (upd H2 D<|.lst []) k) [] L b:=λP b M=>
  #[P b M,by show b≠s3.heap.objs.size;rw[Ho];exact XB<|Y0<|D1 b M,λz=>(by
   rcases Xi.mp (Z.mZ b z)with q|q
   ·exact(A b M).2.1 q
   ·exact(A b M).2.2.1 q),.inl M,(IB.ok.Hm b M).2,λp hp=>absurd hp<|by intro z;cases z]
 have loop:∀l:Shared,l={s2 with heap:=h₁}->codeAny (model X.prog X.w) X.A (.compLoop (.ListComp elt (#[tg,iter,ifs,0]::gens) scope pos) 0 (.ref it) (.ref D) (j4 X scope N' s3.heap.objs.size s3 (upd H2 D<|.lst []) k<|xb s3.heap.objs.size s3 (upd H2 D<|.lst []) k).env)
   (RR (.ref D)<|D+1) l:=by
  rintro l rfl;refine yZ (X:=j4 X scope N' s3.heap.objs.size s3 (upd H2 D<|.lst []) k<|xb s3.heap.objs.size s3 (upd H2 D<|.lst []) k) K (heq _ _ _) (λx l q=>?_) (j _ _ _ _) zm (O _ _ _ _) (M _ _ _ _ D) IB T (T.keep _ _ _ I λb M o e=>hk b o<|by rw[BZ];exact W3 _ e) (qZ λb M=>(A b M).1) hF λs5 a h qn=>?_
  ·have z:=r.note M' σ s3.heap.objs.size s3 s2 (upd H2 D<|.lst []) H2 k x l Y Q (by rw[Ho,hD];exact Y1 _) Jx.symm (by rw[hD]) rfl q;rw[Ho]at z;exact ZA z (λ_ v w=>TV (D+1) x v w) λy v w=>TV (D+1) y v w
  ·obtain⟨S,Nk,_⟩:=h.loc;have un:Un (fH X.stack) k H2 a s2.heap s5.heap:=by
    have u1:Un (fH X.stack) k H2 (upd H2 D<|.lst []) s2.heap s3.heap:=by rw[BZ];exact Un.laid (λb u e=>W3 _ e) (by rw[hD];exact Xb _) (by rw[<-hD];exact Y.fresh)
    exact u1.trans h.base
   have hI:=Y.AQ (h.os.trans<|by show s3.os=s2.os;rw[<-Jx]) un h.hok h.bare λb M=>#[(Q b M).2.2.2.1,(Q b M).2.1,(Q b M).2.2.2.2.1,(Q b M).2.2.2.2.2]
   have BW:s5.heap.Ns (D+1) S:=by have q:=Nk;rw[Ho]at q;exact q
   have Q6:a (D+1)=G':=by have q:=h.free;rw[Ho]at q;exact q
   exact Vj (D+1) s5 a S (Y1 _) hI BW (Y.nN (by rw[hD];exact YX _) Q6) qn
 have Q2:({newEnv scope (D+1) X.env.globals (cellsFrom (D+1+1) scope.names<|gp scope X.env) X.env.qual G' .none (B' X.env) builtinsNs with scope:=relabel scope X.env}:Env)=(j4 X scope N' s3.heap.objs.size s3 (upd H2 D<|.lst []) k<|xb s3.heap.objs.size s3 (upd H2 D<|.lst []) k).env:=by rw[Ho];rfl
 have go:=codeAny_compStart_list (loop _ rfl)<|T.self X.A 0 _ _ _ (T.keep _ _ _ I λb M o e=>hk b o<|by rw[BZ];exact W3 _ e)<|loop _ rfl;rw[<-Q2]at go;exact go
end
def v8(cap:List (Option Nat))(b:TI)(g:TG)(tt:TT)(tb:Addr->TB):TE:=λO H Q=>b O H λJ j=>∀D,j D=G'->GL (dC cap O) g/\wA J g tt (tb D) (dC cap O) (λL=>Q (.ref D) L) (upd j D<|.lst [])
section
variable{X:Cx}{scope:Scope}{N':List Str}{cap:List (Option Nat)}{elt tg iter:Expr}{ifs:List Expr}{gens:List Comprehension}{pos p:Pos}{wi:TI}{g:TG}{tt:TT}{tb:Addr->TB}{body:Value->Env->Sem Unit}{xb:Addr->Shared->Hp->List Addr->Value->Shared->Prop}
theorem CA(K:X.calm=J')(B:gA X scope N' cap)(r:Ec X scope N' xb)(hi:PI X tg iter wi)(heq:∀A W env,compTurn (.ListComp elt (#[tg,iter,ifs,0]::gens) scope pos) 0 A W env=km (.ListComp elt (#[tg,iter,ifs,0]::gens) scope pos) 0 A W env tg ifs p (body W env))
  (j:∀C s H k,PG (j4 X scope N' C s H k<|xb C s H k) tg g) (ht:∀C s H k,Io (j4 X scope N' C s H k<|xb C s H k) ifs tt) (M:∀C s H k D,PB (j4 X scope N' C s H k<|xb C s H k) (body (.ref D) (j4 X scope N' C s H k<|xb C s H k).env)<|tb D)
  (w:∀x,foldedSetIterable iter X.env x=pure x:=by intro _;rfl):PE X (.ListComp elt (#[tg,iter,ifs,0]::gens) scope pos) (v8 cap wi g tt tb):=by
 intro S s O H Q I h;rw[eval_ListComp];refine wpAny_comprehension_free rfl w (iG<|B.frees I.ok) B.kind (λy hy e=>by rw[B.nd y hy,e])<|bS (hi S s O H _ I h) λx Z h₁=>bS h₁ λA s₂ a=>?_;obtain⟨it,k,tn,J,n,e,Y,T,GO,f2,t⟩:=a;subst e;obtain⟨zm,v⟩:=t _ Y.fresh;refine oB K B r heq zm j ht M Y T GO f2 v (λC l L m u I' P c q=>?_) λC x l z=>z
 refine#[m,P,λh' hsb=>#[.ref _,L,I'.turned (λb o M e=>(hsb.2 b M).trans e) c.1 c.2.1 c.2.2.2.1 c.2.2.2.2.1 c.2.2.2.2.2,rfl,q]]
theorem tF{i:Nat}{x:Str}{E OS:Pos}(K:X.calm=J')(hN:X.N.Nodup)(Nd:X.N[i]?=B' x)(L:X.env.kindOf x=B' .local)(B:gA X scope N' cap)(r:Ec X scope N' xb)(hi:PI X tg iter wi)(heq:∀A W env,compTurn (.ListComp elt (#[tg,iter,ifs,0]::gens) scope pos) 0 A W env=km (.ListComp elt (#[tg,iter,ifs,0]::gens) scope pos) 0 A W env tg ifs p (body W env))
  (j:∀C s H k,PG (j4 X scope N' C s H k<|xb C s H k) tg g) (ht:∀C s H k,Io (j4 X scope N' C s H k<|xb C s H k) ifs tt) (M:∀C s H k D,PB (j4 X scope N' C s H k<|xb C s H k) (body (.ref D) (j4 X scope N' C s H k<|xb C s H k).env)<|tb D)
  (w:∀x,foldedSetIterable iter X.env x=pure x:=by intro _;rfl)
  (LY:swapsWith (.ListComp elt (#[tg,iter,ifs,0]::gens) scope pos) (B'<|.Name x E) OS.line X.env=pure J':=by rfl):
  PS X (.Assign [.Name x E] (.ListComp elt (#[tg,iter,ifs,0]::gens) scope pos) OS) (nu (v8 cap wi g tt tb)<|eX i):=by
 intro S s O H D I h;rw[exec_Assign_Name_used _ _ _ _ LY];refine W1<|ZJ<|W1 ?_;refine W1 (ZA (wpAny_comprehension_free rfl w (iG<|B.frees I.ok) B.kind (λy hy e=>by rw[B.nd y hy,e])<|bS (hi S s O H _ I h) λx Z h₁=>bS h₁ λA s₂ h₂=>?_)
  (λ_ l F=>W4<|W4 F) λ_ _ e=>e)
 obtain⟨it,k,tn,J,n,e,Y,T,GO,Q,hF⟩:=h₂;subst e;obtain⟨zm,hW⟩:=hF _ Y.fresh;refine oB K B r heq zm j ht M Y T GO Q hW (λC l H' m u I' P c q=>?_) λC x l z=>z
 refine wpAny_assign_Name<|o8 (v:=.ref _) I' hN Nd (.inl L) rfl (λs3 I3 hsb=>?_)<|.inr L;obtain⟨a,sb,t⟩:=hsb;have Vb:C≠a:=by
  rcases t with rfl|t
  ·exact c.2.1
  ·exact Y6 (c.2.2.2.2.1 _ a t)
 refine#[m,P.sameBut sb Vb,λh' hsb'=>?_];exact#[_,H',I3.turned (λb o M e=>(hsb'.2 b M).trans e) c.1 c.2.1 c.2.2.2.1 c.2.2.2.2.1 c.2.2.2.2.2,q]
end
end L2
end
section
namespace Mx
open PySem
structure Dd(s s':Heap):Prop where
 sz:s.objs.size<=s'.objs.size
 none:∀b,b<s.objs.size->s.get? b=G'->s'.get? b=G'
theorem Dd.refl(h:Heap):Dd h h:=#[Xb _,λ_ _ z=>z]
theorem Dd.trans(x:Dd a b)(y:Dd b c):Dd a c:=#[Xh x.sz y.sz,λk g z=>y.none k (Xr g x.sz)<|x.none k g z]
theorem Dd.push(h:Heap)(o):Dd h (h.push o):=#[by rw[XA];exact YX _,λb M z=>by
 cases F:(h.push o).get? b with
 |none=>rfl
 |some g=>
  obtain⟨l,K⟩:=Heap.get?_some_iff.mp F;have L:h.objs[b]?=B' g:=by have e:(h.objs.push o)[b]?=B' g:=l;rw[Array.getElem?_push,Zm (XB M)]at e;exact e
  rw[Heap.get?_some_iff.mpr #[L,K]]at z;cases z]
theorem Dd.update(h:Heap)(a)(f)(t:(h.get? a).isSome):Dd h (h.update a f):=#[by rw[Heap.size_after_update];exact Xb _,λb M z=>by
 by_cases e:a=b
 ·subst e;rw[z]at t;cases t
 ·rw[Xy _ _ e];exact z]
theorem qT(h:Runs M Γ p t fs s e s'):Dd s.heap s'.heap:=by
 induction h with
 |update ha _ ih=>exact(Dd.update _ _ _ ha).trans ih
 |alloc _ ih=>exact(Dd.push _ _).trans ih
 |done=>exact Dd.refl _
 |raise=>exact Dd.refl _
 |yield=>exact Dd.refl _
 |call _ _ b a=>exact b.trans a
 |resumeFresh _ _ _ _ b a=>exact Dd.trans b a
 |resumeSuspended _ _ _ _ b a=>exact Dd.trans b a
 |segRet _ _ b a=>exact b.trans a
 |segGen _ _ b a=>exact Dd.trans b a
 |segSuspGen _ _ _ _ b a=>exact Dd.trans b a
 |_=>assumption
theorem DG(h:Wakes M Γ p g r s res s'):Dd s.heap s'.heap:=by
 unfold Wakes at h;split at h
 ·exact h.elim
 ·split at h
  ·obtain⟨a,Z,I,_,_,rfl⟩:=h;exact(qT I:Dd (s.setGen g .running).heap Z.heap)
  ·rw[h.2];exact Dd.refl _
  ·rw[h.2];exact Dd.refl _
 ·obtain⟨a,Z,I,_,_,rfl⟩:=h;exact(qT I:Dd (s.setGen g .running).heap Z.heap)
 ·rw[h.2];exact Dd.refl _
 ·rw[h.2];exact Dd.refl _
theorem Pd(M)(v)(h0:Heap)(t):∀(Q:α->Pos->Shared->Prop)(E:Value->Pos->Shared->Prop)(p:Pos)(s:Shared),Dd h0 s.heap->Sem.wp M v t Q E p s->
  Sem.wp M v t (λa u l=>Dd h0 l.heap/\Q a u l) (λe u l=>Dd h0 l.heap/\E e u l) p s:=by
 induction t with
 |pure a=>intro Q E p s P h;exact#[P,h]
 |raise e=>intro Q E p s P h;exact#[P,h]
 |unsupported _=>intro Q E p s _ h;exact h
 |finish _=>intro Q E p s _ h;exact h
 |rule _ k ih=>intro Q E p s P h;exact ih () Q E p s P h
 |«at» u k ih=>intro Q E p s P h;exact ih () Q E u s P h
 |load a _ k ih=>intro Q E p s P h;obtain⟨o,B,h⟩:=h;exact#[o,B,ih o Q E p s P h]
 |update a _ f k ih=>intro Q E p s P h;exact#[h.1,ih () Q E p _ (P.trans<|Dd.update _ _ _ h.1) h.2]
 |loadIfAlive a k ih=>intro Q E p s P h;exact ih _ Q E p s P h
 |point _ k ih=>intro Q E p s P h;exact ih () Q E p s P h
 |register _ _=>intro Q E p s _ h;exact h
 |alloc o k ih=>intro Q E p s P h;exact ih _ Q E p _ (P.trans<|Dd.push _ _) h
 |fresh k ih=>intro Q E p s P h;exact ih _ Q E p _ P h
 |ask k ih=>intro Q E p s P h;exact ih _ Q E p s P h
 |choose src m k ih=>intro Q E p s P h;exact#[h.1,ih _ Q E p _ P h.2]
 |os q _ k ih=>intro Q E p s P h;exact ih _ Q E p _ P h
 |call c hd _ _ k ih=>intro Q E p s P h;obtain⟨r,l,I,h⟩:=h;exact#[r,l,I,ih r Q E p l (P.trans<|qT I) h]
 |handled own k ih=>intro Q E p s P h;exact ih _ Q E p s P h
 |genState g k ih=>intro Q E p s P h;obtain⟨st,w,h⟩:=h;exact#[st,w,ih _ Q E p s P h]
 |newGen c k ih=>intro Q E p s P h;exact ih _ Q E p _ P h
 |resume g r _ k ih=>intro Q E p s P h;obtain⟨b,l,y,h⟩:=h;exact#[b,l,y,ih b Q E p l (P.trans<|DG y) h]
 |yield _ _ _ _=>intro Q E p s _ h;exact h
 |stack k ih=>intro Q E p s P h;exact ih _ Q E p s P h
 |fork _ _=>intro Q E p s _ h;exact h
 |thread k ih=>intro Q E p s P h;exact ih _ Q E p s P h
 |await _ _ _ _ _=>intro Q E p s _ h;exact h
theorem oj{t:Sem α}{Q:α->Shared->Prop}(h:wpAny M A t (λa l=>Dd s.heap l.heap->Q a l) (λe l=>Dd s.heap l.heap->E e l) s):wpAny M A t Q E s:=
 have q:wpAny M A t (λa l=>Dd s.heap l.heap/\(Dd s.heap l.heap->Q a l)) (λe l=>Dd s.heap l.heap/\(Dd s.heap l.heap->E e l)) s:=λv p b=>Pd M v s.heap t _ _ p s (Dd.refl _) (h v p b)
 ZA q (λ_ _ x=>x.2 x.1) (λ_ _ x=>x.2 x.1)
end Mx
end
section
namespace L2
open PySem PySem.Spec PyProof.Rows
theorem lQ(o:Obj)(f):(o.mapFields f).dict=o.dict:=by obtain⟨c,d,p,t⟩:=o;cases p<;>rfl
def dX(h:Heap)(a T:Addr):Prop:=∃o c,h.get? a=B' o/\o.data= .fields c/\c[1]?=B' (.ref T)
structure i9(N:Nat)(cls:Value)(a:Addr)(H:Hp)(h:Heap):Prop where
 ge:N<=a
 nH:H a=G'
 obj:∃o vs,h.get? a=B' o/\(o.cls=cls/\o.dict=G')/\o.data= .fields vs/\(vs[1]?=B' .none\/∃T,vs[1]?=B' (.ref T))
 tb:∀T,dX h a T->N<=T/\H T=G'/\T≠a/\∃oT ts,h.get? T=B' oT/\oT.data= .fields ts/\3<ts.size
structure uM(fs:List Addr)(a:Addr)(h h':Heap):Prop where
 keep:∀b o,h.get? b=B' o->b≠a->¬dX h a b->b∉fs->h'.get? b=B' o
 slot:∀b o,h.get? b=B' o->b≠a->¬dX h a b->∃sl,h'.get? b=B' {o with slots:=sl}
 there:∀b o,h.get? b=B' o->∃o',h'.get? b=B' o'
 tb:∀T,dX h' a T->dX h a T\/h.get? T=G'
theorem uM.trans(x:uM fs a h h1)(y:uM fs a h1 h2):uM fs a h h2 where
 keep:=λb o e n S Y=>by
  have B:=x.keep b o e n S Y;exact y.keep b o B n (λz=>by
   rcases x.tb b z with q|q
   ·exact S q
   ·rw[e]at q;cases q) Y
 slot:=λb o e n S=>by
  obtain⟨t,B⟩:=x.slot b o e n S;obtain⟨p,E⟩:=y.slot b _ B n (λz=>by
   rcases x.tb b z with q|q
   ·exact S q
   ·rw[e]at q;cases q)
  exact#[p,E]
 there:=λb o e=>by obtain⟨Z,B⟩:=x.there b o e;exact y.there b Z B
 tb:=λT z=>by
  rcases y.tb T z with q|q
  ·exact x.tb T q
  ·right;cases F:h.get? T with
   |none=>rfl
   |some o=>obtain⟨g,K⟩:=x.there T o F;rw[K]at q;cases q
theorem uM.refl:uM fs a h h:=#[λ_ _ e _ _ _=>e,λ_ o e _ _=>#[o.slots,e],λ_ o e=>#[o,e],λ_ z=>.inl z]
section
variable{M:Model}{A:Around}{E:Value->Shared->Prop}{s:Shared}{N:Nat}{cls:Value}{a:Addr}{H:Hp}{base:Heap}{env gG:Env}{outer:List Env}{L:Addr}
theorem kX(e)(h:env.frame=gG.frame):noteFrame e env=noteFrame e gG:=by unfold noteFrame PySem.frameOf;rw[h]
theorem sj(K:A.frames=B' (env::outer))(W:s.heap.FunFrames base (env::outer))(r:env.frame=B' L)(F:i9 N cls a H s.heap)(g:∀b,s.heap.objs.size<=b->H b=G')
  (q:∀h',uM (fH (env::outer)) a s.heap h'->i9 N cls a H h'->(∃T,dX h' a T)->Q () {s with heap:=h'}):
  wpAny M A (do let x<-frameOf env;let pl<-entryPlaceOf L EY;let b<-EntryCells.newEntry head x .none (rawInt L) .none pl;setField (.ref a) 1 b) Q E s:=by
 obtain⟨w,c,P,y,hd,Z⟩:=F.obj;have m:1<c.size:=by rcases Z with Z|⟨T,Z⟩<;>exact(Array.getElem?_eq_some_iff.mp Z).1
 have Rw:a∉fH (env::outer):=λhm=>by obtain⟨_,o,ho,Qc⟩:=W.mem hm;rw[P]at ho;injection ho with ho;subst ho;exact Qc c hd
 refine W1<|wpAny_frameOf_fun K W r λh₁ h=>?_;refine W1<|wpAny_entryPlaceOf λpl J=>?_;refine W1<|ZC ?_<|J.sizeOk5 _ _ _ _ _;have p:=(h.2.1 a Rw).trans P;generalize v:({cls:=.type "traceback",dict:=G',data:=.fields ([head,.ref L,.none,rawInt L,.none]++(if pl.isEmpty then List.replicate 6 Value.none else pl)).toArray}:Obj)=oT;have Vk:oT.data= .fields ([head,.ref L,.none,rawInt L,.none]++(if pl.isEmpty then List.replicate 6 Value.none else pl)).toArray:=by rw[<-v]
 have Vl:oT.isFreed=K':=by rw[<-v];rfl
 have u:=W3 oT p;refine wpAny_setField u hd m (q _ ?_ ?_ ?_)
 all_goals
  have k:=h.1;have T2:=Y3<|Xg p;have i:=Obj.data_mapFields hd (·.setIfInBounds 1 (Value.ref h₁.objs.size));have l:=Heap.get?_update_self (Obj.mapFields (·.setIfInBounds 1 (Value.ref h₁.objs.size))) u<|Obj.isFreed_of_fields i;have hT₃:=(Xy (h₁.push oT) (Obj.mapFields (·.setIfInBounds 1 (Value.ref h₁.objs.size)))<|Y6 T2).trans<|Xd h₁ Vl;have kp:∀b o,b≠a->h₁.get? b=B' o->((h₁.push oT).update a (Obj.mapFields (·.setIfInBounds 1 (Value.ref h₁.objs.size)))).get? b=B' o:=λb o hb e=>
   (Xy _ _<|Y6 hb).trans (W3 _ e)
  have UC:∀T,dX ((h₁.push oT).update a (Obj.mapFields (·.setIfInBounds 1 (Value.ref h₁.objs.size)))) a T->T=h₁.objs.size:=λT#[o,X,O,j,I]=>by rw[l]at O;cases O;rw[i]at j;cases j;simp[m]at I;exact I.symm
 ·refine#[λb o e n S Y=>kp b o n<|(h.2.1 b Y).trans e,λb o e n S=>?_,λb o e=>?_,λT z=>.inr ?_]
  ·obtain⟨t,B⟩:=h.2.2 b o e;exact#[t,kp b _ n B]
  ·by_cases hb:b=a
   ·subst hb;exact#[_,l]
   ·obtain⟨t,B⟩:=h.2.2 b o e;exact#[_,kp b _ hb B]
  ·rw[UC T z,k];exact Heap.get?_none_of_le<|Xb _
 ·refine#[F.ge,F.nH,#[_,_,l,#[(Obj.cls_mapFields _ _).trans y.1,(lQ _ _).trans y.2],i,.inr #[h₁.objs.size,by simp[m]]],λT z=>?_];have e:=UC T z;subst e;refine#[?_,g _<|by rw[k];exact Xb _,T2,oT,_,hT₃,Vk,by simp];rw[k];exact Xh F.ge<|YW<|Xg P
 ·exact#[h₁.objs.size,_,_,l,i,by simp[m]]
theorem Bv(K:A.frames=B' (env::outer))(W:s.heap.FunFrames base (env::outer))(r:env.frame=B' L)(F:i9 N cls a H s.heap)(g:∀b,s.heap.objs.size<=b->H b=G')
  (q:∀h',uM (fH (env::outer)) a s.heap h'->i9 N cls a H h'->(∃T,dX h' a T)->Q () {s with heap:=h'}):wpAny M A (noteFrame (.ref a) env) Q E s:=by
 obtain⟨w,c,P,y,hd,Z⟩:=id F.obj;unfold noteFrame;simp only[r];rcases Z with Z|⟨T,Z⟩
 ·refine W1<|Zy P hd Z ?_;rw[Zm (by decide)];exact sj K W r F g q
 ·have h:dX s.heap a T:=#[w,c,P,hd,Z];obtain⟨p,t2,l,oT,ts,v,m,u⟩:=F.tb T h;refine W1<|Zy P hd Z ?_;rw[Zn (by simp)];refine W1<|Zy v m (x:=ts[3]) (by simp[u]) ?_;split
  ·have e:s={s with heap:=s.heap}:=by cases s;rfl
   rw[e];exact W4<|q s.heap uM.refl F #[T,h]
  ·refine W1<|wpAny_setField v m u ?_;have k:∀b,b≠T->(s.heap.update T (Obj.mapFields (·.setIfInBounds 3 Value.none))).get? b=s.heap.get? b:=λb hb=>Xy _ _ (Y6 hb)
   have MX:=Heap.get?_update_self (Obj.mapFields (·.setIfInBounds 3 Value.none)) v<|Obj.isFreed_of_fields<|Obj.data_mapFields m _;have B:∀i,dX (s.heap.update T (Obj.mapFields (·.setIfInBounds 3 Value.none))) a i->i=T:=λi#[o,X,O,j,I]=>by rw[k a (Y6 l),P]at O;cases O;rw[hd]at j;cases j;rw[Z]at I;cases I;rfl
   have F':i9 N cls a H (s.heap.update T (Obj.mapFields (·.setIfInBounds 3 Value.none))):=by refine#[F.ge,F.nH,#[w,c,(k a<|Y6 l).trans P,y,hd,.inr #[T,Z]],λi z=>?_];rw[B i z];exact#[p,t2,l,_,_,MX,Obj.data_mapFields m _,by simpa using u]
   have Hw:=W.of_keeps λb o hb J=>#[o,(k b λz=>by
    subst z;rw[v]at hb;cases hb;exact J ts m).trans hb,rfl]
   refine sj K Hw r F' (λb hb=>g b<|by
    have:(s.heap.update T (Obj.mapFields (·.setIfInBounds 3 Value.none))).objs.size=s.heap.objs.size:=Heap.size_after_update ..;rw[this]at hb;exact hb) λh' x f t=>q h' (uM.trans #[λb o e n S Y=>(k b λz=>S<|z▸h).trans e,λb o e n S=>#[o.slots,(k b λz=>S<|z▸h).trans e],λb o e=>?_,λi z=>.inl<|by rw[B i z];exact h] x) f t
   by_cases hb:b=T
   ·subst hb;exact#[_,MX]
   ·exact#[o,(k b hb).trans e]
theorem w6(K:A.frames=B' (gG::outer))(W:s.heap.FunFrames base (gG::outer))(c:gG.frame=B' L)(r:env.frame=gG.frame)(F:i9 N cls a H s.heap)(g:∀b,s.heap.objs.size<=b->H b=G')
  (q:∀h',uM (fH (gG::outer)) a s.heap h'->i9 N cls a H h'->(∃T,dX h' a T)->Q () {s with heap:=h'}):wpAny M A (noteFrame (.ref a) env) Q E s:=by
 rw[kX _ r];exact Bv K W c F g q
theorem fq(F:i9 N cls a H s.heap)(O:∃T,dX s.heap a T)(q:∀h',uM fs a s.heap h'->i9 N cls a H h'->(∃T,dX h' a T)->Q () {s with heap:=h'}):wpAny M A (setFlight (.ref a) fl) Q E s:=by
 obtain⟨T,h⟩:=O;obtain⟨p,t2,l,t,ts,v,m,u⟩:=F.tb T h;obtain⟨w,c,P,hd,Z⟩:=id h;obtain⟨K,J,W,y,r,_⟩:=id F.obj;rw[P]at W;cases W;refine W1<|Zy P hd Z ?_;rw[Zn (by simp)];refine wpAny_setField v m u ?_;generalize L:(fl.elim Value.none λf=>rawInt f)=x;have k:∀b,b≠T->(s.heap.update T (Obj.mapFields (·.setIfInBounds 3 x))).get? b=s.heap.get? b:=λb hb=>Xy _ _ (Y6 hb)
 have g:=Heap.get?_update_self (Obj.mapFields (·.setIfInBounds 3 x)) v<|Obj.isFreed_of_fields<|Obj.data_mapFields m _;have B:∀i,dX (s.heap.update T (Obj.mapFields (·.setIfInBounds 3 x))) a i->i=T:=λi#[o,X,z1,j,I]=>by rw[k a (Y6 l),P]at z1;cases z1;rw[hd]at j;cases j;rw[Z]at I;cases I;rfl
 refine q _ #[λb o e n S Y=>(k b λz=>S<|z▸h).trans e,λb o e n S=>#[o.slots,(k b λz=>S<|z▸h).trans e],λb o e=>?_,λi z=>.inl<|by rw[B i z];exact h] #[F.ge,F.nH,#[w,c,(k a<|Y6 l).trans P,y,hd,.inr #[T,Z]],λi z=>?_] #[T,w,c,(k a<|Y6 l).trans P,hd,Z]
 ·by_cases hb:b=T
  ·subst hb;exact#[_,g]
  ·exact#[o,(k b hb).trans e]
 ·rw[B i z];exact#[p,t2,l,_,_,g,Obj.data_mapFields m _,by simpa using u]
theorem EI(F:i9 N cls a H s.heap)(O:∃T,dX s.heap a T)(q:∀h',uM fs a s.heap h'->i9 N cls a H h'->(∃T,dX h' a T)->E (.ref a) {s with heap:=h'}):wpAny M A (passOn Ta (.ref a) env:Sem α) Q E s:=by obtain⟨T,h⟩:=id O;obtain⟨w,c,P,hd,Z⟩:=h;refine W1<|Zy P hd Z ?_;rw[Zm (by simp)];exact W1<|fq F O λh' x f t=>wpAny_throw<|q h' x f t
theorem EH(F:i9 N cls a H s.heap)(O:∃T,dX s.heap a T)(q:∀h',uM fs a s.heap h'->i9 N cls a H h'->(∃T,dX h' a T)->E (.ref a) {s with heap:=h'}):cameBackBy M A env E (.ref a) s:=by obtain⟨T,h⟩:=id O;obtain⟨w,c,P,hd,Z⟩:=h;refine W1<|Zy P hd Z ?_;rw[Zm (by simp)];exact fq F O λh' x f t=>q h' x f t
end
section
variable{X:Cx}{σ:St}{H:Hp}{s:Shared}{cls:Value}{a:Addr}
theorem Inv.Lz(j:X.pn=[])(I:Inv X [] σ H s)(F:i9 X.s₀.heap.objs.size cls a H s.heap)(x:uM (fH X.stack) a s.heap h'):Inv X [] σ H {s with heap:=h'}:=by
 obtain⟨oa,va,t,T3,Vq,WT⟩:=F.obj;have S:=F.tb;have Tr:∀b o,s.heap.get? b=B' o->(∀vs,o.data≠ .fields vs)->b≠a/\¬dX s.heap a b:=λb o e Y=>by
  refine#[λz=>?_,λz=>?_]
  ·subst z;rw[t]at e;cases e;exact Y va Vq
  ·obtain⟨_,_,_,oT,ts,hT,BN,_⟩:=S b z;rw[hT]at e;cases e;exact Y ts BN
 have h:∀b o,X.s₀.heap.get? b=B' o->b≠a/\¬dX s.heap a b:=λb o e=>by
  refine#[λz=>?_,λz=>?_]
  ·subst z;exact absurd (Xr (Xg e) F.ge)<|YY _
  ·exact absurd (Xr (Xg e) (S b z).1) (YY _)
 have Z:∀b o,X.s₀.heap.get? b=B' o->b≠X.env.locals:=λb o e=>XB (Xr (Xg e) I.ok.above)
 have GQ:∀b o,X.s₀.heap.get? b=B' o->b∈fH X.stack->b∈X.fs:=λb o e z=>by
  rcases Xi.mp (I.mZ b z)with q|q
  ·exact absurd q<|Z b o e
  ·exact q
 have Ld:∀c u,H c=B' u->∀v,s.heap.get? c=B' v->h'.get? c=B' v:=λc u K v e=>by
  refine x.keep c v e (λz=>by subst z;rw[F.nH]at K;cases K) (λz=>by rw[(S c z).2.1]at K;cases K) λz=>?_
  rw[I.q9 c z]at K;cases K
 have A:∀y c,X.env.cells.lookup y=B' c->∀v,s.heap.IsCell c v->h'.IsCell c v:=λy c e v#[o,ho,hd]=>by
  obtain⟨w,P⟩:=Tr c o ho λvs q=>by rw[hd]at q;cases q
  obtain⟨sl,q⟩:=x.slot c o ho w P;exact#[_,q,hd]
 refine#[I.ok,I.os,I.bare,#[λb o e n M L=>?_,λb o e n M L=>?_,I.base.free,λb o e L=>?_,I.base.tups,I.base.frzs,I.base.tbls],?_,λy c e=>?_,I.free,I.de,λp J=>?_,?_,I.len]
 ·exact x.keep b o (I.base.keep b o e n M L) (h b o e).1 (h b o e).2 λz=>M<|GQ b o e z
 ·obtain⟨sl,B⟩:=I.base.slot b o e n M L;obtain⟨O,E⟩:=x.slot b _ B (h b o e).1 (h b o e).2;exact#[O,E]
 ·obtain⟨g,B⟩:=I.base.there b o e L;exact x.there b g B
 ·obtain⟨m,⟨o,es,ep,ho,hd,r⟩,W⟩:=I.loc;obtain⟨w,P⟩:=Tr _ o ho λvs q=>by rw[hd]at q;cases q
  obtain⟨sl,q⟩:=x.slot _ o ho w P;refine#[m,#[_,es,ep,q,hd,r],λi y v B E e3=>?_];obtain⟨u,Q,l⟩:=W i y v B E e3;refine#[u,Q,?_];rcases l with l|⟨k,c,e,z⟩
  ·exact .inl l
  ·exact .inr #[k,c,e,A y c e _ z]
 ·obtain⟨v,z⟩:=I.cell y c e;exact#[v,A y c e v z]
 ·rw[j]at J;cases J
 ·intro b u e;refine(I.hok b u e).kZ (λc v K q=>?_) (λ_ q=>q) λ_ _ q=>q
  rcases K with rfl|K
  ·exact Ld c u e v q
  ·exact Ld c _ K v q
end
def nG(X:Cx)(E:XK)(e:Value)(l:Shared):Prop:=∃O L a cls,e= .ref a/\Inv X [] O L l/\i9 X.s₀.heap.objs.size cls a L l.heap/\E cls G' L
def uv(P:Program)(w:World):nK:=λouter H s E e l=>∃L a cls,e= .ref a/\l.os=s.os/\AllBare l.gens/\Un (fH outer) [] H L s.heap l.heap/\dZ P w L l.heap/\i9 s.heap.objs.size cls a L l.heap/\E cls G' L
structure gf(X:Cx):Prop where
 pn:X.pn=[]
 st:∃gG mB L,X.stack=gG::mB/\gG.frame=B' L/\X.env.frame=gG.frame
section
variable{X:Cx}{E:XK}
theorem Dq{K:PySem.W.Frag}:gf (lM CX P w K mg base N qual scope f cd A outer s H E):=
 #[rfl,_,_,_,rfl,rfl,rfl]
theorem yD(st:gf X):gf (j4 X scope N' C s H fp xe):=by obtain⟨J,gG,p,L,Z,Y,u⟩:=st;exact#[rfl,gG,p,L,Z,Y,u]
theorem i9.down(F:i9 N cls a H h)(P:N'<=N):i9 N' cls a H h:=#[Xh P F.ge,F.nH,F.obj,λT z=>#[Xh P (F.tb T z).1,(F.tb T z).2]]
theorem DM{O:St}(I:Inv X M' O H s)(j:X.pn=[])(c:uv X.prog X.w X.stack H s E e s'):nG X E e s':=by
 obtain⟨L,a,cls,B,Z,Y,u,Q,n,l⟩:=c;have g:=I.AQ Z u Q Y λb z=>by cases z
 refine#[O,L,a,cls,B,g.ic (λp J=>by cases J),n.down I.sz,l]
theorem pw(st:gf X)(h:nG X E e s)(q:∀O H' a cls l,e= .ref a->Inv X [] O H' l->i9 X.s₀.heap.objs.size cls a H' l.heap->(∃T,dX l.heap a T)->E cls G' H'->Q () l):wpAny (model X.prog X.w) X.A (noteFrame e X.env) Q E2 s:=by
 obtain⟨O,H',a,cls,rfl,I,F,hE⟩:=h;obtain⟨J,gG,p,L,Z,Y,u⟩:=st;have K:=I.ok.frames;have W:=I.stack;rw[Z]at K W;refine w6 K W Y u F (λb M=>I.hok.fresh M) λh' x f t=>?_
 rw[<-Z]at x;exact q O H' a cls _ rfl (I.Lz J F x) f t hE
theorem uo(st:gf X)(h:nG X E e s)(q:∀O L a cls l,e= .ref a->Inv X [] O L l->i9 X.s₀.heap.objs.size cls a L l.heap->(∃T,dX l.heap a T)->E cls G' L->R e l):notedBy (model X.prog X.w) X.A X.env R e s:=
 pw st h q
theorem yM(st:gf X)(L:∀e l,nG X E e l->X.xe e l)(b:∀e l,X.xe e l->nG X E e l):PassesOwn (model X.prog X.w) X.A X.env X.xe:=λe l h=>by
 refine uo st (b e l h) λO H' a cls s1 B g F p hE=>?_
 subst B;exact EH F p λh' x f t=>L _ _ #[O,H',a,cls,rfl,g.Lz st.pn F x,f,hE]
end
theorem Lx{K:PySem.W.Frag}
  (h:nG (lM (uv P w) P w K mg base N qual scope f cd A outer s H E) E e s'):(lM (uv P w) P w K mg base N qual scope f cd A outer s H E).xe e s':=by
 have st:=Dq (CX:=uv P w) (P:=P) (w:=w) (K:=K) (mg:=mg) (base:=base) (N:=N) (qual:=qual) (scope:=scope) (f:=f) (cd:=cd) (A:=A) (outer:=outer) (s:=s) (H:=H) (E:=E);show wpAny (model P w) (A.deeper<|envOfC qual scope s.heap.objs.size f cd) (leaving (envOfC qual scope s.heap.objs.size f cd) e) (λ_ v=>uv P w outer H s E e v) (λe' v=>uv P w outer H s E e' v) s';refine W1<|pw st h λO L a cls s1 B g F p hE=>?_;subst B;refine fq (fs:=fH (lM (uv P w) P w K mg base N qual scope f cd A outer s H E).stack) F p λh' x l t=>?_
 have Y:=g.Lz st.pn F x;exact#[L,a,cls,rfl,Y.os,Y.bare,Y.base,Y.hok,l,hE]
section
variable{X:Cx}{E:XK}{scope:Scope}{N':List Str}
theorem Cx.Ok.xe{xe:Value->Shared->Prop}(k:X.Ok):Cx.Ok {X with xe:=xe}:=#[k.mod,k.kind,k.glob,k.blt,k.above,k.inj,k.has,k.DY,k.hd,k.frames,k.GQ,k.Hm,k.bs,k.DX,k.nU,k.p9,k.iP,k.EK]
theorem Inv.xe{xe:Value->Shared->Prop}{M':List (Addr×Obj)}{σ:St}{H:Hp}{s:Shared}(I:Inv X M' σ H s):Inv {X with xe:=xe} M' σ H s:=#[I.ok.xe,I.os,I.bare,I.base,I.loc,I.cell,I.free,I.de,I.pin,I.hok,I.len]
def Ie(X:Cx)(scope:Scope)(a:List Str)(E:XK)(C:Addr)(s:Shared)(H:Hp)(k:List Addr):Value->Shared->Prop:=nG (j4 X scope a C s H k λ_ _=>False) E
theorem Lw(h:nG (j4 X scope N' C s H fp xe) E e s'):Ie X scope N' E C s H fp e s':=by obtain⟨O,L,a,cls,B,I,F,hE⟩:=h;exact#[O,L,a,cls,B,I.xe,F,hE]
theorem J9(h:Ie X scope N' E C s H fp e s'):nG (j4 X scope N' C s H fp xe) E e s':=by obtain⟨O,L,a,cls,B,I,F,hE⟩:=h;exact#[O,L,a,cls,B,I.xe,F,hE]
theorem i9.at(F:i9 h0 cls a H h)(k:∀b o c,h.get? b=B' o->o.data= .fields c->h'.get? b=B' o):i9 h0 cls a H h':=by obtain⟨o,c,Z,Y,u,Q⟩:=F.obj;have B:=k a o c Z u;refine#[F.ge,F.nH,#[o,c,B,Y,u,Q],λT z=>?_];obtain⟨g,X,O,j,I⟩:=z;rw[B]at O;cases O;obtain⟨p,t2,l,t,ts,v,n,i⟩:=F.tb T #[o,X,Z,j,I];exact#[p,t2,l,t,ts,k T t ts v n,n,i]
theorem yL(st:gf X)(V7:∀e l,nG X E e l->X.xe e l):Ec X scope N' (Ie X scope N' E):=by
 refine⟨λS O C s s1 H j k x l g Y hC w A v Q=>?_⟩;refine uo (X:=j4 X scope N' C s H k<|Ie X scope N' E C s H k) (yD st) (J9 Q) λσ' L a cls P B h F5 n hE=>?_
 subst B;obtain⟨m5,F,_⟩:=h.loc;have K:P.heap.Ns C m5:=F;refine#[m5,K,λh' q y sG=>?_];have un:Un (fH X.stack) k j L s1.heap P.heap:=by
  have W:Un (fH X.stack) k j H s1.heap s.heap:=by rw[A,w];exact Un.laid (λb u e=>W3 _ e) (Xb _) g.fresh
  exact W.trans h.base
 have hI:=g.AQ (h.os.trans<|by show s.os=s1.os;rw[w]) un h.hok h.bare λb M=>#[(Y b M).2.2.2.1,(Y b M).2.1,(Y b M).2.2.2.2.1,(Y b M).2.2.2.2.2]
 have fC:=g.nN (YW hC) h.free;have Z:=hI.turned (t':=P.toks) (λb o M e=>(q.2 b M).trans e) fC.1 fC.2.1 fC.2.2.2.1 fC.2.2.2.2.1 fC.2.2.2.2.2;have Vf:Inv X [] O L {P with heap:=h'}:=Z.ic λp J=>by cases J
 have m:s1.heap.objs.size<=s.heap.objs.size:=by rw[w];show _<=(s1.heap.push _).objs.size;rw[XA];exact YX _
 have F6:i9 X.s₀.heap.objs.size cls a L h':=by
  have hd:∀b o c,P.heap.get? b=B' o->o.data= .fields c->h'.get? b=B' o:=λb o c e hd=>by refine(q.2 b λz=>?_).trans e;subst z;obtain⟨o',es,ep,i,r,_⟩:=K;rw[e]at i;cases i;rw[hd]at r;cases r
  exact(F5.at hd).down (Xh g.sz m)
 have t6:∃T,dX h' a T:=by obtain⟨T,o,c,z1,z2,I⟩:=n;refine#[T,o,c,(q.2 a λz=>?_).trans z1,z2,I];subst z;obtain⟨o',es,ep,i,r,_⟩:=K;rw[z1]at i;cases i;rw[z2]at r;cases r
 exact EI F6 t6 λh'' x f t=>V7 _ _ #[O,L,a,cls,rfl,Vf.Lz st.pn F6 x,f,hE]
end
end L2
end
section
namespace Rx
open PySem PySem.W PySem.Spec PyProof.Rows L2 PySem.SeqAt
inductive Dt where
 |bX|bl (b:Bool)|int (i:Int)|str (x:Str)|tup (ds:List Dt)|lst (ds:List Dt)|ir (ns:List Int)
 |c8 (ks vs:List Dt)|obj (ks:List Str) (vs:List Dt)|exc (c:Nat)
abbrev Frag:=PySem.W.Frag
def KL(K:Frag)(a:Addr)(xs:List V):Prop:=∃(o:Obj)(J:Array Value)(n:Nat),K.lookup a=B' o/\o.cls= .type "list"/\o.dict=G'/\o.data= .seq J n/\J.size<=sizeLine/\au xs J.toList
mutual
noncomputable def RV(K:Frag)(A:Addr->Prop)(H:Hp):V->Dt->Prop
 |x,.bX=>x= .bX
 |x,.bl b=>x= .bl b
 |x,.int i=>x= .int i
 |x,.str z=>x= .str z
 |x,.tup ds=>∃a xs,x= .ref a/\H a=B' (.tup xs)/\aq K A H xs ds
 |x,.lst ds=>∃a xs,x= .ref a/\H a=B' (.lst xs)/\¬A a/\aq K A H xs ds
 |x,.ir ns=>∃a,x= .ref a/\((Rd H a (.lst<|ns.map V.int)/\¬A a)\/KL K a (ns.map V.int))
 |_,.c8 _ _=>False
 |x,.obj ks vs=>∃a a9,x= .ref a/\H a=B' (.dK a9)/\¬A a/\a9.map (·.1)=ks.map Sum.inr/\aq K A H (a9.map (·.2)) vs
 |_,.exc _=>False
noncomputable def aq(K:Frag)(A:Addr->Prop)(H:Hp):List V->List Dt->Prop
 |[],[]=>True
 |x::xs,d::ds=>RV K A H x d/\aq K A H xs ds
 |[],_::_=>False
 |_::_,[]=>False
end
section
variable{K:Frag}{A B:Addr->Prop}{H H':Hp}
theorem RV.dY(h:RV K A H x .bX):x= .bX:=by unfold RV at h;exact h
theorem RV.bY{b}(h:RV K A H x (.bl b)):x= .bl b:=by unfold RV at h;exact h
theorem RV.int_inv{b}(h:RV K A H x (.int b)):x= .int b:=by unfold RV at h;exact h
theorem RV.str_inv{b}(h:RV K A H x (.str b)):x= .str b:=by unfold RV at h;exact h
theorem RV.ao{ds}(h:RV K A H x (.tup ds)):∃a xs,x= .ref a/\H a=B' (.tup xs)/\aq K A H xs ds:=by unfold RV at h;exact h
theorem RV.lst_inv{ds}(h:RV K A H x (.lst ds)):∃a xs,x= .ref a/\H a=B' (.lst xs)/\¬A a/\aq K A H xs ds:=by unfold RV at h;exact h
theorem RV.ix{ns}(h:RV K A H x (.ir ns)):∃a,x= .ref a/\((Rd H a (.lst<|ns.map V.int)/\¬A a)\/KL K a (ns.map V.int)):=by unfold RV at h;exact h
theorem RV.ke{ns}(h:RV K A H x (.ir ns)):∃a,x= .ref a/\d8 K H a (ns.map V.int):=by
 obtain⟨a,e,h|h⟩:=h.ix
 ·exact#[a,e,.inl h.1]
 ·exact#[a,e,.inr h]
theorem RV.pZ{O c}(h:RV K A H x (.c8 O c)):False:=by unfold RV at h;exact h
theorem RV.ib{O c}(h:RV K A H x (.obj O c)):∃a j,x= .ref a/\H a=B' (.dK j)/\¬A a/\j.map (·.1)=O.map Sum.inr/\aq K A H (j.map (·.2)) c:=by unfold RV at h;exact h
theorem RV.p8{O}(h:RV K A H x (.exc O)):False:=by unfold RV at h;exact h
theorem RV.qy:RV K A H .bX .bX:=by unfold RV;rfl
theorem RV.xM{b}:RV K A H (.bl b) (.bl b):=by unfold RV;rfl
theorem RV.fS{b}:RV K A H (.int b) (.int b):=by unfold RV;rfl
theorem RV.qA{b}:RV K A H (.str b) (.str b):=by unfold RV;rfl
theorem RV.iV{a xs ds}(h:H a=B' (.tup xs))(t:aq K A H xs ds):RV K A H (.ref a) (.tup ds):=by unfold RV;exact#[a,xs,rfl,h,t]
theorem RV.fT{a xs ds}(h:H a=B' (.lst xs))(n:¬A a)(t:aq K A H xs ds):RV K A H (.ref a) (.lst ds):=by unfold RV;exact#[a,xs,rfl,h,n,t]
theorem RV.Cg{a j O c}(h:H a=B' (.dK j))(n:¬A a)(e:j.map (·.1)=O.map Sum.inr)(t:aq K A H (j.map (·.2)) c):RV K A H (.ref a) (.obj O c):=by unfold RV;exact#[a,j,rfl,h,n,e,t]
theorem aq.nil:aq K A H [] []:=by unfold aq;trivial
theorem aq.cons{x d xs ds}(h:RV K A H x d)(t:aq K A H xs ds):aq K A H (x::xs) (d::ds):=by unfold aq;exact#[h,t]
theorem aq.nil_inv{xs}(h:aq K A H xs []):xs=[]:=by
 cases xs with
 |nil=>rfl
 |cons=>unfold aq at h;exact h.elim
theorem aq.et{ds}(h:aq K A H [] ds):ds=[]:=by
 cases ds with
 |nil=>rfl
 |cons=>unfold aq at h;exact h.elim
theorem aq.cons_inv{xs d ds}(h:aq K A H xs (d::ds)):∃x r,xs=x::r/\RV K A H x d/\aq K A H r ds:=by
 cases xs with
 |nil=>unfold aq at h;exact h.elim
 |cons x r=>unfold aq at h;exact#[x,r,rfl,h]
theorem aq.oC{x xs ds}(h:aq K A H (x::xs) ds):∃d r,ds=d::r/\RV K A H x d/\aq K A H xs r:=by
 cases ds with
 |nil=>unfold aq at h;exact h.elim
 |cons d r=>unfold aq at h;exact#[d,r,rfl,h]
theorem aq.length:∀{xs ds},aq K A H xs ds->xs.length=ds.length
 |[],[],_=>rfl
 |[],_::_,h=>by unfold aq at h;exact h.elim
 |_::_,[],h=>by unfold aq at h;exact h.elim
 |_::xs,_::ds,h=>by unfold aq at h;simp[aq.length h.2]
theorem aq.get:∀{xs ds}{i:Nat}{x},aq K A H xs ds->xs[i]?=B' x->∃d,ds[i]?=B' d/\RV K A H x d
 |[],_,_,_,_,e=>by simp at e
 |_::_,[],_,_,h,_=>by unfold aq at h;exact h.elim
 |_::_,_::_,0,_,h,e=>by unfold aq at h;simp at e;subst e;exact#[_,rfl,h.1]
 |_::xs,_::ds,i+1,x,h,e=>by obtain⟨d,B,E⟩:=aq.get h.2 (by simpa using e);exact#[d,by simpa using B,E]
theorem aq.getD:∀{xs ds}{i:Nat}{d},aq K A H xs ds->ds[i]?=B' d->∃x,xs[i]?=B' x/\RV K A H x d
 |_,[],_,_,_,e=>by simp at e
 |[],_::_,_,_,h,_=>by unfold aq at h;exact h.elim
 |_::_,_::_,0,_,h,e=>by unfold aq at h;simp at e;subst e;exact#[_,rfl,h.1]
 |_::xs,_::ds,i+1,x,h,e=>by obtain⟨d,B,E⟩:=aq.getD h.2 (by simpa using e);exact#[d,by simpa using B,E]
theorem aq.append:∀{xs ys ds es},aq K A H xs ds->aq K A H ys es->aq K A H (xs++ys) (ds++es)
 |[],_,[],_,_,h=>h
 |[],_,_::_,_,h,_=>by unfold aq at h;exact h.elim
 |_::_,_,[],_,h,_=>by unfold aq at h;exact h.elim
 |_::xs,ys,_::ds,es,h,h'=>by exact aq.cons h.1<|aq.append h.2 h'
theorem aq.take:∀{xs ds}(n:Nat),aq K A H xs ds->aq K A H (xs.take n) (ds.take n)
 |[],ds,n,h=>by rw[h.et];simp;exact aq.nil
 |x::xs,[],n,h=>by unfold aq at h;exact h.elim
 |x::xs,d::ds,0,h=>by simp;exact aq.nil
 |x::xs,d::ds,n+1,h=>by simp only[List.take_succ_cons];exact aq.cons h.1<|aq.take n h.2
theorem aq.drop:∀{xs ds}(n:Nat),aq K A H xs ds->aq K A H (xs.drop n) (ds.drop n)
 |[],ds,n,h=>by rw[h.et];simp;exact aq.nil
 |x::xs,[],n,h=>by unfold aq at h;exact h.elim
 |x::xs,d::ds,0,h=>h
 |x::xs,d::ds,n+1,h=>by simp only[List.drop_succ_cons];exact aq.drop n h.2
theorem aq.set:∀{xs ds}(n:Nat){x d},aq K A H xs ds->RV K A H x d->aq K A H (xs.set n x) (ds.set n d)
 |[],ds,n,_,_,h,_=>by rw[h.et];simp;exact aq.nil
 |x::xs,[],n,_,_,h,_=>by unfold aq at h;exact h.elim
 |x::xs,d::ds,0,_,_,h,h'=>by unfold aq at h;simp only[List.set_cons_zero];exact aq.cons h' h.2
 |x::xs,d::ds,n+1,_,_,h,h'=>by simp only[List.set_cons_succ];exact aq.cons h.1<|aq.set n h.2 h'
theorem aq.reverse:∀{xs ds},aq K A H xs ds->aq K A H xs.reverse ds.reverse
 |[],ds,h=>by rw[h.et];exact aq.nil
 |x::xs,[],h=>by unfold aq at h;exact h.elim
 |x::xs,d::ds,h=>by rw[List.reverse_cons,List.reverse_cons];exact aq.append (aq.reverse h.2)<|aq.cons h.1 aq.nil
structure aZ(X:Addr->Prop)(H H':Hp):Prop where
 kp:∀b o,H b=B' o->¬X b->H' b=B' o
 tp:∀b xs,H b=B' (.tup xs)->H' b=B' (.tup xs)
theorem aZ.of_same(s:bJ H H'):aZ X H H':=#[λb o e _=>s b o e,λb xs e=>s b _ e]
theorem aZ.refl:aZ X H H:=#[λ_ _ e _=>e,λ_ _ e=>e]
theorem aZ.trans(a:aZ X H H1)(b:aZ X H1 H'):aZ X H H':=#[λc o e n=>b.kp c o (a.kp c o e n) n,λc xs e=>b.tp c xs<|a.tp c xs e]
theorem aZ.mono(a:aZ X H H')(h:∀b,X b->Y b):aZ Y H H':=#[λb o e n=>a.kp b o e λz=>n<|h b z,a.tp]
theorem KH(e:aZ X H H')(n:¬X a)(h:Rd H a u):Rd H' a u:=by
 rcases h with h|⟨o,h⟩
 ·exact .inl<|e.kp _ _ h n
 ·exact .inr #[o,e.kp _ _ h n]
mutual
noncomputable def lx:Dt->Bool
 |.bX|.bl _|.int _|.str _=>J'
 |.tup ds=>kU ds
 |_=>K'
noncomputable def kU:List Dt->Bool
 |[]=>J'
 |d::ds=>lx d&&kU ds
end
mutual
theorem RV.gen(t:∀b xs,H b=B' (.tup xs)->H' b=B' (.tup xs)):∀{x d},(lx d=J'\/∀b o,H b=B' o->¬A b->H' b=B' o/\¬B b)->RV K A H x d->RV K B H' x d
 |x,.bX,_,h=>by rw[h.dY];exact RV.qy
 |x,.bl b,_,h=>by rw[h.bY];exact RV.xM
 |x,.int b,_,h=>by rw[h.int_inv];exact RV.fS
 |x,.str b,_,h=>by rw[h.str_inv];exact RV.qA
 |x,.tup ds,n,h=>by obtain⟨a,xs,rfl,h1,h2⟩:=h.ao;exact RV.iV (t _ _ h1)<|aq.gen t (n.imp_left id) h2
 |x,.lst ds,n,h=>by obtain⟨a,xs,rfl,h1,h3,h2⟩:=h.lst_inv;have n:=n.resolve_left nofun;exact RV.fT (n a _ h1 h3).1 (n a _ h1 h3).2<|aq.gen t (.inr n) h2
 |x,.ir ns,n,h=>by
  have n:=n.resolve_left nofun;obtain⟨a,rfl,⟨h1,h3⟩|h1⟩:=h.ix
  ·rcases h1 with h1|⟨o,h1⟩
   ·exact#[a,rfl,.inl #[.inl (n a _ h1 h3).1,(n a _ h1 h3).2]]
   ·exact#[a,rfl,.inl #[.inr #[o,(n a _ h1 h3).1],(n a _ h1 h3).2]]
  ·exact#[a,rfl,.inr h1]
 |x,.c8 ..,_,h=>h.pZ.elim
 |x,.obj ks vs,n,h=>by obtain⟨a,a9,rfl,h1,h3,h4,h2⟩:=h.ib;have n:=n.resolve_left nofun;exact RV.Cg (n a _ h1 h3).1 (n a _ h1 h3).2 h4<|aq.gen t (.inr n) h2
 |x,.exc ..,_,h=>h.p8.elim
theorem aq.gen(t:∀b xs,H b=B' (.tup xs)->H' b=B' (.tup xs)):∀{xs ds},(kU ds=J'\/∀b o,H b=B' o->¬A b->H' b=B' o/\¬B b)->aq K A H xs ds->aq K B H' xs ds
 |[],[],_,_=>aq.nil
 |[],_::_,_,h=>by unfold aq at h;exact h.elim
 |_::_,[],_,h=>by unfold aq at h;exact h.elim
 |_::xs,_::ds,n,h=>by unfold aq at h;simp only[kU,W5]at n;exact aq.cons (RV.gen t (n.imp_left (·.1)) h.1) (aq.gen t (n.imp_left (·.2)) h.2)
end
theorem RV.mono(e:aZ X H H')(r:∀b,X b->A b)(g:∀b,B b->A b){x d}(h:RV K A H x d):RV K B H' x d:=h.gen e.tp<|.inr λb o q n=>#[e.kp b o q λz=>n<|r b z,λz=>n<|g b z]
theorem aq.mono(e:aZ X H H')(r:∀b,X b->A b)(g:∀b,B b->A b){x d}(h:aq K A H x d):aq K B H' x d:=h.gen e.tp<|.inr λb o q n=>#[e.kp b o q λz=>n<|r b z,λz=>n<|g b z]
theorem RV.same{x d}(h:RV K A H x d)(s:bJ H H'):RV K A H' x d:=h.mono (X:=λ_=>False) (aZ.of_same s) (λ_ z=>z.elim) λ_ z=>z
theorem aq.same{x d}(h:aq K A H x d)(s:bJ H H'):aq K A H' x d:=h.mono (X:=λ_=>False) (aZ.of_same s) (λ_ z=>z.elim) λ_ z=>z
theorem RV.weak{x d}(h:RV K A H x d)(g:∀b,B b->A b):RV K B H x d:=h.mono (X:=λ_=>False) aZ.refl (λ_ z=>z.elim) g
theorem aq.weak{x d}(h:aq K A H x d)(g:∀b,B b->A b):aq K B H x d:=h.mono (X:=λ_=>False) aZ.refl (λ_ z=>z.elim) g
theorem RV.bF(J:∀b,B b->A b\/H b=G'){x d}(h:RV K A H x d):RV K B H x d:=h.gen (λ_ _ e=>e)<|.inr λb o q n=>#[q,λz=>(J b z).elim n λe=>by rw[e]at q;cases q]
theorem aq.bF(J:∀b,B b->A b\/H b=G'){x d}(h:aq K A H x d):aq K B H x d:=h.gen (λ_ _ e=>e)<|.inr λb o q n=>#[q,λz=>(J b z).elim n λe=>by rw[e]at q;cases q]
theorem aq.avoid(J:H p=G'){x d}(h:aq K A H x d):aq K (λb=>A b\/b=p) H x d:=h.bF λb z=>z.imp_right λe=>by rw[e];exact J
theorem RV.lx{x d}(h:RV K A H x d)(n:Rx.lx d=J'):RV K B H x d:=h.gen (λ_ _ e=>e)<|.inl n
theorem aq.kU{x d}(h:aq K A H x d)(n:Rx.kU d=J'):aq K B H x d:=h.gen (λ_ _ e=>e)<|.inl n
end
mutual
noncomputable def toD:Dt->Option Mx.D
 |.int i=>B'<|.int i
 |.str x=>B'<|.str x
 |.tup ds=>(dP ds).map Mx.D.tup
 |_=>G'
noncomputable def dP:List Dt->Option (List Mx.D)
 |[]=>B' []
 |d::ds=>(toD d).bind λm=>(dP ds).map (m:: ·)
end
mutual
noncomputable def ofD:Mx.D->Dt
 |.int i=>.int i
 |.str x=>.str x
 |.tup ds=>.tup<|aa ds
noncomputable def aa:List Mx.D->List Dt
 |[]=>[]
 |d::ds=>ofD d::aa ds
end
theorem aQ:∀ds:List Mx.D,aa ds=ds.map ofD
 |[]=>by simp[aa]
 |d::ds=>by simp[aa,aQ ds]
mutual
theorem v9:∀m:Mx.D,toD (ofD m)=B' m
 |.int i=>by simp[ofD,toD]
 |.str x=>by simp[ofD,toD]
 |.tup ds=>by simp[ofD,toD,aW ds]
theorem aW:∀ms:List Mx.D,dP (aa ms)=B' ms
 |[]=>by simp[aa,dP]
 |m::ms=>by simp[aa,dP,v9 m,aW ms]
end
mutual
theorem vC:∀{d:Dt}{m:Mx.D},toD d=B' m->d=ofD m
 |.int i,m,h=>by simp[toD]at h;subst h;simp[ofD]
 |.str i,m,h=>by simp[toD]at h;subst h;simp[ofD]
 |.tup ds,m,h=>by simp only[toD,Xl]at h;obtain⟨ms,h1,rfl⟩:=h;rw[fU h1];simp[ofD]
 |.bX,m,h=>by simp[toD]at h
 |.bl _,m,h=>by simp[toD]at h
 |.lst _,m,h=>by simp[toD]at h
 |.ir _,m,h=>by simp[toD]at h
 |.c8 _ _,m,h=>by simp[toD]at h
 |.obj _ _,m,h=>by simp[toD]at h
 |.exc _,m,h=>by simp[toD]at h
theorem fU:∀{ds:List Dt}{ms:List Mx.D},dP ds=B' ms->ds=aa ms
 |[],ms,h=>by simp[dP]at h;subst h;simp[aa]
 |d::ds,ms,h=>by simp only[dP,W2,Xl]at h;obtain⟨m,h1,r,h2,rfl⟩:=h;rw[vC h1,fU h2];simp[aa]
end
mutual
theorem RV.dv{K:Frag}{A:Addr->Prop}{H:Hp}:∀{x}{m:Mx.D},RV K A H x (ofD m)->Mx.DV H x m
 |x,.int i,h=>by simp only[ofD]at h;rw[h.int_inv];exact Mx.DV.int
 |x,.str i,h=>by simp only[ofD]at h;rw[h.str_inv];exact Mx.DV.str
 |x,.tup ms,h=>by simp only[ofD]at h;obtain⟨a,xs,rfl,h1,h2⟩:=h.ao;exact Mx.DV.tup h1<|aq.u7 h2
theorem aq.u7{K:Frag}{A:Addr->Prop}{H:Hp}:∀{xs}{ms:List Mx.D},aq K A H xs (aa ms)->Mx.bj H xs ms
 |[],[],_=>Mx.bj.nil
 |[],_::_,h=>by simp only[aa]at h;unfold aq at h;exact h.elim
 |_::_,[],h=>by simp only[aa]at h;unfold aq at h;exact h.elim
 |_::xs,_::ds,h=>by simp only[aa]at h;unfold aq at h;exact Mx.bj.cons (RV.dv h.1)<|aq.u7 h.2
end
mutual
theorem RV.N7{K:Frag}{A:Addr->Prop}{H:Hp}:∀{x}{m:Mx.D},Mx.DV H x m->RV K A H x (ofD m)
 |x,.int i,h=>by simp only[ofD];rw[h.int_inv];exact RV.fS
 |x,.str i,h=>by simp only[ofD];rw[h.str_inv];exact RV.qA
 |x,.tup ms,h=>by simp only[ofD];obtain⟨a,xs,rfl,h1,h2⟩:=h.ao;exact RV.iV h1<|aq.my h2
theorem aq.my{K:Frag}{A:Addr->Prop}{H:Hp}:∀{xs}{ms:List Mx.D},Mx.bj H xs ms->aq K A H xs (aa ms)
 |[],[],_=>by simp only[aa];exact aq.nil
 |[],_::_,h=>by unfold Mx.bj at h;exact h.elim
 |_::_,[],h=>by unfold Mx.bj at h;exact h.elim
 |_::xs,_::ds,h=>by simp only[aa];unfold Mx.bj at h;exact aq.cons (RV.N7 h.1)<|aq.my h.2
end
mutual
noncomputable def cU:Dt->Dt->Bool
 |.bX,.bX=>J'
 |.bl a,.bl b=>a==b
 |.int a,.int b=>a==b
 |.bl a,.int b=>(if a then(1:Int) else 0)==b
 |.int a,.bl b=>a==(if b then(1:Int) else 0)
 |.str a,.str b=>a==b
 |.tup a,.tup b=>cH a b
 |.lst a,.lst b=>cH a b
 |_,_=>K'
noncomputable def cH:List Dt->List Dt->Bool
 |[],[]=>J'
 |x::xs,y::ys=>cU x y&&cH xs ys
 |_,_=>K'
end
mutual
noncomputable def pl:Dt->Bool
 |.bX|.bl _|.int _|.str _=>J'
 |.tup ds=>qJ ds
 |.lst ds=>qJ ds
 |_=>K'
noncomputable def qJ:List Dt->Bool
 |[]=>J'
 |d::ds=>pl d&&qJ ds
end
mutual
noncomputable def dp:Dt->Nat
 |.tup ds=>u4 ds+1
 |.lst ds=>u4 ds+1
 |_=>0
noncomputable def u4:List Dt->Nat
 |[]=>0
 |d::ds=>max (dp d)<|u4 ds
end
mutual
theorem ka:∀d:Dt,pl d=J'->cU d d=J'
 |.bX,_=>by simp[cU]
 |.bl b,_=>by simp[cU]
 |.int b,_=>by simp[cU]
 |.str b,_=>by simp[cU]
 |.tup ds,h=>by simp only[cU];exact iX ds (by simpa [pl]using h)
 |.lst ds,h=>by simp only[cU];exact iX ds (by simpa [pl]using h)
 |.ir _,h=>by simp[pl]at h
 |.c8 _ _,h=>by simp[pl]at h
 |.obj _ _,h=>by simp[pl]at h
 |.exc _,h=>by simp[pl]at h
theorem iX:∀ds:List Dt,qJ ds=J'->cH ds ds=J'
 |[],_=>by simp[cH]
 |d::ds,h=>by simp only[qJ,W5]at h;simp only[cH,W5];exact#[ka d h.1,iX ds h.2]
end
def Wt:Dt->Nat
 |.bX=>0|.bl _=>1|.int _=>2|.str _=>3|.tup _=>4|.lst _=>5|_=>6
def SY(H:Hp):V->Nat
 |.bX=>0|.bl _=>1|.int _=>2|.str _=>3
 |.ref a=>(match H a with|some (.tup _)=>4|some (.lst _)=>5|_=>6)
 |_=>6
theorem RV.tg{K:Frag}(h:RV K A H x d)(n:pl d=J'):SY H x=Wt d:=by
 cases d with
 |bX=>rw[h.dY];rfl
 |bl=>rw[h.bY];rfl
 |int=>rw[h.int_inv];rfl
 |str=>rw[h.str_inv];rfl
 |tup=>obtain⟨a,xs,rfl,Z,_⟩:=h.ao;unfold SY;dsimp only;rw[Z];rfl
 |lst=>obtain⟨a,xs,rfl,Z,_⟩:=h.lst_inv;unfold SY;dsimp only;rw[Z];rfl
 |_=>simp[pl]at n
mutual
theorem RV.inj{K:Frag}{A B:Addr->Prop}{H:Hp}:∀{x d e},RV K A H x d->RV K B H x e->pl d=J'->pl e=J'->d=e
 |x,.bX,e,h,g,m,n=>by have t:=(h.tg m).symm.trans<|g.tg n;cases e<;>first|rfl|exact absurd t<|Zr rfl
 |x,.bl b,e,h,g,m,n=>by have t:=(h.tg m).symm.trans<|g.tg n;cases e<;>first|exact absurd t (Zr rfl)|(cases h.bY.symm.trans g.bY;rfl)
 |x,.int b,e,h,g,m,n=>by have t:=(h.tg m).symm.trans<|g.tg n;cases e<;>first|exact absurd t (Zr rfl)|(cases h.int_inv.symm.trans g.int_inv;rfl)
 |x,.str b,e,h,g,m,n=>by have t:=(h.tg m).symm.trans<|g.tg n;cases e<;>first|exact absurd t (Zr rfl)|(cases h.str_inv.symm.trans g.str_inv;rfl)
 |x,.tup ds,e,h,g,m,n=>by
  have t:=(h.tg m).symm.trans<|g.tg n;cases e with
  |tup es=>obtain⟨a,xs,rfl,h1,h2⟩:=h.ao;obtain⟨b,ys,q,g1,g2⟩:=g.ao;cases q;rw[h1]at g1;cases g1;rw[aq.inj h2 g2 (by simpa [pl]using m) (by simpa [pl]using n)]
  |_=>exact absurd t<|Zr rfl
 |x,.lst ds,e,h,g,m,n=>by
  have t:=(h.tg m).symm.trans<|g.tg n;cases e with
  |lst es=>obtain⟨a,xs,rfl,h1,_,h2⟩:=h.lst_inv;obtain⟨b,ys,q,g1,_,g2⟩:=g.lst_inv;cases q;rw[h1]at g1;cases g1;rw[aq.inj h2 g2 (by simpa [pl]using m) (by simpa [pl]using n)]
  |_=>exact absurd t<|Zr rfl
 |x,.ir ds,_,_,_,n,_=>by simp[pl]at n
 |x,.c8 ..,_,_,_,n,_=>by simp[pl]at n
 |x,.obj ..,_,_,_,n,_=>by simp[pl]at n
 |x,.exc ..,_,_,_,n,_=>by simp[pl]at n
theorem aq.inj{K:Frag}{A B:Addr->Prop}{H:Hp}:∀{xs ds es},aq K A H xs ds->aq K B H xs es->qJ ds=J'->qJ es=J'->ds=es
 |xs,[],es,h,g,_,_=>by
  cases xs with
  |nil=>rw[g.et]
  |cons=>unfold aq at h;exact h.elim
 |xs,d::ds,es,h,g,m,n=>by
  cases xs with
  |nil=>unfold aq at h;exact h.elim
  |cons x xs=>unfold aq at h;obtain⟨e,t,rfl,g1,g2⟩:=g.oC;have m':=Bool.and_eq_true_iff.mp m;have n':=Bool.and_eq_true_iff.mp n;rw[RV.inj h.1 g1 m'.1 n'.1,aq.inj h.2 g2 m'.2 n'.2]
end
def Ol(ds es:List Dt)(j:Nat):Bool:=match ds[j]?,es[j]? with
 |some d,B' e=>cU d e
 |_,_=>J'
theorem dm:∀ds es:List Dt,((List.range<|min ds.length es.length).all (Ol ds es)&&ds.length==es.length)=cH ds es
 |[],[]=>by simp[cH]
 |[],_::_=>by simp[cH]
 |_::_,[]=>by simp[cH]
 |d::ds,e::es=>by
  have ih:=dm ds es;have A:min (d::ds).length (e::es).length=min ds.length es.length+1:=by simp only[Xo];lia
  have B:((d::ds).length==(e::es).length)=(ds.length==es.length):=by rw[X0];simp
  rw[A,List.range_succ_eq_map,Yk,List.all_map,B,cH,<-ih,Bool.and_assoc];rfl
theorem Bf:∀{ds:List Dt}{j:Nat},ds[j]?=B' d->dp d<=u4 ds
 |[],_,h=>by simp at h
 |d'::ds,0,h=>by simp at h;subst h;unfold u4;lia
 |d'::ds,j+1,h=>by have:=Bf (by simpa using h);unfold u4;lia
theorem vJ:∀{ds:List Dt}{j:Nat},qJ ds=J'->ds[j]?=B' d->pl d=J'
 |[],_,_,h=>by simp at h
 |d'::ds,0,n,h=>by simp at h;subst h;simp only[qJ,W5]at n;exact n.1
 |d'::ds,j+1,n,h=>by simp only[qJ,W5]at n;exact vJ n.2 (by simpa using h)
section
variable{P:Program}{w:World}{K:Frag}{A B:Addr->Prop}{H:Hp}{s:Shared}
theorem ff(hok:dZ P w H s.heap)(h:H a=B' (.lst xs)):∃J:List Value,au xs J/\s.heap.IsList a J.toArray:=by obtain⟨_,J,n,r,t⟩:=hok a _ h;exact#[J,r,#[_,t,rfl,_,rfl]]
inductive Kd(K:Frag)(A:Addr->Prop)(H:Hp)(s:Shared):Value->Dt->Prop
 |n:Kd K A H s .none .bX
 |b (b:Bool):Kd K A H s (.bool b) (.bl b)
 |i (i:Int) (t:Tok):Kd K A H s (.int i t) (.int i)
 |s (z:Str) (t:Tok):Kd K A H s (.str z t) (.str z)
 |t {a:Addr} {ak:List Value} {ds:List Dt} (z:ak.toArray.size=ds.length) (h:s.heap.IsTuple a ak.toArray) (g:∃xs,aq K A H xs ds/\au xs ak):Kd K A H s (.ref a) (.tup ds)
 |l {a:Addr} {ak:List Value} {ds:List Dt} (z:ak.toArray.size=ds.length) (h:s.heap.IsList a ak.toArray) (g:∃xs,aq K A H xs ds/\au xs ak):Kd K A H s (.ref a) (.lst ds)
theorem kd(hok:dZ P w H s.heap)(J:pl d=J')(L:RV K A H x d)(M:RelV x u):Kd K A H s u d:=by
 cases d with
 |bX=>have:=L.dY;subst this;cases M;exact .n
 |bl b=>have:=L.bY;subst this;cases M;exact .b b
 |int b=>have:=L.int_inv;subst this;obtain⟨t,rfl⟩:=M;exact .i b t
 |str b=>have:=L.str_inv;subst this;obtain⟨t,rfl⟩:=M;exact .s b t
 |tup ds=>obtain⟨a,xs,q,f,g⟩:=L.ao;subst q;cases M;obtain⟨ak,r,O⟩:=Mx.aV hok f;exact .t (by rw[W6,<-r.length,g.length]) O #[_,g,r]
 |lst ds=>obtain⟨a,xs,q,f,_,g⟩:=L.lst_inv;subst q;cases M;obtain⟨ak,r,O⟩:=ff hok f;exact .l (by rw[W6,<-r.length,g.length]) O #[_,g,r]
 |_=>simp[pl]at J
theorem Bk(ih:∀(d e:Dt)(x y:V)(u v:Value)(R:Around),dp d<=n->pl d=J'->pl e=J'->R.units+n<cLine->RV K A H x d->RV K B H y e->RelV x u->RelV y v->EqAt R s u v (cU d e)){R:Around}(I:aq K A H wy i1)(r:aq K B H wz i2)(F:au wy j5)(b:au wz bV)(Q:j5.toArray.size=i1.length)(S:bV.toArray.size=i2.length)
  (J:qJ i1=J') (P:qJ i2=J') (hd:u4 i1<=n) (X:R.in1.units+n<cLine) (j) (Z:j<j5.toArray.size) (Y:j<bV.toArray.size):EqAt R.in1 s j5.toArray[j] bV.toArray[j] (Ol i1 i2 j):=by
 have iI:j<wy.length:=by rw[I.length,<-Q];exact Z
 have k:j<wz.length:=by rw[r.length,<-S];exact Y
 obtain⟨d,c1,c2⟩:=I.get (i:=j) (x:=wy[j]) (by simp[iI]);obtain⟨e,k1,k2⟩:=r.get (i:=j) (x:=wz[j]) (by simp[k]);obtain⟨u,g,m⟩:=F.get (i:=j) (x:=wy[j]) (by simp[iI]);obtain⟨v,a,rv⟩:=b.get (i:=j) (x:=wz[j]) (by simp[k]);have h:j5.toArray[j]=u:=by simp only[Yt];exact(W8.mp g).2
 have ev:bV.toArray[j]=v:=by simp only[Yt];exact(W8.mp a).2
 rw[h,ev,show Ol i1 i2 j=cU d e by unfold Ol;rw[c1,k1]];exact ih d e wy[j] wz[j] u v R.in1 (Xh (Bf c1) hd) (vJ J c1) (vJ P k1) X c2 k2 m rv
theorem MJ(hok:dZ P w H s.heap):∀(n:Nat)(d e:Dt)(x y:V)(u v:Value)(R:Around),dp d<=n->pl d=J'->pl e=J'->R.units+n<cLine->RV K A H x d->RV K B H y e->RelV x u->RelV y v->EqAt R s u v (cU d e):=by
 intro n
 induction n with
 |zero=>
  intro d e x y u v R hd z J X L m rx c;have k2:=kd hok J m c;cases kd hok z L rx with
  |n=>cases k2 with
   |n=>exact EqAt.same _
   |b k=>exact EqAt.none_bool k
   |i p t2=>exact EqAt.none_int p t2
   |s j t2=>exact EqAt.none_str j t2
   |t _ h=>exact EqAt.none_tuple h ⋯
   |l _ h=>exact EqAt.none_list h ⋯
  |b o=>cases k2 with
   |n=>exact EqAt.bool_none o
   |b k=>exact EqAt.bool_bool o k
   |i p t2=>exact EqAt.bool_int o p t2
   |s j t2=>exact EqAt.bool_str o j t2
   |t _ h=>exact EqAt.bool_tuple o h ⋯
   |l _ h=>exact EqAt.bool_list o h ⋯
  |i g t1=>cases k2 with
   |n=>exact EqAt.int_none g t1
   |b k=>exact EqAt.int_bool g t1 k
   |i p t2=>exact EqAt.int_int g t1 p t2
   |s j t2=>exact EqAt.int_str g t1 j t2
   |t _ h=>exact EqAt.int_tuple g t1 h ⋯
   |l _ h=>exact EqAt.int_list g t1 h ⋯
  |s O t1=>cases k2 with
   |n=>exact EqAt.str_none O t1
   |b k=>exact EqAt.str_bool O t1 k
   |i p t2=>exact EqAt.str_int O t1 p t2
   |s j t2=>exact EqAt.str_str O t1 j t2
   |t _ h=>exact EqAt.str_tuple O t1 h ⋯
   |l _ h=>exact EqAt.str_list O t1 h ⋯
  |_=>unfold dp at hd;lia
 |succ n ih=>
  intro d e x y u v R hd z J X L m rx c;have k2:=kd hok J m c;cases kd hok z L rx with
  |t Q a Z=>
   rename_i E _ g;obtain⟨wy,I,F⟩:=Z;cases k2 with
   |n=>exact EqAt.tuple_none a ⋯
   |b k=>exact EqAt.tuple_bool k a ⋯
   |i p t2=>exact EqAt.tuple_int p t2 a ⋯
   |s j t2=>exact EqAt.tuple_str j t2 a ⋯
   |l _ h=>exact EqAt.tuple_list a h ⋯
   |t S rD Y=>
    rename_i a2 _ p;obtain⟨wz,r,r2⟩:=Y;by_cases fP:E=a2
    ·subst fP;obtain⟨_,_,rfl,_⟩:=L.ao;obtain⟨_,_,rfl,_⟩:=m.ao;cases rx;cases c;have:=RV.inj L m z J;cases this;rw[ka _ z];exact EqAt.same _
    refine EqAt.of_refs fP ?_;have q:=dm g p;have key:=RcAt.tuples (A:=R) a rD ⋯ (Bk ih I r F r2 Q S (by simpa [pl]using z) (by simpa [pl]using J) (by unfold dp at hd;lia)<|by show R.units+1+n<cLine;lia);rw[<-Q,<-S]at q;rw[q]at key;exact key
  |l Q a Z=>
   rename_i E _ g;obtain⟨wy,I,F⟩:=Z;cases k2 with
   |n=>exact EqAt.list_none a ⋯
   |b k=>exact EqAt.list_bool k a ⋯
   |i p t2=>exact EqAt.list_int p t2 a ⋯
   |s j t2=>exact EqAt.list_str j t2 a ⋯
   |t _ h=>exact EqAt.list_tuple a h ⋯
   |l S rD Y=>
    rename_i a2 _ p;obtain⟨wz,r,r2⟩:=Y;by_cases fP:E=a2
    ·subst fP;obtain⟨_,_,rfl,_⟩:=L.lst_inv;obtain⟨_,_,rfl,_⟩:=m.lst_inv;cases rx;cases c;have:=RV.inj L m z J;cases this;rw[ka _ z];exact EqAt.same _
    refine EqAt.of_refs fP ?_;have q:=dm g p;by_cases W:g.length=p.length
    ·have key:=RcAt.lists (A:=R) a rD ⋯ ⋯ (Bk ih I r F r2 Q S (by simpa [pl]using z) (by simpa [pl]using J) (by unfold dp at hd;lia)<|by show R.units+1+n<cLine;lia);rw[W,Nat.min_self,Zh,XZ]at q;rw[Q,W,q]at key;exact key
    ·have key:=RcAt.lists_lengths (A:=R) a rD (by rw[Q,S];simpa using W) ⋯;have M:(g.length==p.length)=K':=by simpa using W
     rw[M,XY]at q;show RcAt R s _ _ (cH g p);rw[<-q];exact key
  |_=>exact ih _ e x y _ v R (by unfold dp;lia) z J ⋯ L m rx c
end
end Rx
end
section
namespace Mx
open PySem PySem.Spec PySem.W PyProof.Rows L2 PySem.SeqAt
section
variable{X:Cx}{tg:Expr}
end
end Mx
end
section
namespace Rx
open PySem PySem.W PySem.Spec PyProof.Rows L2 PySem.SeqAt
set_option genInjectivity true in
inductive R(α:Type)where
 |ok (a:α)|ex (c:Nat)|bad
def R.bind:R α->(α->R β)->R β
 |.ok a,f=>f a
 |.ex c,_=>.ex c
 |.bad,_=>.bad
@[simp] theorem R.ah{α β:Type}(a:α)(f:α->R β):(R.ok a).bind f=f a:=rfl
abbrev lim:Nat:=1000000
abbrev aj:=List (Option Dt)
abbrev Sx:=Option (List Int)
def af(b:Bool){α:Type}(r:R α):R α:=if b then r else .bad
@[simp] theorem guard_true{α:Type}(r:R α):af J' r=r:=rfl
def qE(o:Operator)(a b:Dt):R Dt:=match o with
 |.Add=>match a,b with
  |.int i,.int j=>.ok<|.int<|i+j
  |.str x,.str y=>af (decide (x.length+y.length<=lim))<|.ok<|.str<|x++y
  |.lst x,.lst y=>af (decide (x.length+y.length<=lim))<|.ok<|.lst<|x++y
  |.tup x,.tup y=>af (decide (x.length+y.length<=lim))<|.ok<|.tup<|x++y
  |_,_=>.bad
 |.Sub=>match a,b with
  |.int i,.int j=>.ok<|.int<|i-j
  |_,_=>.bad
 |.Mult=>match a,b with
  |.int i,.int j=>af (decide (i.natAbs<2^64)||decide (j.natAbs<2^64))<|.ok<|.int<|i*j
  |_,_=>.bad
 |.FloorDiv=>match a,b with
  |.int i,.int j=>af (decide (j≠0)&&decide (j.natAbs.log2<9000))<|.ok<|.int<|i.fdiv j
  |_,_=>.bad
 |.Mod=>match a,b with
  |.int i,.int j=>af (decide (j≠0))<|.ok<|.int<|i.fmod j
  |_,_=>.bad
 |.Pow=>match a,b with
  |.int i,.int j=>af (decide (0<=j)&&decide (j<=1000)&&decide (i.natAbs<2^64))<|.ok<|.int<|i^j.toNat
  |_,_=>.bad
 |_=>.bad
def nM(d e:Dt):Bool:=pl d&&pl e&&decide (dp d<=100)
def itemsOf:Dt->Option (List Dt)
 |.lst ds=>B' ds
 |.tup ds=>B' ds
 |.ir ns=>B'<|ns.map Dt.int
 |_=>G'
def gU:Dt->Option (List Dt)
 |.str x=>B'<|x.cps.toList.map λc=>.str ⟨#[c]⟩
 |d=>itemsOf d
def cg:Dt->Option (List Dt)
 |.lst ds=>B' ds
 |.tup ds=>B' ds
 |_=>G'
mutual
noncomputable def lp:Mx.D->Mx.D->Bool
 |.int _,.int _=>J'
 |.str _,.str _=>J'
 |.tup a,.tup b=>iU a b
 |_,_=>K'
noncomputable def iU:List Mx.D->List Mx.D->Bool
 |x::xs,y::ys=>lp x y&&iU xs ys
 |_,_=>J'
end
def cZ:CmpOp->Dt->Dt->R Bool
 |.Eq,a,b=>af (nM a b)<|.ok<|cU a b
 |.NotEq,a,b=>af (nM a b)<|.ok<|!cU a b
 |.Lt,.int i,.int j=>.ok<|decide (i<j)
 |.LtE,.int i,.int j=>.ok<|decide (i<=j)
 |.Gt,.int i,.int j=>.ok<|decide (j<i)
 |.GtE,.int i,.int j=>.ok<|decide (j<=i)
 |.Is,a,.bX=>.ok (match a with|.bX=>J'|_=>K')
 |.IsNot,a,.bX=>.ok (match a with|.bX=>K'|_=>J')
 |_,_,_=>.bad
def cK:Dt->R Bool
 |.bX=>.ok K'
 |.bl b=>.ok b
 |.int i=>.ok<|i != 0
 |.str y=>af (decide (y.length<=lim))<|.ok<|(y.length:Int) != 0
 |.lst ds=>.ok !ds.isEmpty
 |.tup ds=>.ok !ds.isEmpty
 |.ir ds=>.ok !ds.isEmpty
 |_=>.bad
def AB(ds:List Dt)(i:Int):R Dt:=match pI ds i with
 |some d=>.ok d
 |none=>.bad
def cD:Dt->Dt->R Dt
 |.lst ds,.int i=>AB ds i
 |.tup ds,.int i=>AB ds i
 |.ir ns,.int i=>AB (ns.map Dt.int) i
 |.str z,.int i=>af (decide (z.length<=lim)) (match pI z.cps.toList i with|some c=>.ok (.str ⟨#[c]⟩)|none=>.bad)
 |_,_=>.bad
def cutD{α:Type}(xs:List α)(lo hi:Option Int):List α:=(xs.drop<|HT.cF xs.length 0 lo).take<|HT.cF xs.length xs.length hi-HT.cF xs.length 0 lo
def iE:Dt->Option Int->Option Int->R Dt
 |.lst ds,lo,hi=>.ok<|.lst<|cutD ds lo hi
 |.ir ds,lo,hi=>.ok<|.lst<|cutD (ds.map Dt.int) lo hi
 |.tup ds,lo,hi=>.ok<|.tup<|cutD ds lo hi
 |.str z,lo,hi=>af (decide (z.length<=lim))<|.ok<|.str<|PySem.Txt.slice z lo hi
 |_,_,_=>.bad
inductive BI where
 |len|min2|max2|sum|sorted|tuple|list|isi (T:String)|sset|dict
 deriving DecidableEq
def intsOf:List Dt->Option (List Int)
 |[]=>B' []
 |.int i::r=>(intsOf r).map (i:: ·)
 |_=>G'
def ll(a b:Mx.D):Bool:= !Mx.D.lt b a
def aG(ds:List Mx.D):List Mx.D:=ds.mergeSort ll
def NQ(k:Mx.SK):Mx.D->Bool
 |.tup (.tup _::_)=>k== .tt
 |.tup (.str _::_)=>k== .ts
 |.tup (.int _::_)=>k== .ti
 |.str _=>k== .s
 |.int _=>k== .i
 |_=>K'
def je(ds:List Mx.D):Bool:=Mx.SL ds&&(decide (ds.length<2)||(decide (Mx.D.bq ds<=100)&&([Mx.SK.tt,.ts,.ti,.s,.i].any λk=>ds.all<|NQ k)&&ds.all λd=>ds.all λe=>lp d e))
def dd:List Str->List Str
 |[]=>[]
 |x::r=>if x∈dd r then dd r else x::dd r
def strsOf:List Dt->Option (List Str)
 |[]=>B' []
 |.str i::r=>(strsOf r).map (i:: ·)
 |_=>G'
def jU(xs ys:List Dt):List Dt:=List.zipWith (λx y=>Dt.tup [x,y]) xs ys
def wW:Nat->List Dt->List Dt
 |_,[]=>[]
 |i,x::xs=>Dt.tup [.int i,x]::wW (i+1) xs
def zt(T:String):Dt->R Bool
 |.str _=>.ok<|T=="str"
 |.int _=>.ok<|T=="int"
 |.bl _=>.ok<|T=="bool"||T=="int"
 |.lst _=>.ok<|T=="list"
 |.tup _=>.ok<|T=="tuple"
 |.bX=>.ok K'
 |.obj _ _=>.ok K'
 |_=>.bad
def Bg(d:Dt):Option (Str×Dt):=match d with
 |.tup ds=>match ds with
  |[a,v]=>match a with
   |.str k=>B' (k,v)
   |_=>G'
  |_=>G'
 |_=>G'
def zd:List Dt->Option (List<|Str×Dt)
 |[]=>B' []
 |d::r=>(Bg d).bind λp=>(zd r).map (p:: ·)
def dU(b:BI)(as:List Dt):R Dt:=match b with
 |.len=>match as with
  |[.str x]=>af (decide (x.length<=lim))<|.ok<|.int x.length
  |[.lst ds]=>.ok<|.int ds.length
  |[.tup ds]=>.ok<|.int ds.length
  |[.ir ds]=>.ok<|.int ds.length
  |_=>.bad
 |.min2=>match as with
  |[.int i,.int j]=>.ok<|.int<|if j<i then j else i
  |_=>.bad
 |.max2=>match as with
  |[.int i,.int j]=>.ok<|.int<|if j>i then j else i
  |_=>.bad
 |.sum=>match as with
  |[.lst ds]=>match intsOf ds with|some ns=>.ok (.int ns.sum)|none=>.bad
  |[.tup ds]=>match intsOf ds with|some ns=>.ok (.int ns.sum)|none=>.bad
  |_=>.bad
 |.sorted=>match as with
  |[d]=>match itemsOf d with
   |some ds=>match dP ds with
    |some ms=>af (je ms)<|.ok<|.lst<|aa<|aG ms
    |none=>.bad
   |none=>.bad
  |_=>.bad
 |.tuple=>match as with
  |[.lst ds]=>.ok<|.tup ds
  |[.tup ds]=>.ok<|.tup ds
  |_=>.bad
 |.list=>match as with
  |[.lst ds]=>.ok<|.lst ds
  |[.tup ds]=>.ok<|.lst ds
  |[.ir ns]=>.ok<|.lst<|ns.map Dt.int
  |_=>.bad
 |.isi T=>match as with
  |[d]=>(zt T d).bind λb=>.ok<|.bl b
  |_=>.bad
 |.sset=>match as with
  |[d]=>match cg d with
   |some ds=>match strsOf ds with
    |some ys=>af (decide (ys.length<64))<|.ok<|.lst<|aa<|aG<|(dd ys).map Mx.D.str
    |none=>.bad
   |none=>.bad
  |_=>.bad
 |.dict=>match as with
  |[.tup ds]=>match zd ds with|some ps=>af (decide (ps.map (·.1)).Nodup) (.ok (.obj (ps.map (·.1)) (ps.map (·.2))))|none=>.bad
  |_=>.bad
def isStr:Dt->Bool
 |.str _=>J'
 |_=>K'
inductive MT where
 |join
 deriving DecidableEq
def Wf:MT->Dt->List Dt->R Dt
 |.join,.str z,[.lst ds]=>match strsOf ds with
  |some ys=>af (decide ((ys.map (·.length)).sum+ys.length*z.length<=lim))<|.ok<|.str<|PySem.Txt.join z ys
  |none=>.bad
 |_,_,_=>.bad
inductive Tg where
 |nm (i:Nat)|tp (is:List Nat)
 deriving DecidableEq
mutual
inductive C where
 |con (d:Dt)|var (i:Nat)|mvr (i:Nat)
 |bin (o:Operator) (a b:C)|cmp (o:CmpOp) (a b:C)|ch (o p:CmpOp) (a b c:C)
 |neg (a:C)|nt (a:C)|and (a b:C)|or (a b:C)|ite (t a b:C)
 |idx (a b:C)|sliL (a lo:C)|sliH (a hi:C)|sliB (a lo hi:C)
 |tup (es:Cs)|lst (es:Cs)
 |call (f:Nat) (es:Cs) (ds:List Dt)|callD (f:Nat) (es:Cs)|popD|lenD
 |bi (b:BI) (es:Cs)|mt (m:MT) (o:C) (es:Cs)
 |BB (i:Nat) (k e:C)|ninK (i:Nat) (k:C)|srtI (i:Nat)|gtO (o k e:C)
 |comp (cap:List (Option Nat)) (it:nL) (tg:Tg) (ts:Cs) (e:C)
 |Hf (cap:List (Option Nat)) (it:nL) (tg:Tg) (ts:Cs) (L5:nL) (UD:Tg) (UE:Cs) (e:C)
inductive Cs where
 |nil|cons (c:C) (cs:Cs)
inductive nL where
 |seq (c:C)|rng1 (c:C)|zip (a b:C)|enum (c:C)|zipR (a c:C)
end
mutual
noncomputable def lk:C->Nat
 |.mvr _=>1
 |.and _ _=>0
 |.or _ _=>0
 |.ite _ a b=>max (lk a)<|lk b
 |.idx a _=>if lk a<=1 then 0 else 2
 |.sliL a _=>if lk a<=1 then 0 else 2
 |.sliH a _=>if lk a<=1 then 0 else 2
 |.sliB a _ _=>if lk a<=1 then 0 else 2
 |.bin _ a b=>if lk a<=1/\lk b<=1 then 0 else 2
 |.tup es=>if qv es=0 then 0 else 2
 |.lst es=>if qv es=0 then 0 else 2
 |.call _ es _=>if qv es=0 then 0 else 2
 |.callD _ es=>if qv es=0 then 0 else 2
 |.bi _ es=>if qv es<=1 then 0 else 2
 |.BB _ _ e=>lk e
 |.gtO o _ e=>if lk o=0 then lk e else 2
 |_=>0
noncomputable def qv:Cs->Nat
 |.nil=>0
 |.cons c cs=>max (lk c)<|qv cs
end
def uI:nL->Nat
 |.seq c=>lk c
 |.zip a b=>max (lk a)<|lk b
 |.enum c=>lk c
 |.zipR a _=>lk a
 |_=>0
def Dt.NK:Dt->Bool
 |.bX=>J'
 |_=>K'
def fresh(fr:Nat->Bool):C->Bool
 |.con d=>d.NK
 |.lst _=>J'
 |.comp ..=>J'
 |.Hf ..=>J'
 |.bi .sorted _=>J'
 |.bi .list _=>J'
 |.bi .sset _=>J'
 |.bin ..=>J'
 |.sliH ..=>J'
 |.call f _ _=>fr f
 |.callD f _=>fr f
 |_=>K'
def bP(c:C)(d:Dt):Bool:=decide (lk c=0)||lx d
def yC(c:C)(d:Dt):Bool:=decide (lk c=0)||match d with|.lst ds=>kU ds|d=>lx d
def bZ(ρ:aj)(i:Nat):R Dt:=match ρ[i]? with
 |some (B' d)=>.ok d
 |_=>.bad
def iM(cap:List (Option Nat))(ρ:aj):aj:=cap.map λo=>o.bind λi=>(ρ[i]?).join
def gj:List Nat->List Dt->aj->R aj
 |[],[],ρ=>.ok ρ
 |i::is,d::ds,ρ=>gj is ds<|ρ.set i<|B' d
 |_,_,_=>.bad
def dS:Tg->Dt->aj->R aj
 |.nm i,d,ρ=>.ok<|ρ.set i<|B' d
 |.tp is,.tup ds,ρ=>gj is ds ρ
 |.tp is,.lst ds,ρ=>gj is ds ρ
 |_,_,_=>.bad
def OO(is:List Nat)(d:Dt)(ρ:aj):R aj:=match d with
 |.tup ds=>gj is ds ρ
 |.lst ds=>gj is ds ρ
 |_=>.bad
def aP(f:Dt->Sx->R (List Dt×Sx)):List Dt->Sx->R (List Dt×Sx)
 |[],S=>.ok ([],S)
 |x::xs,S=>(f x S).bind λp=>(aP f xs p.2).bind λq=>.ok (p.1++q.1,q.2)
def aU(tg:Tg)(a:aj->Sx->R (Bool×Sx))(body:aj->Sx->R (List Dt×Sx))(ρ:aj)(d:Dt)(S:Sx):R (List Dt×Sx):=
 (dS tg d ρ).bind λρ1=>(a ρ1 S).bind λb=>if b.1 then body ρ1 b.2 else .ok ([],b.2)
def bD(lo:Int)(n:Nat):List Dt:=(List.range n).map λ(i:Nat)=>Dt.int<|lo+(i:Int)
def Bd(d:Mx.D):List Dt->List Dt->Option Dt
 |k::ks,v::vs=>if toD k=B' d then B' v else Bd d ks vs
 |_,_=>G'
def ze(d:Mx.D)(v:Dt):List Dt->List Dt->List Dt
 |k::ks,x::vs=>(if toD k=B' d then v else x)::ze d v ks vs
 |_,vs=>vs
def zy(k:Dt):Option Mx.D:=match toD k with
 |some (.tup ds)=>if Mx.D.dep (.tup ds)<=8 then B' (.tup ds) else G'
 |some (.str x)=>B'<|.str x
 |_=>G'
def isTup:Dt->Bool
 |.tup _=>J'
 |_=>K'
def HB(d:Mx.D)(ks:List Dt):Bool:=match d with
 |.tup _=>ks.all isTup
 |.str _=>ks.all isStr
 |_=>K'
def A6(z k e:Dt):R Dt:=match z with
 |.c8 ks vs=>match zy k with
  |some (.tup ds)=>af (ks.all isTup)<|.ok<|(Bd (.tup ds) ks vs).getD e
  |_=>.bad
 |_=>.bad
def wQ(z k v:Dt):R Dt:=match z with
 |.c8 ks vs=>match zy k with
  |some d=>af (HB d ks&&decide (ks.length<lim))<|.ok<|if (Bd d ks vs).isSome then .c8 ks (ze d v ks vs) else .c8 (ks++[k]) (vs++[v])
  |none=>.bad
 |_=>.bad
def kG(z k:Dt):R Bool:=match z,k with
 |.c8 ks vs,.str x=>af (ks.all isStr)<|.ok<|!(Bd (.str x) ks vs).isSome
 |_,_=>.bad
def gP(O c:List Mx.D):List Mx.D:=(O.zip c).map λz=>.tup [z.1,z.2]
def wR(z:Dt):R Dt:=match z with
 |.c8 ks vs=>match dP ks,dP vs with
  |some ms,B' ns=>af (je<|gP ms ns)<|.ok<|.lst<|aa<|aG<|gP ms ns
  |_,_=>.bad
 |_=>.bad
def NL:Dt->Bool
 |.obj _ _=>J'
 |_=>K'
def FM(y:Str):List Str->List Dt->Option Dt
 |k::ks,v::vs=>if k=y then B' v else FM y ks vs
 |_,_=>G'
def xR(z k e:Dt):R Dt:=match z with
 |.obj ks vs=>match k with
  |.str y=>.ok<|(FM y ks vs).getD e
  |_=>.bad
 |_=>.bad
def jx(ρ:aj)(i:Nat):Bool:=match ρ[i]? with|some (B'<|.c8 _ _)=>J'|_=>K'
abbrev FT:=Nat->List Dt->Sx->R (Dt×Sx)
mutual
noncomputable def ev(F:FT):C->aj->Sx->R (Dt×Sx)
 |.con d,_,S=>.ok (d,S)
 |.var i,ρ,S=>(bZ ρ i).bind λd=>.ok (d,S)
 |.mvr i,ρ,S=>(bZ ρ i).bind λd=>.ok (d,S)
 |.bin o a b,ρ,S=>(ev F a ρ S).bind λx=>(ev F b ρ x.2).bind λy=>(qE o x.1 y.1).bind λd=>.ok (d,y.2)
 |.cmp o a b,ρ,S=>(ev F a ρ S).bind λx=>(ev F b ρ x.2).bind λy=>(cZ o x.1 y.1).bind λd=>.ok (.bl d,y.2)
 |.ch o p a b c,ρ,S=>(ev F a ρ S).bind λx=>(ev F b ρ x.2).bind λy=>(cZ o x.1 y.1).bind λd=>
   if d then(ev F c ρ y.2).bind λz=>(cZ p y.1 z.1).bind λe=>.ok (.bl e,z.2) else .ok (.bl K',y.2)
 |.neg a,ρ,S=>(ev F a ρ S).bind λx=>match x.1 with|.int i=>.ok (.int<|-i,x.2)|_=>.bad
 |.nt a,ρ,S=>(ev F a ρ S).bind λx=>match x.1 with|.bl b=>.ok (.bl !b,x.2)|_=>.bad
 |.and a b,ρ,S=>(ev F a ρ S).bind λx=>match x.1 with|.bl J'=>(ev F b ρ x.2).bind λy=>(match y.1 with|.bl c=>.ok (.bl c,y.2)|_=>.bad)|.bl K'=>.ok (.bl K',x.2)|_=>.bad
 |.or a b,ρ,S=>(ev F a ρ S).bind λx=>match x.1 with|.bl K'=>(ev F b ρ x.2).bind λy=>(match y.1 with|.bl c=>.ok (.bl c,y.2)|_=>.bad)|.bl J'=>.ok (.bl J',x.2)|_=>.bad
 |.ite t a b,ρ,S=>(cz F t ρ S).bind λx=>if x.1 then ev F a ρ x.2 else ev F b ρ x.2
 |.idx a b,ρ,S=>(ev F a ρ S).bind λx=>(ev F b ρ x.2).bind λy=>(cD x.1 y.1).bind λd=>.ok (d,y.2)
 |.sliL a l,ρ,S=>(ev F a ρ S).bind λx=>(ev F l ρ x.2).bind λy=>match y.1 with|.int i=>(iE x.1 (B' i) G').bind λd=>.ok (d,y.2)|_=>.bad
 |.sliH a h,ρ,S=>(ev F a ρ S).bind λx=>(ev F h ρ x.2).bind λy=>match y.1 with|.int i=>(iE x.1 G'<|B' i).bind λd=>.ok (d,y.2)|_=>.bad
 |.sliB a l h,ρ,S=>(ev F a ρ S).bind λx=>(ev F l ρ x.2).bind λy=>match y.1 with|.int i=>(ev F h ρ y.2).bind λz=>(match z.1 with|.int j=>(iE x.1 (B' i)<|B' j).bind λd=>.ok (d,z.2)|_=>.bad)|_=>.bad
 |.tup es,ρ,S=>(gq F es ρ S).bind λx=>af (decide (x.1.length<=lim))<|.ok (.tup x.1,x.2)
 |.lst es,ρ,S=>(gq F es ρ S).bind λx=>af (decide (x.1.length<=lim))<|.ok (.lst x.1,x.2)
 |.call f es ds,ρ,S=>(gq F es ρ S).bind λx=>(F f (x.1++ds) G').bind λy=>.ok (y.1,x.2)
 |.callD f es,ρ,S=>af S.isSome ((gq F es ρ S).bind λx=>match x.2 with|some s=>F f x.1 (B' s)|none=>.bad)
 |.popD,_,S=>match S with|some ns=>af (!ns.isEmpty) (.ok (.int<|ns.getLastD 0,B' ns.dropLast))|none=>.bad
 |.lenD,_,S=>match S with|some ns=>.ok (.int ns.length,S)|none=>.bad
 |.BB i k e,ρ,S=>af (jx ρ i)<|(ev F k ρ S).bind λx=>(ev F e ρ x.2).bind λy=>(bZ ρ i).bind λz=>(A6 z x.1 y.1).bind λd=>.ok (d,y.2)
 |.ninK i k,ρ,S=>af (jx ρ i)<|(ev F k ρ S).bind λx=>(bZ ρ i).bind λz=>(kG z x.1).bind λb=>.ok (.bl b,x.2)
 |.srtI i,ρ,S=>(bZ ρ i).bind λz=>(wR z).bind λd=>.ok (d,S)
 |.gtO o k e,ρ,S=>(ev F o ρ S).bind λz=>af (NL z.1)<|(ev F k ρ z.2).bind λx=>(ev F e ρ x.2).bind λy=>(xR z.1 x.1 y.1).bind λd=>.ok (d,y.2)
 |.bi b es,ρ,S=>(gq F es ρ S).bind λx=>(dU b x.1).bind λd=>.ok (d,x.2)
 |.mt m o es,ρ,S=>(ev F o ρ S).bind λy=>af (isStr y.1)<|(gq F es ρ y.2).bind λx=>(Wf m y.1 x.1).bind λd=>.ok (d,x.2)
 |.comp cap it tg ts e,ρ,S=>(eO F it ρ S).bind λx=>af (decide (x.1.length<=lim)&&(decide (uI it<=1)||iA F it ρ S))
   ((aP (aU tg (bM F ts) (λρ1 S1=>(ev F e ρ1 S1).bind λy=>af (bP e y.1)<|.ok ([y.1],y.2))<|iM cap ρ) x.1 x.2).bind λq=>.ok (.lst q.1,q.2))
 |.Hf cap it tg ts L5 UD UE e,ρ,S=>(eO F it ρ S).bind λx=>af (decide (x.1.length<=lim)&&(decide (uI it<=1)||iA F it ρ S))
   ((aP (aU tg (bM F ts) (λρ1 S1=>(eO F L5 ρ1 S1).bind λx2=>af (decide (x.1.length*x2.1.length<=lim)&&decide (uI L5=0))
    (aP (aU UD (bM F UE) (λρ2 S2=>(ev F e ρ2 S2).bind λy=>af (bP e y.1)<|.ok ([y.1],y.2)) ρ1) x2.1 x2.2))<|iM cap ρ) x.1 x.2).bind λq=>.ok (.lst q.1,q.2))
noncomputable def cz(F:FT):C->aj->Sx->R (Bool×Sx)
 |.ninK i k,ρ,S=>af (jx ρ i)<|(ev F k ρ S).bind λx=>(bZ ρ i).bind λz=>(kG z x.1).bind λb=>.ok (b,x.2)
 |.nt a,ρ,S=>(cz F a ρ S).bind λx=>.ok (!x.1,x.2)
 |.and a b,ρ,S=>(cz F a ρ S).bind λx=>if x.1 then cz F b ρ x.2 else .ok (K',x.2)
 |.or a b,ρ,S=>(cz F a ρ S).bind λx=>if x.1 then .ok (J',x.2) else cz F b ρ x.2
 |.cmp o a b,ρ,S=>(ev F a ρ S).bind λx=>(ev F b ρ x.2).bind λy=>(cZ o x.1 y.1).bind λd=>.ok (d,y.2)
 |.ch o p a b c,ρ,S=>(ev F a ρ S).bind λx=>(ev F b ρ x.2).bind λy=>(cZ o x.1 y.1).bind λd=>
   if d then(ev F c ρ y.2).bind λz=>(cZ p y.1 z.1).bind λe=>.ok (e,z.2) else .ok (K',y.2)
 |.var i,ρ,S=>(bZ ρ i).bind λd=>(cK d).bind λb=>.ok (b,S)
 |.mvr i,ρ,S=>(bZ ρ i).bind λd=>(cK d).bind λb=>.ok (b,S)
 |.call f es ds,ρ,S=>(gq F es ρ S).bind λx=>(F f (x.1++ds) G').bind λy=>(cK y.1).bind λb=>.ok (b,x.2)
 |.callD f es,ρ,S=>af S.isSome ((gq F es ρ S).bind λx=>match x.2 with|some s=>(F f x.1<|B' s).bind λy=>(cK y.1).bind λb=>.ok (b,y.2)|none=>.bad)
 |.bi b es,ρ,S=>(gq F es ρ S).bind λx=>(dU b x.1).bind λd=>(cK d).bind λb=>.ok (b,x.2)
 |.idx a b,ρ,S=>(ev F a ρ S).bind λx=>(ev F b ρ x.2).bind λy=>(cD x.1 y.1).bind λd=>(cK d).bind λb=>.ok (b,y.2)
 |_,_,_=>.bad
noncomputable def gq(F:FT):Cs->aj->Sx->R (List Dt×Sx)
 |.nil,_,S=>.ok ([],S)
 |.cons c cs,ρ,S=>(ev F c ρ S).bind λx=>(gq F cs ρ x.2).bind λy=>.ok (x.1::y.1,y.2)
noncomputable def bM(F:FT):Cs->aj->Sx->R (Bool×Sx)
 |.nil,_,S=>.ok (J',S)
 |.cons c .nil,ρ,S=>cz F c ρ S
 |_,_,_=>.bad
noncomputable def eO(F:FT):nL->aj->Sx->R (List Dt×Sx)
 |.seq c,ρ,S=>(ev F c ρ S).bind λx=>match gU x.1 with|some ds=>.ok (ds,x.2)|none=>.bad
 |.rng1 c,ρ,S=>(ev F c ρ S).bind λx=>match x.1 with|.int j=>af (decide (j<=lim)&&decide (-lim<=j)) (.ok (bD 0 j.toNat,x.2))|_=>.bad
 |.zip a b,ρ,S=>(ev F a ρ S).bind λx=>(ev F b ρ x.2).bind λy=>match cg x.1,cg y.1 with
   |some xs,B' ys=>.ok (jU xs ys,y.2)|_,_=>.bad
 |.enum c,ρ,S=>(ev F c ρ S).bind λx=>match cg x.1 with|some ds=>.ok (wW 0 ds,x.2)|none=>.bad
 |.zipR a c,ρ,S=>(ev F a ρ S).bind λx=>(ev F c ρ x.2).bind λy=>match cg x.1,y.1 with
   |some xs,.int j=>af (decide (j<=lim)&&decide (-lim<=j)) (.ok (jU xs<|bD 0 j.toNat,y.2))|_,_=>.bad
noncomputable def iA(F:FT):nL->aj->Sx->Bool
 |.seq c,ρ,S=>match ev F c ρ S with|.ok x=>lx x.1|_=>K'
 |_,_,_=>K'
end
inductive Fl where
 |next|brk|cnt|ret (d:Dt)
mutual
inductive T where
 |asg (i:Nat) (c:C)|asgM (i:Nat) (c:C)|asgD (i:Nat) (c:C)|mov (i j:Nat)|asgT (is:List Nat) (c:C)
 |vW (i:Nat) (k v:C)|app (i:Nat) (c:C)|xtd (i:Nat) (c:C)|clr (i:Nat)|rvs (i:Nat)
 |LJ (c:C)|ret (c:C)|retN|ifs (t:C) (a b:Ts)|fr (tg:Tg) (it:nL) (b:Ts)|wh (t:C) (b:Ts)
 |zc (i:Nat)|dset (i:Nat) (k v:C)
 |rs (k:Nat) (vs:List Nat)|tr (b:Ts) (Aq:List (Option Bool))|brk|cnt|Kl
inductive Ts where
 |nil|cons (t:T) (ts:Ts)
end
abbrev RS:=R (Fl×aj×Sx)
def FB(ρ:aj)(i:Nat):Bool:=match ρ[i]? with
 |some (B'<|.int n)=>decide (0<=n)&&decide (n<10^19)
 |_=>K'
def forL(tg:Tg)(body:aj->Sx->RS):List Dt->aj->Sx->RS
 |[],ρ,S=>.ok (.next,ρ,S)
 |x::xs,ρ,S=>(dS tg x ρ).bind λρ1=>(body ρ1 S).bind λp=>match p.1 with
  |.next=>forL tg body xs p.2.1 p.2.2
  |.cnt=>forL tg body xs p.2.1 p.2.2
  |.brk=>.ok (.next,p.2)
  |.ret d=>.ok (.ret d,p.2)
def S9(test:aj->Sx->R (Bool×Sx))(body:aj->Sx->RS):Nat->aj->Sx->RS
 |0,_,_=>.bad
 |n+1,ρ,S=>(test ρ S).bind λb=>if b.1 then(body ρ b.2).bind λp=>match p.1 with
   |.next=>S9 test body n p.2.1 p.2.2
   |.cnt=>S9 test body n p.2.1 p.2.2
   |.brk=>.ok (.next,p.2)
   |.ret d=>.ok (.ret d,p.2)
  else .ok (.next,ρ,b.2)
def Pc:Nat:=100000
def isLE(ρ:aj)(i:Nat):Bool:=match ρ[i]? with
 |some (B'<|.lst _)=>J'
 |_=>K'
def jA(ρ:aj)(i:Nat):R (List Dt):=match ρ[i]? with
 |some (B'<|.lst ds)=>.ok ds
 |_=>.bad
mutual
noncomputable def ex(F:FT):T->aj->Sx->RS
 |.asg i c,ρ,S=>(ev F c ρ S).bind λx=>af (bP c x.1)<|.ok (.next,ρ.set i<|B' x.1,x.2)
 |.asgM i c,ρ,S=>(ev F c ρ S).bind λx=>af (yC c x.1)<|.ok (.next,ρ.set i<|B' x.1,x.2)
 |.asgD i c,ρ,S=>(ev F c ρ S).bind λx=>match x.1 with|.lst ds=>(match intsOf ds with|some ns=>af (decide (lk c=0)&&decide (i<ρ.length)) (.ok (.next,ρ.set i G',B' ns))|none=>.bad)|_=>.bad
 |.mov i j,ρ,S=>(bZ ρ j).bind λd=>.ok (.next,(ρ.set j G').set i<|B' d,S)
 |.asgT is c,ρ,S=>(ev F c ρ S).bind λx=>af (bP c x.1)<|(OO is x.1 ρ).bind λρ1=>.ok (.next,ρ1,x.2)
 |.vW i k v,ρ,S=>af (isLE ρ i)<|(ev F v ρ S).bind λx=>(ev F k ρ x.2).bind λy=>af (bP v x.1)<|(jA ρ i).bind λds=>match y.1 with
   |.int n=>(match qq ds.length n with|some j=>.ok (.next,ρ.set i<|B'<|.lst<|ds.set j x.1,y.2)|none=>.bad)|_=>.bad
 |.zc i,ρ,S=>.ok (.next,ρ.set i<|B'<|.c8 [] [],S)
 |.dset i k v,ρ,S=>af (jx ρ i)<|(ev F v ρ S).bind λx=>(ev F k ρ x.2).bind λy=>(bZ ρ i).bind λz=>af (decide (lk v=0))<|(wQ z y.1 x.1).bind λd=>.ok (.next,ρ.set i<|B' d,y.2)
 |.app i c,ρ,S=>af (isLE ρ i)<|(ev F c ρ S).bind λx=>af (bP c x.1)<|(jA ρ i).bind λds=>af (decide (ds.length<=lim))<|.ok (.next,ρ.set i<|B'<|.lst<|ds++[x.1],x.2)
 |.xtd i c,ρ,S=>af (isLE ρ i)<|(ev F c ρ S).bind λx=>af (decide (lk c<=1))<|(jA ρ i).bind λds=>match x.1 with
   |.lst es=>af (decide (ds.length+es.length<=lim)) (.ok (.next,ρ.set i<|B'<|.lst<|ds++es,x.2))|.tup es=>af (decide (ds.length+es.length<=lim)) (.ok (.next,ρ.set i<|B'<|.lst<|ds++es,x.2))|_=>.bad
 |.clr i,ρ,S=>(jA ρ i).bind λ_=>.ok (.next,ρ.set i<|B'<|.lst [],S)
 |.rvs i,ρ,S=>(jA ρ i).bind λds=>.ok (.next,ρ.set i<|B'<|.lst ds.reverse,S)
 |.LJ c,ρ,S=>(ev F c ρ S).bind λx=>.ok (.next,ρ,x.2)
 |.ret c,ρ,S=>(ev F c ρ S).bind λx=>.ok (.ret x.1,ρ,x.2)
 |.retN,ρ,S=>.ok (.ret .bX,ρ,S)
 |.ifs t a b,ρ,S=>(cz F t ρ S).bind λx=>if x.1 then aO F a ρ x.2 else aO F b ρ x.2
 |.fr tg it b,ρ,S=>(eO F it ρ S).bind λx=>af (decide (uI it=0)||iA F it ρ S)<|forL tg (aO F b) x.1 ρ x.2
 |.wh t b,ρ,S=>S9 (cz F t) (aO F b) Pc ρ S
 |.rs k vs,ρ,S=>af (vs.all<|FB ρ)<|.ex k
 |.tr b Aq,ρ,S=>af S.isNone (match aO F b ρ S with|.ex k=>(match Aq[k]? with|some (B' v)=>.ok (.ret<|.bl v,ρ,S)|_=>.bad)|r=>r)
 |.brk,ρ,S=>.ok (.brk,ρ,S)
 |.cnt,ρ,S=>.ok (.cnt,ρ,S)
 |.Kl,ρ,S=>.ok (.next,ρ,S)
noncomputable def aO(F:FT):Ts->aj->Sx->RS
 |.nil,ρ,S=>.ok (.next,ρ,S)
 |.cons t ts,ρ,S=>(ex F t ρ S).bind λp=>match p.1 with
  |.next=>aO F ts p.2.1 p.2.2
  |f=>.ok (f,p.2)
end
structure Fn where
 ps:Nat
 n:Nat
 bA:Bool
 body:Ts
def gR(F:FT)(f:Fn)(args:List Dt)(S:Sx):R (Dt×Sx):=
 if args.length+(if f.bA then 1 else 0)=f.ps then
  (aO F f.body ((if f.bA then[G'] else[])++args.map B'++List.replicate (f.n-f.ps) G') S).bind λp=>match p.1 with
   |.next=>.ok (.bX,p.2.2)
   |.ret d=>.ok (d,p.2.2)
   |_=>.bad
 else .bad
def az(fs:List Fn):Nat->FT
 |0,_,_,_=>.bad
 |n+1,f,args,S=>match fs[f]? with
  |some g=>gR (az fs n) g args S
  |none=>.bad
structure G where
 fns:List (Str×Nat×List Dt×Bool)
 cons:List (Str×Dt)
 bls:List Str
 fr:Nat->Bool
 xs:List (Str×List (Str×Bool))
structure Gm where
 names:List (Str×NameKind)
 N:List Str
 M:List Bool
 δ:Option Nat
 κ:Option Nat
def G5:Option NameKind->Bool
 |some .local=>J'
 |some .cell=>J'
 |some .free=>J'
 |_=>K'
def Fw:Option NameKind->Bool
 |some .local=>J'
 |some .cell=>J'
 |_=>K'
def xc:Option NameKind->Bool
 |some .globalImplicit=>J'
 |_=>K'
def B7(x:Str):List Str->Option Nat
 |[]=>G'
 |y::r=>if x==y then B' 0 else(B7 x r).map (· + 1)
theorem lh:∀{l:List Str}{i:Nat},B7 x l=B' i->l[i]?=B' x
 |[],i,h=>by simp[B7]at h
 |y::r,i,h=>by
  unfold B7 at h;by_cases e:(x==y)=J'
  ·rw[Zn e]at h;cases h;have:x=y:=by simpa using e
   simp[this]
  ·rw[Zm e]at h;obtain⟨j,Z,rfl⟩:=Xl.mp h;simp[lh Z]
def du(x:Str):Bool:= !(x==("__debug__":Str))&& !(x==("__classdict__":Str))&& !(x==("__name__":Str))
def slot(v:Gm)(x:Str):Option Nat:=if G5 (v.names.lookup x)&&du x then B7 x v.N else G'
def fD(v:Gm)(x:Str):Option Nat:=if Fw (v.names.lookup x)&&du x then B7 x v.N else G'
def cL(Γ:Gm)(i:Nat):Bool:=Γ.M[i]?==B' J'
def plainS(Γ:Gm)(i:Nat):Bool:= !cL Γ i&& !(Γ.δ==B' i)
def sr(x:Str):List (Str×Nat×List Dt×Bool)->Option (Nat×Nat×List Dt×Bool)
 |[]=>G'
 |y::r=>if x==y.1 then B' (0,y.2) else(sr x r).map λp=>(p.1+1,p.2)
def AJ:List (Str×Nat×BI):=[("len",1,.len),("min",2,.min2),("max",2,.max2),("sum",1,.sum),("sorted",1,.sorted),("tuple",1,.tuple),("list",1,.list),("dict",1,.dict)]
def Eg(x:Str)(n:Nat):Option BI:=(AJ.find? λt=>t.1==x&&t.2.1==n).map (·.2.2)
def wj(x:Str):Option String:=
 if x==("str":Str) then B' "str" else if x==("int":Str) then B' "int" else if x==("bool":Str) then B' "bool"
 else if x==("list":Str) then B' "list" else if x==("tuple":Str) then B' "tuple" else G'
def tf(Γ:Gm):Expr->Option Nat
 |.Name x _=>(fD Γ x).bind λi=>if plainS Γ i then B' i else G'
 |_=>G'
def qx(Γ:Gm):List Expr->Option (List Nat)
 |[]=>B' []
 |e::es=>(tf Γ e).bind λi=>(qx Γ es).map (i:: ·)
def Er(Γ:Gm):Expr->Option Tg
 |.Name x p=>(tf Γ<|.Name x p).map .nm
 |.Tuple es _ _=>(qx Γ es).map .tp
 |_=>G'
def QS(names:List (Str×NameKind)):List Str:=names.filterMap λp=>if G5 (B' p.2) then B' p.1 else G'
def IF(names:List (Str×NameKind))(N:List Str):List (Option Nat):=names.filterMap λp=>match p.2 with
 |.local=>B' G'
 |.free=>B'<|B7 p.1 N
 |.cell=>B' G'
 |_=>G'
def IG(cap:List (Option Nat))(M:List Bool):List Bool:=cap.map λo=>o.elim K' λi=>M[i]?==B' J'
def Fk(δ:Option Nat):List (Option Nat)->Option Nat
 |[]=>G'
 |o::r=>if δ.isSome&&o==δ then B' 0 else(Fk δ r).map (· + 1)
def bU(v:Gm)(a:Scope):Gm×List (Option Nat):=
 let cap:=IF a.names v.N
 (#[a.names,QS a.names,IG cap v.M,Fk v.δ cap,Fk v.κ cap],cap)
def cq:Tg->List Nat
 |.nm i=>[i]
 |.tp is=>is
def Ej(names on:List (Str×NameKind))(N' Nn:List Str)(cap:List (Option Nat)):Bool:=
 names.all (λy=>names.lookup y.1==B' y.2&&(y.2 != .free||(on.lookup y.1==B' .cell||on.lookup y.1==B' .free)))&&
 (cap.length==N'.length)&&(List.range cap.length).all (λj=>match cap[j]? with
  |some (B' i)=>(match N'[j]? with
   |some x=>Nn[i]?==B' x&&names.lookup x==B' .free
   |none=>K')
  |_=>J')
inductive Pr where
 |nm (f:Str) (p:Pos)|at (o:Expr) (m:Str) (ap:Pos)|cl (f:Expr) (as:List Expr) (q:Pos)|int (i:Int) (k:Nat) (p:Pos)|tp (es:List Expr) (k:Nat) (p:Pos)|Cr
def Pr.e:Pr->Option Expr
 |.nm f p=>B'<|.Name f p
 |.at o m ap=>B'<|.Attribute o m ap
 |.cl f as q=>B'<|.Call f as [] q
 |.int i k p=>B'<|.Constant (.int i) k p
 |.tp es k p=>B'<|.Tuple es k p
 |.Cr=>G'
def Hl:Expr->Pr
 |.Name f p=>.nm f p
 |.Attribute o m ap=>.at o m ap
 |.Call f as [] q=>.cl f as q
 |.Constant (.int i) k p=>.int i k p
 |.Tuple es k p=>.tp es k p
 |_=>.Cr
theorem IW(e):(Hl e).e=G'\/(Hl e).e=B' e:=by cases e<;>first|exact .inl rfl|exact .inr rfl|(rename_i _ _ O _;cases O<;>first|exact .inl rfl|exact .inr rfl)|(rename_i c _ _;cases c<;>first|exact .inl rfl|exact .inr rfl)
theorem iO(h:Hl e=v)(q:v.e=B' s):e=s:=by rw[<-h]at q;exact(IW e).elim (λk=>by rw[k]at q;cases q) λk=>Y7<|k.symm.trans q
def D5(e:Expr):Option (Str×Pos):=match Hl e with
 |.nm x p=>B' (x,p)
 |_=>G'
theorem gN(h:D5 e=B' q):e= .Name q.1 q.2:=by unfold D5 at h;split at h<;>cases h;exact iO ‹_› rfl
def PN(e:Expr):Option (Expr×List Expr×Pos):=match Hl e with
 |.cl f as q=>B' (f,as,q)
 |_=>G'
theorem AY(h:PN e=B' (f,as,q)):e= .Call f as [] q:=by unfold PN at h;split at h<;>cases h;exact iO ‹_› rfl
def JD(e:Expr):Bool:=match Hl e with
 |.tp _ _ _=>J'
 |_=>K'
theorem Fh(h:JD e=J'):∃es k p,e= .Tuple es k p:=by unfold JD at h;split at h<;>cases h;exact#[_,_,_,iO ‹_› rfl]
def JC(Γ:Gm)(e:Expr):Bool:=match D5 e with
 |some x=>match slot Γ x.1 with
  |some i=>Γ.δ==B' i
  |none=>K'
 |none=>K'
section
variable{α β γ δ:Type}{x:Option α}{y:Option β}{z:Option γ}{c:δ}
theorem bx{P:Prop}(h:x.bind f=B' c)(H:∀a,x=B' a->f a=B' c->P):P:=by
 cases x with
 |none=>cases h
 |some a=>exact H a rfl h
@[elab_as_elim] theorem wH{k:α->δ}{P:δ->Prop}(c:δ)(h:(x.bind λa=>B' (k a))=B' c)(H:∀a,x=B' a->P (k a)):P c:=bx h λa e q=>Y7 q▸H a e
@[elab_as_elim] theorem uU{k:α->β->δ}{P:δ->Prop}(c:δ)(h:(x.bind λa=>y.bind λb=>B' (k a b))=B' c)(H:∀a,x=B' a->∀b,y=B' b->P (k a b)):P c:=bx h λa e q=>bx q λb e2 q2=>Y7 q2▸H a e b e2
@[elab_as_elim] theorem QR{k:α->β->γ->δ}{P:δ->Prop}(c:δ)(h:(x.bind λa=>y.bind λb=>z.bind λd=>B' (k a b d))=B' c)(H:∀a,x=B' a->∀b,y=B' b->∀d,z=B' d->P (k a b d)):P c:=bx h λa e q=>bx q λb e2 q2=>bx q2 λd e3 q3=>Y7 q3▸H a e b e2 d e3
end
def Tp(g:G)(Γ:Gm)(x:Str):Option C:=match slot Γ x with
   |some i=>if Γ.δ==B' i||Γ.κ==B' i then G' else if cL Γ i then B' (.mvr i) else B' (.var i)
   |none=>if xc (Γ.names.lookup x)&&du x then(g.cons.lookup x).map .con else G'
def IL(v:Gm)(o:CmpOp)(b:Expr):Option Nat:=(D5 b).bind λx=>(slot v x.1).bind λi=>if o== .NotIn&&v.κ==B' i&&cL v i then B' i else G'
theorem Ep(h:IL Γ o b=B' i):∃x:Str×Pos,b= .Name x.1 x.2/\o= .NotIn/\slot Γ x.1=B' i/\cL Γ i=J':=by
 unfold IL at h;refine bx h λx Z h=>?_
 refine bx h λj Y h=>?_
 split at h
 ·rename_i K;rw[W5,W5]at K;cases h;exact#[x,gN Z,by simpa using K.1.1,Y,K.2]
 ·cases h
def Mt(cE:Nat->G->Gm->Expr->Option C)(n:Nat)(g:G)(Γ:Gm)(a:Expr)(os:List CmpOp)(bs:List Expr):Option C:=match os,bs with
   |[o],[b]=>match IL Γ o b with
    |some i=>(cE n g Γ a).bind λa'=>B'<|.ninK i a'
    |none=>(cE n g Γ a).bind λa'=>(cE n g Γ b).bind λb'=>B'<|.cmp o a' b'
   |_,_=>G'
def MA(cE:Nat->G->Gm->Expr->Option C)(n:Nat)(g:G)(Γ:Gm)(a b:Expr):Option C:=match b with
   |.Slice (B' l) G' G' _=>(cE n g Γ a).bind λa'=>(cE n g Γ l).bind λl'=>B'<|.sliL a' l'
   |.Slice G' (B' h) G' _=>(cE n g Γ a).bind λa'=>(cE n g Γ h).bind λh'=>B'<|.sliH a' h'
   |b=>(cE n g Γ a).bind λa'=>(cE n g Γ b).bind λb'=>B'<|.idx a' b'
def Tn(cE:Nat->G->Gm->Expr->Option C)(n:Nat)(g:G)(Γ:Gm)(o:Expr)(m:Str)(ap:Pos)(as:List Expr)(pos:Pos):Option C:=match as with
   |[]=>if m==("pop":Str)&&ap.endLine==pos.line then(D5 o).bind λx=>(match slot Γ x.1 with
    |some i=>if Γ.δ==B' i then B' .popD else G'
    |none=>G') else G'
   |[a,b]=>if m==("get":Str)&&ap.endLine==pos.line then(match D5 o with
    |some x=>match slot Γ x.1 with
     |some i=>if Γ.κ==B' i&&cL Γ i then(cE n g Γ a).bind λa'=>(cE n g Γ b).bind λb'=>B' (.BB i a' b') else(cE n g Γ o).bind λo'=>(cE n g Γ a).bind λa'=>(cE n g Γ b).bind λb'=>B'<|.gtO o' a' b'
     |none=>G'
    |none=>(cE n g Γ o).bind λo'=>(cE n g Γ a).bind λa'=>(cE n g Γ b).bind λb'=>B'<|.gtO o' a' b') else G'
   |_=>G'
def To(cE:Nat->G->Gm->Expr->Option C)(oA:Nat->G->Gm->Str->Expr->List Expr->Option C)(n:Nat)(g:G)(Γ:Gm)(f:Expr)(as:List Expr)(ks:List Keyword)(pos:Pos):Option C:=match ks with
   |[]=>(match Hl f with
    |.nm f _=>(match as with
     |a::as=>oA n g Γ f a as
     |[]=>G')
    |.at o m ap=>Tn cE n g Γ o m ap as pos
    |_=>G')
   |_=>G'
def PL(cE:Nat->G->Gm->Expr->Option C)(cI:Nat->G->Gm->Expr->Expr->Option nL)(Hd:Nat->G->Gm->List Expr->Option Cs)(n:Nat)(g:G)(Γ:Gm)(elt:Expr)(gens:List Comprehension)(sc:Scope):Option C:=
   let b:=bU Γ sc
   if sc.kind== .function then(match gens with
   |[#[tg,it,ifs,0]]=>(cI n g Γ tg it).bind λiR=>(Er b.1 tg).bind λDx=>(Hd n g b.1 ifs).bind λD6=>(cE n g b.1 elt).bind λe'=>
    if Ej sc.names Γ.names b.1.N Γ.N b.2&&decide b.1.N.Nodup then B' (.comp b.2 iR Dx D6 e') else G'
   |_=>G') else G'
def Mu(c:Nat->G->Gm->List Expr->Option Cs)(n:Nat)(g:G)(v:Gm)(k z:Nat)(a:Expr)(b:List Expr):Option C:=(D5 a).bind λx=>(slot v x.1).bind λi=>if v.δ==B' i&&b.length+1==z then(c n g v b).bind λes=>if qv es==0 then B' (.callD k es) else G' else G'
def Mw(cE:Nat->G->Gm->Expr->Option C)(n:Nat)(g:G)(Γ:Gm)(a:Expr)(as:List Expr):Option C:=(match as with
     |[e]=>(D5 e).bind λt=>if xc (Γ.names.lookup t.1)&&g.bls.contains t.1 then(wj t.1).bind λT=>(cE n g Γ a).bind λa'=>B' (.bi (.isi T)<|.cons a' .nil) else G'
     |_=>G')
def pN(c:Nat->G->Gm->List Expr->Option Cs)(n:Nat)(g:G)(v:Gm)(f:Str)(a:Expr)(b:List Expr):Option C:=(Eg f<|b.length+1).bind λi=>(c n g v (a::b)).bind λes=>B'<|.bi i es
def My(cE:Nat->G->Gm->Expr->Option C)(lJ:Nat->G->Gm->List Expr->Option Cs)(n:Nat)(g:G)(Γ:Gm)(f:Str)(a:Expr)(as:List Expr):Option C:=match as with
   |[]=>(match PN a with
    |some (h,xs,ip)=>(match Hl h with
     |.nm r _=>(match xs with
      |[b]=>if r==("reversed":Str) then G'
       else if r==("set":Str) then(if xc (Γ.names.lookup r)&&g.bls.contains r&&f==("sorted":Str) then(cE n g Γ b).bind λb'=>B' (.bi .sset<|.cons b' .nil) else G')
       else pN lJ n g Γ f a []
      |[b,c]=>if r==("zip":Str) then G'
       else pN lJ n g Γ f a []
      |_=>pN lJ n g Γ f a [])
     |.at y m ap=>(match xs with
      |[]=>if m==("items":Str) then(if f==("sorted":Str)&&ap.endLine==ip.line then(D5 y).bind λx=>(slot Γ x.1).bind λi=>if Γ.κ==B' i&&cL Γ i then B' (.srtI i) else G'
        else G')
       else pN lJ n g Γ f a []
      |_=>pN lJ n g Γ f a [])
     |_=>pN lJ n g Γ f a [])
    |none=>pN lJ n g Γ f a [])
   |_=>pN lJ n g Γ f a as
def Mz(cE:Nat->G->Gm->Expr->Option C)(n:Nat)(g:G)(Γ:Gm)(f:Str)(tg e:Expr)(as:List Expr):Option nL:=match as with
   |[a]=>if f==("range":Str) then(if xc (Γ.names.lookup f)&&g.bls.contains f then(cE n g Γ a).bind λa'=>B' (.rng1 a') else G')
    else(cE n g Γ e).bind λc=>B'<|.seq c
   |[a,b]=>if f==("range":Str) then(if xc (Γ.names.lookup f)&&g.bls.contains f then G' else G')
    else if f==("zip":Str) then(if JD tg&&xc (Γ.names.lookup f)&&g.bls.contains f then(cE n g Γ a).bind λa'=>(cE n g Γ b).bind λb'=>B' (.zip a' b') else G')
    else(cE n g Γ e).bind λc=>B'<|.seq c
   |_=>(cE n g Γ e).bind λc=>B'<|.seq c
mutual
noncomputable def cE:Nat->G->Gm->Expr->Option C
 |0,_,_,_=>G'
 |n+1,g,Γ,e=>match e with
  |.Constant k _ _=>match k with
   |.int i=>B'<|.con<|.int i
   |.str x=>B'<|.con<|.str x
   |.bool x=>B'<|.con<|.bl x
   |.none=>B'<|.con .bX
   |_=>G'
  |.Name x _=>Tp g Γ x
  |.BinOp a o b _=>(cE n g Γ a).bind λa'=>(cE n g Γ b).bind λb'=>B'<|.bin o a' b'
  |.UnaryOp o a _=>(cE n g Γ a).bind λa'=>match o with
   |.USub=>B'<|.neg a'
   |.Not=>B'<|.nt a'
   |_=>G'
  |.BoolOp o vs _=>cB n g Γ o vs
  |.Compare a os bs _=>Mt (λ_=>cE n) n g Γ a os bs
  |.Subscript a b _=>MA (λ_=>cE n) n g Γ a b
  |.Tuple es _ _=>(lJ n g Γ es).bind λeJ=>B'<|.tup eJ
  |.List es _=>(lJ n g Γ es).bind λeJ=>B'<|.lst eJ
  |.Call f as ks pos=>To (λ_=>cE n) (λ_=>oA n) n g Γ f as ks pos
  |.ListComp elt gens sc _=>PL (λ_=>cE n) (λ_=>cI n) (λ_=>Hd n) n g Γ elt gens sc
  |_=>G'
noncomputable def lJ:Nat->G->Gm->List Expr->Option Cs
 |0,_,_,_=>G'
 |n+1,g,Γ,es=>match es with
  |[]=>B' .nil
  |e::es=>(cE n g Γ e).bind λe'=>(lJ n g Γ es).bind λeJ=>B'<|.cons e' eJ
noncomputable def Hd:Nat->G->Gm->List Expr->Option Cs
 |0,_,_,_=>G'
 |n+1,g,Γ,es=>match es with
  |[]=>B' .nil
  |[e]=>(cE n g Γ e).bind λe'=>B'<|.cons e' .nil
  |_=>G'
noncomputable def cB:Nat->G->Gm->BoolOp->List Expr->Option C
 |0,_,_,_,_=>G'
 |n+1,g,Γ,o,es=>match es with
  |[e]=>cE n g Γ e
  |e::es=>(cE n g Γ e).bind λe'=>(cB n g Γ o es).bind λeJ=>B' (match o with|.And=>.and e' eJ|.Or=>.or e' eJ)
  |[]=>G'
noncomputable def cI:Nat->G->Gm->Expr->Expr->Option nL
 |0,_,_,_,_=>G'
 |n+1,g,Γ,tg,e=>match PN e with
  |some (h,as,_)=>(match D5 h with
   |some f=>Mz (λ_=>cE n) n g Γ f.1 tg e as
   |none=>(cE n g Γ e).bind λc=>B'<|.seq c)
  |none=>(cE n g Γ e).bind λc=>B'<|.seq c
noncomputable def oA:Nat->G->Gm->Str->Expr->List Expr->Option C
 |0,_,_,_,_,_=>G'
 |n+1,g,Γ,f,a,as=>if xc (Γ.names.lookup f)&&du f then(match sr f g.fns with
  |some (k,np,fN,bA)=>if bA then Mu (λ_=>lJ n) n g Γ k np a as
   else if as.length+1<=np&&np-(as.length+1)<=fN.length then(lJ n g Γ (a::as)).bind λes=>B' (.call k es<|fN.drop<|fN.length-(np-(as.length+1))) else G'
  |none=>if g.bls.contains f then
    (if f==("len":Str)&&JC Γ a&&as.isEmpty then B' .lenD
    else if f==("isinstance":Str) then Mw (λ_=>cE n) n g Γ a as
    else My (λ_=>cE n) (λ_=>lJ n) n g Γ f a as)
    else G')
  else G'
end
section
variable{P:Program}{w:World}{K:Frag}{A B:Addr->Prop}{H:Hp}{s:Shared}
theorem elts(hok:dZ P w H s.heap){R:Around}(I:aq K A H wy i1)(r:aq K B H wz i2)(F:au wy j5)(b:au wz bV)(Q:j5.toArray.size=i1.length)(S:bV.toArray.size=i2.length)
  (J:qJ i1=J') (p2:qJ i2=J') (hd:u4 i1<=n) (X:R.in1.units+n<cLine) (j) (Z:j<j5.toArray.size) (Y:j<bV.toArray.size):EqAt R.in1 s j5.toArray[j] bV.toArray[j] (Ol i1 i2 j):=Bk (MJ hok n) I r F b Q S J p2 hd X j Z Y
theorem Os(hok:dZ P w H s.heap)(n)(d e)(x y)(u v)(R)(hd:dp d<=n+1)(z:pl d=J')(J:pl e=J')(X:R.units+n+1<cLine)(L:RV K A H x d)(m:RV K B H y e)(rx:RelV x u)(c:RelV y v):RcAt R s u v (cU d e):=by
 have k2:=kd hok J m c;cases kd hok z L rx with
 |n=>cases k2 with
  |n=>exact RcAt.none_none
  |b k=>exact RcAt.none_bool k
  |i p t2=>exact RcAt.none_int p t2
  |s j t2=>exact RcAt.none_str j t2
  |t _ h=>exact RcAt.none_tuple h ⋯
  |l _ h=>exact RcAt.none_list h ⋯
 |b o=>cases k2 with
  |n=>exact RcAt.bool_none o
  |b k=>exact RcAt.bool_bool o k
  |i p t2=>exact RcAt.bool_int o p t2
  |s j t2=>exact RcAt.bool_str o j t2
  |t _ h=>exact RcAt.bool_tuple o h ⋯
  |l _ h=>exact RcAt.bool_list o h ⋯
 |i g t1=>cases k2 with
  |n=>exact RcAt.int_none g t1
  |b k=>exact RcAt.int_bool g t1 k
  |i p t2=>exact RcAt.int_int g t1 p t2
  |s j t2=>exact RcAt.int_str g t1 j t2
  |t _ h=>exact RcAt.int_tuple g t1 h ⋯
  |l _ h=>exact RcAt.int_list g t1 h ⋯
 |s O t1=>cases k2 with
  |n=>exact RcAt.str_none O t1
  |b k=>exact RcAt.str_bool O t1 k
  |i p t2=>exact RcAt.str_int O t1 p t2
  |s j t2=>exact RcAt.str_str O t1 j t2
  |t _ h=>exact RcAt.str_tuple O t1 h ⋯
  |l _ h=>exact RcAt.str_list O t1 h ⋯
 |t Q a Z=>
  rename_i g;obtain⟨wy,I,F⟩:=Z;cases k2 with
  |n=>exact RcAt.tuple_none a ⋯
  |b k=>exact RcAt.tuple_bool k a ⋯
  |i p t2=>exact RcAt.tuple_int p t2 a ⋯
  |s j t2=>exact RcAt.tuple_str j t2 a ⋯
  |l _ h=>exact RcAt.tuple_list a h ⋯
  |t S E Y=>rename_i p;obtain⟨wz,r,r2⟩:=Y;have key:=RcAt.tuples (A:=R) a E ⋯ (elts hok I r F r2 Q S (by simpa [pl]using z) (by simpa [pl]using J) (n:=n) (by unfold dp at hd;lia)<|by show R.units+1+n<cLine;lia);have q:=dm g p;rw[<-Q,<-S]at q;rw[q]at key;exact key
 |l Q a Z=>
  rename_i g;obtain⟨wy,I,F⟩:=Z;cases k2 with
  |n=>exact RcAt.list_none a ⋯
  |b k=>exact RcAt.list_bool k a ⋯
  |i p t2=>exact RcAt.list_int p t2 a ⋯
  |s j t2=>exact RcAt.list_str j t2 a ⋯
  |t _ h=>exact RcAt.list_tuple a h ⋯
  |l S E Y=>
   rename_i p;obtain⟨wz,r,r2⟩:=Y;have q:=dm g p;by_cases W:g.length=p.length
   ·have key:=RcAt.lists (A:=R) a E ⋯ ⋯ (elts hok I r F r2 Q S (by simpa [pl]using z) (by simpa [pl]using J) (n:=n) (by unfold dp at hd;lia)<|by show R.units+1+n<cLine;lia);rw[W,Nat.min_self,Zh,XZ]at q;rw[Q,W,q]at key;exact key
   ·have key:=RcAt.lists_lengths (A:=R) a E (by rw[Q,S];simpa using W) ⋯;have M:(g.length==p.length)=K':=by simpa using W
    rw[M,XY]at q;show RcAt R s _ _ (cH g p);rw[<-q];exact key
theorem GA(hok:dZ P w H s.heap)(n)(d e)(x y)(u v)(R)(hd:dp d<=n+1)(z:pl d=J')(J:pl e=J')(X:R.units+n+1<cLine)(L:RV K A H x d)(m:RV K B H y e)(rx:RelV x u)(c:RelV y v):RcNeAt R s u v (!cU d e):=by
 have k2:=kd hok J m c;cases kd hok z L rx with
 |n=>cases k2 with
  |n=>exact RcNeAt.none_none
  |b k=>exact RcNeAt.none_bool k
  |i p t2=>exact RcNeAt.none_int p t2
  |s j t2=>exact RcNeAt.none_str j t2
  |t _ h=>exact RcNeAt.none_tuple h ⋯
  |l _ h=>exact RcNeAt.none_list h ⋯
 |b o=>cases k2 with
  |n=>exact RcNeAt.bool_none o
  |b k=>exact RcNeAt.bool_bool o k
  |i p t2=>exact RcNeAt.bool_int o p t2
  |s j t2=>exact RcNeAt.bool_str o j t2
  |t _ h=>exact RcNeAt.bool_tuple o h ⋯
  |l _ h=>exact RcNeAt.bool_list o h ⋯
 |i g t1=>cases k2 with
  |n=>exact RcNeAt.int_none g t1
  |b k=>exact RcNeAt.int_bool g t1 k
  |i p t2=>exact RcNeAt.int_int g t1 p t2
  |s j t2=>exact RcNeAt.int_str g t1 j t2
  |t _ h=>exact RcNeAt.int_tuple g t1 h ⋯
  |l _ h=>exact RcNeAt.int_list g t1 h ⋯
 |s O t1=>cases k2 with
  |n=>exact RcNeAt.str_none O t1
  |b k=>exact RcNeAt.str_bool O t1 k
  |i p t2=>exact RcNeAt.str_int O t1 p t2
  |s j t2=>exact RcNeAt.str_str O t1 j t2
  |t _ h=>exact RcNeAt.str_tuple O t1 h ⋯
  |l _ h=>exact RcNeAt.str_list O t1 h ⋯
 |t Q a Z=>
  rename_i g;obtain⟨wy,I,F⟩:=Z;cases k2 with
  |n=>exact RcNeAt.tuple_none a ⋯
  |b k=>exact RcNeAt.tuple_bool k a ⋯
  |i p t2=>exact RcNeAt.tuple_int p t2 a ⋯
  |s j t2=>exact RcNeAt.tuple_str j t2 a ⋯
  |l _ h=>exact RcNeAt.tuple_list a h ⋯
  |t S E Y=>rename_i p;obtain⟨wz,r,r2⟩:=Y;have key:=RcNeAt.tuples (A:=R) a E ⋯ (elts hok I r F r2 Q S (by simpa [pl]using z) (by simpa [pl]using J) (n:=n) (by unfold dp at hd;lia)<|by show R.units+1+n<cLine;lia);have q:=dm g p;rw[<-Q,<-S]at q;rw[q]at key;exact key
 |l Q a Z=>
  rename_i g;obtain⟨wy,I,F⟩:=Z;cases k2 with
  |n=>exact RcNeAt.list_none a ⋯
  |b k=>exact RcNeAt.list_bool k a ⋯
  |i p t2=>exact RcNeAt.list_int p t2 a ⋯
  |s j t2=>exact RcNeAt.list_str j t2 a ⋯
  |t _ h=>exact RcNeAt.list_tuple a h ⋯
  |l S E Y=>
   rename_i p;obtain⟨wz,r,r2⟩:=Y;have q:=dm g p;by_cases W:g.length=p.length
   ·have key:=RcNeAt.lists (A:=R) a E ⋯ ⋯ (elts hok I r F r2 Q S (by simpa [pl]using z) (by simpa [pl]using J) (n:=n) (by unfold dp at hd;lia)<|by show R.units+1+n<cLine;lia);rw[W,Nat.min_self,Zh,XZ]at q;rw[Q,W,q]at key;exact key
   ·have key:=RcNeAt.lists_lengths (A:=R) a E (by rw[Q,S];simpa using W) ⋯;have M:(g.length==p.length)=K':=by simpa using W
    rw[M,XY]at q;show RcNeAt R s _ _ (!cH g p);rw[<-q];exact key
end
end Rx
end
section
namespace Mx
open PySem PySem.Spec PyProof.Rows L2 PySem.SeqAt
section
variable{X:Cx}
theorem yV(K:X.calm=J'):dQ X (.builtin "sum") (λxs H Q=>∃(l:Addr)(ns:List Int),xs=[.ref l]/\H l=B' (.tup<|ns.map V.int)/\Q (.int ns.sum) H):=by
 intro S s O H xs us Q I r h;obtain⟨l,ns,rfl,F,q⟩:=h;obtain⟨u,rfl,m⟩:=r.one;cases m;obtain⟨_,J,rv,B⟩:=(I.hok l _ F);have W:J.length=ns.length:=by rw[<-rv.length];simp
 have ht:=B.is;have p:=B.is.lt;refine call_sum_walkG<|ZG ht ?_;refine#[s.heap.objs.size,_,_,_,_,_,λi=>ns.getD i 0,rfl,Walks.tuple (A:=X.A.in1) (I.ok.hd K) s.heap.objs.size l (XB p) J.toArray,#[#[_,Xd _ rfl,rfl,rfl],ht.push _],λb M=>?_,λi v n=>?_,λh' tk t' g=>?_]
 ·rcases Xi.mp M with rfl|M
  ·exact Xg<|Xd _ rfl
  ·obtain rfl:=XF.mp M;exact Nat.lt_trans p<|Xg<|Xd _ rfl
 ·have a:=n;exact int_at rv (by simpa using a)
 ·refine#[.int _,H,I.kept λb o e=>g b o (λz=>YY _<|(XF.mp z)▸Xg e)<|W3 _ e,#[t',rfl],?_];rw[show J.toArray.size=ns.length by simp[W],qK,List.take_length];exact q
end
end Mx
end
section
namespace Mx
open PySem PySem.Spec PySem.W PyProof.Rows L2
section
variable{X:Cx}
end
end Mx
end
section
namespace HT
open PySem PyProof.Rows
section
variable{prog:Program}{w:World}{A:Around}{E:Value->Shared->Prop}{s:Shared}
theorem iB{lo hi:Option Int}(O:IsTup s.heap t items)(hs:s.heap.IsSliceOf sl vl vu .none)(b:IsPart vl lo)(c:IsPart vu hi)
  (y:cF items.size 0 lo=0/\cF items.size items.size hi=items.size) (h:Q (.ref t) s) (m:items.size<=sizeLine):wpAny (model prog w) A (getItem (.ref t)<|.ref sl) Q E s:=by
 obtain⟨os,a,xn,u⟩:=id hs;have i:s.TypeIs (.ref sl) "slice":=#[os,a,xn];unfold getItem
 try with_reducible refine Zz ?_
 first|refine W1 (W4 ?_)|skip
 refine W1<|wpAny_sequenceKey O.typeIs (by decide) ?_;refine W1 (Zw O.typeIs Y9
  (Zx Y9 O.typeIs entry_tuple_getitem ?_<|args_tuple_getitem _ _))
 show wpAny _ _ (Builtin.Tuple.tupleItemsOf (.ref t) >>=_) _ _ s;refine W1<|tupleItemsOf_ O ?_;refine W1<|ZL i ?_;rw[Zn (by decide)];refine W1<|fB hs b c ?_;show wpAny _ _ (if (((cF items.size 0 lo:Nat):Int)==0&&(1:Int)==1&&(cF items.size items.size hi-cF items.size 0 lo)==items.size)=J' then _ else _) _ _ s;rw[Zn (by rw[y.1,y.2];simp)];refine W1<|W1<|ZL O.typeIs<|W4 ?_;rw[Zn (by decide)];refine W1<|ZH ?_;exact W4 #[_,rfl,W4 h]
end
end HT
namespace Rx
open PySem PySem.W PySem.Spec PyProof.Rows L2 PySem.SeqAt
abbrev N0:Addr->Prop:=λ_=>False
def gy(K:Frag)(A:Addr->Prop)(H:Hp)(v:V):Dt->Prop
 |.lst ds=>∃a xs,v= .ref a/\H a=B' (.lst xs)/\aq K A H xs ds
 |d=>RV K A H v d
def pC(K:Frag)(A:Addr->Prop)(H:Hp):List V->List Dt->Prop
 |[],[]=>True
 |x::xs,d::ds=>gy K A H x d/\pC K A H xs ds
 |_,_=>False
section
variable{K:Frag}{A:Addr->Prop}{H H':Hp}
theorem RV.one{v d}(h:RV K A H v d):gy K A H v d:=by
 cases d with
 |lst ds=>obtain⟨a,xs,Z,Y,_,u⟩:=h.lst_inv;exact#[a,xs,Z,Y,u]
 |_=>exact h
theorem gy.ext{v d}(h:gy K A H v d)(e:aZ X H H')(r:∀b,X b->A b)(n:∀ds a,d= .lst ds->v= .ref a->¬X a):gy K A H' v d:=by
 cases d with
 |lst ds=>obtain⟨a,xs,Z,Y,u⟩:=h;exact#[a,xs,Z,e.kp _ _ Y<|n ds a rfl Z,u.mono e r λ_ z=>z]
 |_=>exact RV.mono e r (λ_ z=>z) h
theorem aq.ones:∀{vs ds},aq K A H vs ds->pC K A H vs ds
 |[],[],_=>trivial
 |[],_::_,h=>by unfold aq at h;exact h.elim
 |_::_,[],h=>by unfold aq at h;exact h.elim
 |_::_,_::_,h=>by unfold aq at h;exact#[h.1.one,h.2.ones]
end
structure PR(K:Frag)(fr:Bool)(xs:List V)(ds:List Dt)(H:Hp)(d:Dt)(v:V)(H':Hp):Prop where
 same:bJ H H'
 val:∀A:Addr->Prop,(∀a,A a->∃o,H a=B' o)->pC K A H xs ds->RV K A H' v d
 fH:fr=J'->∀es,d= .lst es->∃a ys,v= .ref a/\H a=G'/\H' a=B' (.lst ys)/\∀A:Addr->Prop,(∀a,A a->∃o,H a=B' o)->pC K A H xs ds->aq K (λb=>A b\/b=a) H' ys es
def rP(K:Frag)(fr:Bool)(f:List Dt->R Dt):List V->Hp->VK->Prop:=λxs H Q=>∃ds d,aq K N0 H xs ds/\f ds= .ok d/\∀v L,PR K fr xs ds H d v L->Q v L
section
variable{K:Frag}{fr:Bool}{xs:List V}{ds:List Dt}{H:Hp}{d:Dt}
def rE:Dt->Bool
 |.bX|.bl _|.int _|.str _=>J'
 |_=>K'
def uJ:Dt->V
 |.bl b=>.bl b
 |.int b=>.int b
 |.str b=>.str b
 |_=>.bX
theorem tS(h:rE d=J'):RV K A H (uJ d) d:=by
 cases d with
 |bX=>exact RV.qy
 |bl b=>exact RV.xM
 |int b=>exact RV.fS
 |str b=>exact RV.qA
 |_=>simp[rE]at h
theorem PR.sc(h:rE d=J'):PR K fr xs ds H d (uJ d) H:=#[bJ.refl _,λA _ _=>tS h,λ_ es e=>by subst e;simp[rE]at h]
theorem PR.qB(J:H p=G')(h:∀A:Addr->Prop,pC K A H xs ds->aq K A H ys es):PR K fr xs ds H (.lst es) (.ref p) (upd H p<|.lst ys):=by
 have s:=Mx.cA J<|.lst ys;refine#[s,λA c q=>RV.fT aB (λz=>?_)<|(h A q).same s,λ_ F e=>?_]
 ·obtain⟨o,e⟩:=c p z;rw[J]at e;cases e
 ·cases e;exact#[p,ys,rfl,J,aB,λA c q=>((h A q).avoid J).same s]
theorem PR.J3(J:H p=G')(h:∀A:Addr->Prop,pC K A H xs ds->aq K A H ys es):PR K fr xs ds H (.tup es) (.ref p) (upd H p<|.tup ys):=by have s:=Mx.cA J<|.tup ys;exact#[s,λA c q=>RV.iV aB<|(h A q).same s,λ_ F e=>by cases e]
theorem PR.xF(J:H p=B' (.tup ys))(h:∀A:Addr->Prop,pC K A H xs ds->aq K A H ys es):PR K fr xs ds H (.tup es) (.ref p) H:=
 #[bJ.refl _,λA c q=>RV.iV J<|h A q,λ_ F e=>by cases e]
theorem cR:lim<=sizeLine:=by rw[Zu];decide
theorem aS(h:af b r= .ok a):b=J'/\r= .ok a:=by
 cases b with
 |true=>exact#[rfl,h]
 |false=>cases h
theorem gy.ff(h:gy K A H (.ref a) (.lst es))(e:H a=B' (.lst xs)):aq K A H xs es:=by obtain⟨b,ys,q,Z,Y⟩:=h;cases q;rw[e]at Z;cases Z;exact Y
theorem gy.aV(h:gy K A H (.ref a) (.tup es))(e:H a=B' (.tup xs)):aq K A H xs es:=by obtain⟨b,ys,q,Z,Y⟩:=RV.ao h;cases q;rw[e]at Z;cases Z;exact Y
end
section
variable{X:Cx}
def r2(K:Frag)(f:Dt->Dt->R Dt):R2:=λx y H Q=>∃d e z,RV K N0 H x d/\RV K N0 H y e/\f d e= .ok z/\∀v L,PR K J' [x,y] [d,e] H z v L->Q v L
theorem oW(h:i.natAbs<2^64): -(2^64)<i/\i<2^64:=by omega
theorem Kg:kL X (binaryOp .FloorDiv) (rI (λ_ j=>j≠0/\j.natAbs.log2<9000) λi j=>.int<|i.fdiv j):=Qn λi j _ _ _ _ _ K q=>floordiv_int K.1 q<|.inl<|PyProof.noPylong_of_log2 K.2
theorem Kf(o):kL X (binaryOp o) (r2 X.K<|qE o):=by
 intro S s O H x y v u Q I M c h;obtain⟨d,e,z,L,m,P,q⟩:=h;have W:=cR;unfold qE at P;split at P
 ·split at P
  ·rename_i i j;cases P;exact Ke S s O H x y v u Q I M c #[i,j,L.int_inv,m.int_inv,q _ _<|PR.sc rfl]
  ·rename_i i j;obtain⟨g,P⟩:=aS P;cases P;exact vE S s O H x y v u Q I M c #[i,j,L.str_inv,m.str_inv,Xh (W7 g) W,q _ _<|PR.sc rfl]
  ·rename_i i j;obtain⟨g,P⟩:=aS P;cases P;obtain⟨a,xs,rfl,Z,_,Y⟩:=L.lst_inv;obtain⟨b,ys,rfl,k1,_,k2⟩:=m.lst_inv;refine fV S s O H _ _ v u Q I M c #[a,b,xs,ys,rfl,rfl,Z,k1,?_,λp J=>q _ _<|PR.qB J λA w=>?_]
   ·rw[Y.length,k2.length];exact Xh (W7 g) W
   ·exact(gy.ff w.1 Z).append<|gy.ff w.2.1 k1
  ·rename_i i j;obtain⟨g,P⟩:=aS P;cases P;obtain⟨a,xs,rfl,Z,Y⟩:=L.ao;obtain⟨b,ys,rfl,k1,k2⟩:=m.ao;by_cases hd:xs=[]
   ·subst hd;cases Y.et;cases M;cases c;obtain⟨ak,F,p1,_⟩:=I.tuple<|fL.of Z;obtain⟨bV,r2,p2,_⟩:=I.tuple<|fL.of k1;cases F;obtain⟨⟨cls,dd,data,t⟩,B,K,n,BP⟩:=p1;obtain⟨⟨MC,DZ,k,Ap⟩,l,xm,n2,E⟩:=p2;subst K BP xm E;exact concat_meets #[_,B,rfl] #[_,l,rfl] Zq seq_tuple_add Zc Zb (Za _ _)
     (Mx.tuple_addW0 a b _ _ n n2 dd DZ t Ap rfl) #[B,l,#[.ref b,H,I,rfl,q _ _<|PR.xF k1 λA w=>gy.aV w.2.1 k1]]
   ·refine FP S s O H (.ref a) (.ref b) v u Q I M c #[a,b,xs,ys,rfl,rfl,fL.of Z,fL.of k1,hd,?_,λe=>?_,λe p J=>?_]
    ·rw[Y.length,k2.length];exact Xh (W7 g) W
    ·subst e;cases k2.et;rw[XO]at q;exact q _ _<|PR.xF Z λA w=>gy.aV w.1 Z
    ·exact q _ _<|PR.J3 J λA w=>(gy.aV w.1 Z).append<|gy.aV w.2.1 k1
  ·cases P
 ·split at P
  ·rename_i i j;cases P;exact Kk S s O H x y v u Q I M c #[i,j,L.int_inv,m.int_inv,q _ _<|PR.sc rfl]
  ·cases P
 ·split at P
  ·rename_i i j;obtain⟨g,P⟩:=aS P;cases P;refine Ki S s O H x y v u Q I M c #[i,j,L.int_inv,m.int_inv,?_,q _ _<|PR.sc rfl];rw[XQ]at g;rcases g with g|g
   ·exact .inl<|oW<|W7 g
   ·exact .inr<|oW<|W7 g
  ·cases P
 ·split at P
  ·rename_i i j;obtain⟨g,P⟩:=aS P;cases P;rw[W5]at g;exact Kg S s O H x y v u Q I M c #[i,j,L.int_inv,m.int_inv,#[W7 g.1,W7 g.2],q _ _<|PR.sc rfl]
  ·cases P
 ·split at P
  ·rename_i i j;obtain⟨g,P⟩:=aS P;cases P;exact FR S s O H x y v u Q I M c #[i,j,L.int_inv,m.int_inv,W7 g,q _ _<|PR.sc rfl]
  ·cases P
 ·split at P
  ·rename_i i j;obtain⟨g,P⟩:=aS P;cases P;rw[W5,W5]at g;have g1:=W7 g.1.1;have r:=W7 g.1.2;have g3:=W7 g.2;exact Kj S s O H x y v u Q I M c #[i,j,L.int_inv,m.int_inv,#[g1,by omega,g3],q _ _<|PR.sc rfl]
  ·cases P
 ·cases P
def rC(K:Frag)(o:CmpOp):R2:=λx y H Q=>∃d e z,RV K N0 H x d/\RV K N0 H y e/\cZ o d e= .ok z/\Q (.bl z) H
mutual
theorem xJ:∀{d e:Mx.D},lp d e=J'->Mx.D.eS d e
 |.int _,.int _,_=>by unfold Mx.D.eS;trivial
 |.str _,.str _,_=>by unfold Mx.D.eS;trivial
 |.tup a,.tup b,h=>by unfold Mx.D.eS;exact j7 (by simpa [lp]using h)
 |.int _,.str _,h=>by simp[lp]at h
 |.int _,.tup _,h=>by simp[lp]at h
 |.str _,.int _,h=>by simp[lp]at h
 |.str _,.tup _,h=>by simp[lp]at h
 |.tup _,.int _,h=>by simp[lp]at h
 |.tup _,.str _,h=>by simp[lp]at h
theorem j7:∀{d e:List Mx.D},iU d e=J'->Mx.D.jz d e
 |[],_,_=>by unfold Mx.D.jz;trivial
 |_::_,[],_=>by unfold Mx.D.jz;trivial
 |x::xs,y::ys,h=>by simp only[iU,W5]at h;unfold Mx.D.jz;exact#[xJ h.1,j7 h.2]
end
theorem vF(o)(hu:X.A.units+150<cLine):kL X (compareOp o) (rC X.K o):=by
 intro M' s σ H x y v u Q I rx ry h;obtain⟨d,e,z,hx,hy,he,q⟩:=h;unfold cZ at he;split at he
 ·obtain⟨g,he⟩:=aS he;cases he;unfold nM at g;rw[W5,W5]at g;exact Os I.hok 100 d e x y v u X.A (Nat.le_succ_of_le (W7 g.2)) g.1.1 g.1.2 ⋯ hx hy rx ry X.prog X.w X.xe (EP X M' σ Q) #[.bl _,H,I,rfl,q]
 ·obtain⟨g,he⟩:=aS he;cases he;unfold nM at g;rw[W5,W5]at g;exact GA I.hok 100 d e x y v u X.A (Nat.le_succ_of_le (W7 g.2)) g.1.1 g.1.2 ⋯ hx hy rx ry X.prog X.w X.xe (EP X M' σ Q) #[.bl _,H,I,rfl,q]
 ·rename_i i j;cases he;exact Oc M' s σ H x y v u Q I rx ry #[i,j,hx.int_inv,hy.int_inv,q]
 ·rename_i i j;cases he;exact Ob M' s σ H x y v u Q I rx ry #[i,j,hx.int_inv,hy.int_inv,q]
 ·rename_i i j;cases he;exact Oa M' s σ H x y v u Q I rx ry #[i,j,hx.int_inv,hy.int_inv,q]
 ·rename_i i j;cases he;exact N9 M' s σ H x y v u Q I rx ry #[i,j,hx.int_inv,hy.int_inv,q]
 ·cases he;refine Kh M' s σ H x y v u Q I rx ry #[hy.dY,?_];cases d with
  |bX=>rw[hx.dY];exact q
  |bl b=>rw[hx.bY];exact q
  |int b=>rw[hx.int_inv];exact q
  |str b=>rw[hx.str_inv];exact q
  |tup b=>obtain⟨a,xs,rfl,_⟩:=hx.ao;exact q
  |lst b=>obtain⟨a,xs,rfl,_⟩:=hx.lst_inv;exact q
  |ir b=>obtain⟨a,rfl,_⟩:=hx.ix;exact q
  |c8=>exact hx.pZ.elim
  |obj=>obtain⟨a,xs,rfl,_⟩:=hx.ib;exact q
  |exc=>exact hx.p8.elim
 ·cases he;refine FS M' s σ H x y v u Q I rx ry #[hy.dY,?_];cases d with
  |bX=>rw[hx.dY];exact q
  |bl b=>rw[hx.bY];exact q
  |int b=>rw[hx.int_inv];exact q
  |str b=>rw[hx.str_inv];exact q
  |tup b=>obtain⟨a,xs,rfl,_⟩:=hx.ao;exact q
  |lst b=>obtain⟨a,xs,rfl,_⟩:=hx.lst_inv;exact q
  |ir b=>obtain⟨a,rfl,_⟩:=hx.ix;exact q
  |c8=>exact hx.pZ.elim
  |obj=>obtain⟨a,xs,rfl,_⟩:=hx.ib;exact q
  |exc=>exact hx.p8.elim
 ·cases he
theorem uP(h:AB ds i= .ok d):pI ds i=B' d:=by
 unfold AB at h;split at h
 ·cases h;assumption
 ·cases h
theorem k7{K:Frag}(g:aq K A H xs ds)(h:pI ds i=B' d):∃v,pI xs i=B' v/\RV K A H v d:=by
 unfold pI at h ⊢;rw[g.length];cases e:qq ds.length i with
 |none=>rw[e]at h;cases h
 |some j=>rw[e]at h;obtain⟨v,Z,Y⟩:=g.getD h;exact#[v,Z,Y]
def rX(K:Frag):R2:=λx y H Q=>∃d e z,RV K N0 H x d/\RV K N0 H y e/\cD d e= .ok z/\∀v,PR K K' [x,y] [d,e] H z v H->Q v H
theorem JG:Mb X (rX X.K):=by
 intro l b S s O H x y v u Q I M ry h hs;obtain⟨d,e,z,L,m,P,q⟩:=h;unfold cD at P;split at P
 ·rename_i ds i;obtain⟨a,xs,rfl,Z,_,Y⟩:=L.lst_inv;have n:=uP P;obtain⟨w,k1,k2⟩:=k7 Y n;refine xC l b S s O H _ y v u Q I M ry #[a,xs,i,w,rfl,m.int_inv,d8.of Z,k1,q w #[bJ.refl _,λA _ t=>?_,λz=>by cases z]] hs;obtain⟨p,m1,o⟩:=k7 (gy.ff t.1 Z) n;rw[k1]at m1;cases m1;exact o
 ·rename_i ds i;obtain⟨a,xs,rfl,Z,Y⟩:=L.ao;have n:=uP P;obtain⟨w,k1,k2⟩:=k7 Y n;refine JI l b S s O H _ y v u Q I M ry #[a,xs,i,w,rfl,m.int_inv,fL.of Z,k1,q w #[bJ.refl _,λA _ t=>?_,λz=>by cases z]] hs;obtain⟨p,m1,o⟩:=k7 (gy.aV t.1 Z) n;rw[k1]at m1;cases m1;exact o
 ·rename_i ns i;obtain⟨a,rfl,Z⟩:=L.ke;have n:=uP P;have B:pI ((ns.map V.int)) i=B' (uJ z)/\rE z=J':=by
   unfold pI at n ⊢;rw[Xf]at n ⊢;cases e:qq ns.length i with
   |none=>rw[e]at n;cases n
   |some j=>
    rw[e]at n;simp only[Option.bind_some,Xp]at n ⊢;cases r:ns[j]? with
    |none=>rw[r]at n;cases n
    |some k=>rw[r]at n;simp at n;subst n;exact#[rfl,rfl]
  exact xC l b S s O H _ y v u Q I M ry #[a,_,i,_,rfl,m.int_inv,Z,B.1,q _<|PR.sc B.2] hs
 ·rename_i w i;obtain⟨g,P⟩:=aS P;split at P
  ·rename_i c K;cases P;exact JH l b S s O H _ y v u Q I M ry #[w,i,c,L.str_inv,m.int_inv,Xh (W7 g) cR,K,q _<|PR.sc rfl] hs
  ·cases P
 ·cases P
def rS(K:Frag):V->Option Int->Option Int->Hp->VK->Prop:=λx lo hi H Q=>∃d z,RV K N0 H x d/\iE d lo hi= .ok z/\∀v L,PR K J' [x] [d] H z v L->Q v L
theorem aq.cut{K:Frag}{lo hi:Option Int}(g:aq K A H xs ds):aq K A H (rT xs lo hi) (cutD ds lo hi):=by unfold rT cutD;rw[g.length];exact(g.drop _).take _
theorem uY{lo hi:Option Int}(h:HT.cF xs.length 0 lo=0/\HT.cF xs.length xs.length hi=xs.length):rT xs lo hi=xs:=by unfold rT;rw[h.1,h.2];simp
theorem qU:LF X (λx lo hi H Q=>∃a xs,x= .ref a/\H a=B' (.tup xs)/\(HT.cF xs.length 0 lo=0/\HT.cF xs.length xs.length hi=xs.length)/\Q (.ref a) H):=by
 intro S s O H x v o i lo hi t Q I M w pl c h;obtain⟨a,xs,rfl,L,y,q⟩:=h;cases M;obtain⟨J,r,ht,k⟩:=I.tuple<|fL.of L;have E:J.toArray.size=xs.length:=by rw[W6];exact r.length.symm
 refine#["tuple",_,Y9.lookup,ht.typeIs,?_];refine HT.iB ht w pl c (by rw[E];exact y) #[.ref a,H,I,rfl,q] (by rw[E];exact k)
theorem jv{K:Frag}:∀{ns:List Int},aq K A H (ns.map V.int) (ns.map Dt.int)
 |[]=>aq.nil
 |_::_=>aq.cons RV.fS jv
theorem Df:LF X (rS X.K):=by
 intro S s O H x v o i lo hi t Q I M hs pl c h;obtain⟨d,z,L,P,q⟩:=h;unfold iE at P;split at P
 ·cases P;obtain⟨a,xs,rfl,Z,_,Y⟩:=L.lst_inv;exact yx S s O H _ v o i lo hi t Q I M hs pl c #[a,xs,rfl,d8.of Z,λp J=>q _ _<|PR.qB J λA w=>(gy.ff w.1 Z).cut]
 ·cases P;obtain⟨a,rfl,Z⟩:=L.ke;exact yx S s O H _ v o i lo hi t Q I M hs pl c #[a,_,rfl,Z,λp J=>q _ _<|PR.qB J λA w=>aq.cut jv]
 ·cases P;obtain⟨a,xs,rfl,Z,Y⟩:=L.ao;by_cases y:HT.cF xs.length 0 lo=0/\HT.cF xs.length xs.length hi=xs.length
  ·refine qU S s O H _ v o i lo hi t Q I M hs pl c #[a,xs,rfl,Z,y,q _ _<|PR.xF Z λA w=>?_];have:=(gy.aV w.1 Z).cut (lo:=lo) (hi:=hi);rw[uY y]at this;exact this
  ·exact K6 S s O H _ v o i lo hi t Q I M hs pl c #[a,xs,rfl,fL.of Z,y,λp J=>q _ _<|PR.J3 J λA w=>(gy.aV w.1 Z).cut]
 ·obtain⟨g,P⟩:=aS P;cases P;exact Mx.K5 S s O H _ v o i lo hi t Q I M hs pl c #[_,L.str_inv,Xh (W7 g) cR,q _ _<|PR.sc rfl]
 ·cases P
theorem jw{K:Frag}:∀{xs:List V}{ds:List Dt}{ns:List Int},aq K A H xs ds->intsOf ds=B' ns->xs=ns.map V.int
 |xs,[],ns,g,h=>by simp[intsOf]at h;subst h;exact g.nil_inv
 |xs,d::ds,ns,g,h=>by
  obtain⟨x,r,rfl,I,g2⟩:=g.cons_inv;cases d with
  |int i=>simp only[intsOf,Xl]at h;obtain⟨ms,Z,rfl⟩:=h;rw[jw g2 Z,I.int_inv];rfl
  |_=>simp[intsOf]at h
theorem tX{K:Frag}:∀{xs:List V}{ds:List Dt}{ns:List Str},aq K A H xs ds->strsOf ds=B' ns->xs=ns.map V.str
 |xs,[],ns,g,h=>by simp[strsOf]at h;subst h;exact g.nil_inv
 |xs,d::ds,ns,g,h=>by
  obtain⟨x,r,rfl,I,g2⟩:=g.cons_inv;cases d with
  |str i=>simp only[strsOf,Xl]at h;obtain⟨ms,Z,rfl⟩:=h;rw[tX g2 Z,I.str_inv];rfl
  |_=>simp[strsOf]at h
theorem iK:∀{l g:List Mx.D},l.Perm g->(l.Pairwise λa b=>Mx.D.lt b a=K')->(g.Pairwise λa b=>Mx.D.lt b a=K')->l=g
 |[],g,p,_,_=>(List.nil_perm.mp p).symm
 |a::t,g,p,Z,Y=>by
  cases g with
  |nil=>exact absurd p.length_eq (by simp)
  |cons b t'=>
   rw[YN]at Z Y;have fP:a=b:=by
    have ha:=p.mem_iff.mp Xc;have M:=p.mem_iff.mpr Xc;rcases Xi.mp ha with e|ha
    ·exact e
    rcases Xi.mp M with e|M
    ·exact e.symm
    exact Mx.D.fw a b (Y.1 a ha) (Z.1 b M)
   subst fP;rw[iK (List.perm_cons a |>.mp p) Z.2 Y.2]
theorem mV(ms):(aG ms).Perm ms/\(aG ms).Pairwise λa b=>Mx.D.lt b a=K':=by
 refine#[List.mergeSort_perm ms ll,?_];have h:=List.pairwise_mergeSort (le:=ll) (λa b c Z Y=>by
  unfold ll at *;simp only[X4]at *;cases u:Mx.D.lt c a with
  |false=>rfl
  |true=>
   rcases Mx.MD.negTrans c b a u with h|h
   ·have h:Mx.D.lt c b=J':=h;rw[Y]at h;cases h
   ·have h:Mx.D.lt b a=J':=h;rw[Z]at h;cases h) (λa b=>by
  unfold ll;cases h:Mx.D.lt b a with
  |false=>rfl
  |true=>
   cases h':Mx.D.lt a b with
   |false=>rfl
   |true=>have:=Mx.D.lt_trans a b a h' h;rw[Mx.D.lt_irrefl]at this;cases this) ms
 exact h.imp λq=>by unfold ll at q;simpa using q
theorem mU(h:Mx.gC ms es):es=aG ms:=iK (h.1.trans (mV ms).1.symm) h.2 (mV ms).2
theorem JJ(h:NQ k d=J'):k.ok d:=by
 unfold NQ at h;split at h
 ·have e:=Xt h;subst e;exact#[_,_,rfl]
 ·have e:=Xt h;subst e;exact#[_,_,rfl]
 ·have e:=Xt h;subst e;exact#[_,_,rfl]
 ·have e:=Xt h;subst e;exact#[_,rfl]
 ·have e:=Xt h;subst e;exact#[_,rfl]
 ·cases h
theorem wJ(h:je ms=J'):Mx.i8 ms:=by
 unfold je at h;rw[W5,XQ]at h;obtain⟨Z,Y⟩:=h;refine#[Z,λu=>?_];rcases Y with Y|Y
 ·have:=W7 Y;omega
 ·rw[W5,W5]at Y;obtain⟨⟨Q,n⟩,l⟩:=Y;refine#[W7 Q,?_,λd hd e P=>xJ<|XI.mp (XI.mp l d hd) e P];obtain⟨k,_,g⟩:=XJ.mp n;exact#[k,λd hd=>JJ<|XI.mp g d hd]
theorem pW:∀(ys:List Str)(y:Str),y∈dd ys↔y∈ys
 |[],y=>by simp[dd]
 |x::r,y=>by
  unfold dd;by_cases h:x∈dd r
  ·rw[Zn h,pW r y,Xi];constructor
   ·exact .inr
   ·rintro(rfl|q)
    ·exact(pW r y).mp h
    ·exact q
  ·rw[Zm h,Xi,Xi,pW r y]
theorem lN:∀ys:List Str,(dd ys).Nodup
 |[]=>List.nodup_nil
 |x::r=>by
  unfold dd;by_cases h:x∈dd r
  ·rw[Zn h];exact lN r
  ·rw[Zm h];exact YL.mpr #[h,lN r]
theorem nY{α:Type}[DecidableEq α]{a b:List α}(t:a.Nodup)(M:b.Nodup)(h:∀x,x∈a↔x∈b):a.Perm b:=by rw[List.perm_iff_count];intro x;rw[t.count,M.count];simp[h x]
theorem uZ:∀ys:List Str,(dd ys).length<=ys.length
 |[]=>Xb _
 |x::r=>by
  have:=uZ r;unfold dd;by_cases h:x∈dd r
  ·rw[Zn h,Xo];lia
  ·rw[Zm h,Xo,Xo];lia
end
end Rx
end
section
namespace Mx
open PySem PySem.Spec PyProof.Rows L2 PySem.SeqAt
theorem FI:typeLookup (.type "tuple") "keys"=pure G':=by rw[typeLookup_type,builtinLookup_eq_fast];kernel_rfl
section
variable{prog:Program}{w:World}{A:Around}{E:Value->Shared->Prop}{s:Shared}
theorem zA(O:gD s.heap a ak)(hA:A.handled=G')
  (h:∀h' tk,(∀b o,s.heap.get? b=B' o->h'.get? b=B' o)->Q G' {s with heap:=h',toks:=tk}):wpAny (model prog w) A (getAttr? (.ref a) "keys") Q E s:=by
 obtain⟨⟨c,PP,dat,sl⟩,L,K,k,j,hd,_⟩:=O;simp only at K j hd;subst K j hd;obtain⟨J,g,d,tk,os⟩:=s;have v:∀t,(#[J,g,d,t,os]:Shared).TypeIs (.ref a) "tuple":=λ_=>#[_,L,rfl]
 have Y:=sub_AttributeError;have f3:=PySem.F.slot_tuple_getattribute.lookup;have m:=PySem.F.slot_tuple_getattribute.bind<|.ref a;have F:=am_tuple_getattr_none;unfold getAttr? getAttrBy? getAttrBy
 repeat (any_goals (first|assumption|exact v _|((with_reducible show wpAny _ _ (call (Value.builtin "tuple.__getattribute__") _ _) _ _ _);refine Zi PySem.F.slot_tuple_getattribute (v _) am_entry_tuple_getattribute (PySem.F.args_tuple_getattribute_2 _ _) (meets_getattribute_miss_tuple a ak k sl "keys" _ FI (by decide)<|by size_fits) #[L,hA,λh' t e I=>?_])|wp_step))
 obtain⟨t',i,P⟩:=I.there;show wpAny _ _ (getattributeRaised _ _ _ _ _ _ _) _ _ _;unfold getattributeRaised
 repeat (any_goals (first|assumption|wp_step))
 exact h _ _ I.keeps
theorem nC:entryFor table "dict.update.loop"=B' Builtin.«dict.update.loop»:=entryFor_of_fast (by kernel_rfl)
theorem f9:plainId "dict.update.loop"=J':=by decide +kernel
def PU(h:Heap)(d it:Addr)(u:Value)(p:Str×Value):Prop:=∃q t,u= .ref q/\q≠d/\q≠it/\h.IsTuple q [.str p.1 t,p.2].toArray
theorem S8(g:d≠it)(V0:t≠it)(VZ:t≠d)(y:A.in1.handled=G'):∀(S:List Value)(ps:List (Str×Value))(done:List Value)(W:List (Key×Value))(i:Int)(s:Shared),
  s.heap.IsTupleIter it t done.length->s.heap.IsTuple t (done++S).toArray->s.heap.DictOf (aR prog w) d W->Paired (PU s.heap d it) S ps->
  ((W++ps.map λp=>((.inr p.1:Key),p.2)).map (·.1)).Nodup->W.length+ps.length<=sizeLine->
  (∀h' tk,(∀b o,b≠d->b≠it->s.heap.get? b=B' o->h'.get? b=B' o)->h'.DictOf (aR prog w) d (W++ps.map λp=>((.inr p.1:Key),p.2))->R (.ok<|.ret .none) {s with heap:=h',toks:=tk})->
  codeAny (model prog w) A (.builtin "dict.update.loop" #[[.ref d,.ref it,.int i 0,.none],[]]) R s:=by
 intro S
 induction S with
 |nil=>intro ps done W i s Z Y h3 Q n l h;cases Q;refine codeAny_builtin nC ?_;rw[Around.under_plainId f9 _];show wpAny _ A.in1 (pyNext (.ref it) >>=_) _ _ s;refine W1<|wpAny_pyNext_tuple_end y Z Y (by simp) λh' eb=>?_;show wpAny _ A.in1 (Builtin.Dict.addKeywords d [] >>=_) _ _ _;refine W1<|W4<|W4 ?_;exact h h' s.toks (λb o _ M e=>eb b o M e) (by simpa using h3.extBut eb g)
 |cons u S ih=>
  intro ps done W i s Z Y h3 Q n l h;cases Q with
  |@cons _ p _ ps J I=>
   obtain⟨q,H,rfl,WS,VU,F⟩:=J;refine codeAny_builtin nC ?_;rw[Around.under_plainId f9 _];show wpAny _ A.in1 (pyNext (.ref it) >>=_) _ _ s;refine W1<|wpAny_pyNext_tuple_item Z Y (x:=.ref q) (by simp) λh' g1 r=>?_;have a:h'.IsTuple q [.str p.1 H,p.2].toArray:=F.extBut r.extBut VU;have sI:h'.DictOf (aR prog w) d W:=h3.sameBut r g;dsimp only;refine W1<|Zz<|W1<|wpAny_tryCatch ?_;unfold Builtin.Dict.pairItems;refine W1<|ZL (show Shared.TypeIs {s with heap:=h'} (.ref q) "tuple" from a.typeIs) ?_;rw[Zn (by decide)];obtain⟨oq,B,_,nq,E⟩:=a;refine W1<|ZI B E<|W4 ?_;show wpAny _ _ (holding [.str p.1 H,p.2]<|dictSet d (.str p.1 H) p.2) _ _ _;have P:W.any (λc=>decide (c.1= .inr p.1))=K':=by rw[Bool.eq_false_iff];intro z;obtain⟨c,m,e⟩:=XJ.mp z;rw[XU,XT,XT,List.nodup_append]at n;exact n.2.2 _ (XH.mpr #[c,m,rfl]) _ Xc (W7 e)
   refine Zz<|wpAny_dictSet_pairs (knd:=aR prog w) (k:=.inr p.1) (dF _ _ _ _) sI (λl0 k1 k2=>?_) ⋯;have keep:∀b o,b≠d->b≠it->s.heap.get? b=B' o->l0.get? b=B' o:=λb o M hi e=>(k2.2 b M).trans ((r.2 b hi).trans e)
   have K:stored W (.inr p.1) p.2=W++[(.inr p.1,p.2)]:=by unfold stored;rw[Zm (by rw[P];exact X3)]
   rw[K]at k1;refine W4 #[plainId_quiet f9 _,ih ps (done++[.ref q]) (W++[(.inr p.1,p.2)]) (i+1) _ ?_ ?_ k1 ?_ ?_ ?_ λrq tk kp kd=>?_]
   ·obtain⟨o,a1,L⟩:=g1;rw[Xm];exact#[o,(k2.2 it<|Y6 g).trans a1,L]
   ·obtain⟨o,a1,L⟩:=Y;rw[Xk];exact#[o,keep _ _ VZ V0 a1,L]
   ·refine Paired.imp' (λv z#[O,tz,a1,L,j,o,X,a5]=>#[O,tz,a1,L,j,o,keep _ _ L j X,a5]) I
   ·simpa [Xk]using n
   ·simp only[Xm,Xo,Yv]at l ⊢;lia
   ·refine h rq tk (λb o M hi e=>kp b o M hi<|keep b o M hi e) (by simpa [Xk]using kd)
end
section
variable{X:Cx}
def Sn:List V->Hp->VK->Prop:=λc H Q=>∃a xs ps,c=[.ref a]/\H a=B' (.tup xs)/\Paired (λ(x:V)(p:Str×V)=>∃q,x= .ref q/\H q=B' (.tup [.str p.1,p.2])) xs ps/\(ps.map (·.1)).Nodup/\
 ∀p,H p=G'->Q (.ref p) (upd H p<|.dK<|ps.map λp=>(.inr p.1,p.2))
theorem Cu(hok:dZ P w H h):∀{ys:List V}{ps:List (Str×V)}{ak:List Value},Paired (λ(x:V)(p:Str×V)=>∃q,x= .ref q/\H q=B' (.tup [.str p.1,p.2])) ys ps->au ys ak->
  ∃l:List (Str×Value),Paired (λ(u:Value)(p:Str×Value)=>∃q t,u= .ref q/\h.IsTuple q [.str p.1 t,p.2].toArray) ak l/\KV (ps.map λp=>((.inr p.1:Key),p.2)) (l.map λp=>((.inr p.1:Key),p.2)):=by
 intro ys ps ak J
 induction J generalizing ak with
 |nil=>intro r;cases r;exact#[[],.nil,.nil]
 |@cons x p _ _ Z _ ih=>
  intro r;cases r with
  |cons m rt=>obtain⟨q,rfl,F⟩:=Z;cases m;obtain⟨_,c,rv,B⟩:=(show cu P w H h q (.tup [.str p.1,p.2]) from hok q _ F);obtain⟨W,n,rfl,⟨t,rfl⟩,r2⟩:=rv.two;obtain⟨l,I,g2⟩:=ih rt;exact#[(p.1,n)::l,.cons #[q,t,rfl,B.is] I,.cons #[rfl,r2] g2]
theorem mC:∀{ps:List (Str×V)}{l:List (Str×Value)},KV (ps.map λp=>((.inr p.1:Key),p.2)) (l.map λp=>((.inr p.1:Key),p.2))->l.map (·.1)=ps.map (·.1)
 |[],[],_=>rfl
 |[],_::_,h=>by cases h
 |_::_,[],h=>by cases h
 |p::ps,q::v,h=>by
  cases h with
  |cons Z Y=>rw[XT,XT,mC Y,Sum.inr.inj Z.1]
theorem AR(K:X.calm=J'):dQ X (.type "dict") Sn:=by
 intro S s O H xs i Q I r h;obtain⟨a,ys,ps,rfl,ha,J,P,q⟩:=h;obtain⟨u,rfl,m⟩:=r.one;cases m;obtain⟨k,ak,F,B⟩:=(show cu X.prog X.w H s.heap a (.tup ys) from I.hok a _ ha);have c:X.A.handled=G':=I.ok.hd K;refine callType_codes (Q₁:=λobj s₁=>obj= .ref s.heap.objs.size/\s₁={s with heap:=s.heap.push {cls:=.type "dict",data:=.dict #[]}}) PySem.F.kt_called_dict (PySem.F.kt_typeCall_dict_1 _) PySem.F.entry_dict_init (kt_code_dict_new _ #[rfl,rfl]) ?_;rintro obj s₁ ⟨rfl,rfl⟩;have w:(s.heap.push {cls:=.type "dict",data:=.dict #[]}).DictOf (aR X.prog X.w) s.heap.objs.size []:=Heap.DictOf.new s.heap;have M:(s.heap.objs.size==sysModules)=K':=Zg.mpr<|Y6<|XB<|Nat.lt_trans (by decide) (I.mod.glob.keeps I.bk).lt;have Uq:∀b o,s.heap.get? b=B' o->(s.heap.push {cls:=.type "dict",data:=.dict #[]}).get? b=B' o:=λb o e=>W3 _ e
 have S5:gD (s.heap.push {cls:=.type "dict",data:=.dict #[]}) a ak.toArray:=by obtain⟨o,e,z⟩:=B;exact#[o,Uq _ _ e,z]
 refine#[w.typeIs,PySem.F.args_dict_init_2 _ _,?_];unfold Builtin.«dict.__init__»;refine W1 ?_;unfold Builtin.Dict.selfAndRest;refine W1<|wpAny_notOrdered_dict w.typeIs<|W4 ?_;show wpAny _ _ (Builtin.Dict.updateFrom "dict.__init__" s.heap.objs.size (.ref a) [] .none) _ _ _;unfold Builtin.Dict.updateFrom;refine W1<|ZL S5.is.typeIs ?_;rw[Zn (by decide)];refine W1<|zA S5 c λZ Y k1=>?_;rw[Zn (by rfl)];refine W1<|ZH ?_;have Wu:gD Z a ak.toArray:=by obtain⟨o,e,z⟩:=S5;exact#[o,k1 _ _ e,z]
 refine W1<|ZG (show Heap.IsTuple (Shared.heap {s with heap:=Z,toks:=Y}) a ak.toArray from Wu.is) ?_;obtain⟨l,g1,g2⟩:=Cu I.hok J F;have lt:∀{b o},s.heap.get? b=B' o->b<s.heap.objs.size:=λe=>Xg e
 have Jj:Z.DictOf (aR X.prog X.w) s.heap.objs.size []:=by obtain⟨o,es,ep,e,z⟩:=w;exact#[o,es,ep,k1 _ _ e,z]
 have df:s.heap.objs.size<Z.objs.size:=by obtain⟨o,es,ep,e,z⟩:=Jj;exact Xg e
 have R7:∀b o,s.heap.get? b=B' o->(Z.push {cls:=.type "tuple_iterator",data:=.fields [.ref a,.int 0 0].toArray}).get? b=B' o:=λb o e=>W3 _ (k1 _ _<|Uq _ _ e)
 have LN:a<s.heap.objs.size:=by obtain⟨o,e,_⟩:=B;exact lt e
 have W:l.length=ps.length:=by have:=g2.length;simpa using this.symm
 have kP:ps.length=ys.length:=J.length.symm;have g:l.map (·.1)=ps.map (·.1):=mC g2;refine W4 #[plainId_quiet f9 _,S8 (A:=X.A.in1) (XB df) (XB<|Nat.lt_trans LN df) (XB LN) c ak l [] [] 0 _ #[_,Xd _ rfl,rfl,rfl] ?_ (Jj.push _) ?_ ?_ ?_ λh' tk kp kd=>?_]
 ·obtain⟨o,e,z⟩:=B.is;exact#[o,R7 _ _ e,z]
 ·exact Paired.imp' (λv z#[q,t,E,o,L,j]=>#[q,t,E,XB<|lt L,XB<|Nat.lt_trans (lt L) df,o,R7 _ _ L,j]) g1
 ·rw[YK,YC];have:(l.map<|(λx=>x.1) ∘ λp=>((.inr p.1:Key),p.2))=(l.map (·.1)).map Sum.inr:=by rw[YC];rfl
  rw[this,g];exact List.Pairwise.map Sum.inr (λx y n z=>n<|Sum.inr.inj z) P
 ·simp only[Yv];lia
 ·refine#[rfl,.ref s.heap.objs.size,upd H s.heap.objs.size<|.dK<|ps.map λp=>(.inr p.1,p.2),I.laid (t':=tk) (a:=s.heap.objs.size) (λb o e=>kp b o (XB<|lt e) (XB<|Nat.lt_trans (lt e) df)<|R7 b o e) (Xb _) #[by rw[Xf];lia,M,_,g2,by simpa using kd],rfl,q _<|I.hok.fresh<|Xb _]
def GU(y:Str):List (Key×V)->Option V
 |[]=>G'
 |p::r=>if p.1= .inr y then B' p.2 else GU y r
theorem GV(r:KV a9 vs)(y):Ax (GU y a9) (valueAt vs<|.inr y):=by
 unfold KV at r
 induction r with
 |nil=>exact trivial
 |@cons p q _ _ h _ ih=>
  unfold GU valueAt;rw[List.find?_cons];by_cases e:p.1= .inr y
  ·rw[Zn e,Xz (h.1.symm.trans e)];exact h.2
  ·rw[Zm e,Xv λz=>e<|h.1.trans z];exact ih
def Oq:V->List V->Hp->VK->Prop:=λx c H Q=>∃p j y v,x= .ref p/\c=[.str y,v]/\H p=B' (.dK j)/\Q ((GU y j).getD v) H
theorem FE:Md X "dict.get" Oq:=by
 intro S s O H x c v i Q I M rv h;obtain⟨p,j,y,d,rfl,rfl,J,q⟩:=h;cases M;obtain⟨W,n,rfl,⟨t,rfl⟩,r2⟩:=rv.two;obtain⟨_,sm,c,r,A⟩:=(show cu X.prog X.w H s.heap p (.dK j) from I.hok p _ J);refine call_meetsIn PySem.F.slot_dict_get A.typeIs PySem.F.entry_dict_get (PySem.F.args_dict_get_3 _ _ _) (meets_dict_get_default (aR X.prog X.w) p (k:=.inr y) (dF _ _ _ _) sm n) #[_,A.mapOf,?_];refine#[(GU y j).getD d,H,I.tok _,?_,q];have z:=GV r y;cases Z:GU y j with
 |none=>
  rw[Z]at z;cases Y:valueAt c (.inr y) with
  |none=>exact r2
  |some _=>rw[Y]at z;exact z.elim
 |some v1=>
  rw[Z]at z;cases Y:valueAt c (.inr y) with
  |none=>rw[Y]at z;exact z.elim
  |some _=>rw[Y]at z;exact z
theorem J8{O:L2.St}(I:Inv X M' O H s)(h:H p=B' (.dK a9)):s.TypeIs (.ref p) "dict"/\∀a,Value.ref p= .ref a->∃m,s.heap.get? a=B' m/\m.dict=G':=by obtain⟨_,_,_,_,o,_,_,Z,Y,_⟩:=(show cu X.prog X.w H s.heap p (.dK a9) from I.hok p _ h);exact#[#[o,Z,Y.1],λa e=>by cases e;exact#[o,Z,Y.2.1]]
def HM:V->List V->Hp->VK->Prop:=λx c H Q=>∃l b xs w,x= .ref l/\c=[.ref b]/\H l=B' (.lst xs)/\(H b=B' (.lst w)\/H b=B' (.tup w))/\xs.length+w.length<=sizeLine/\Q .bX (upd H l<|.lst<|xs++w)
theorem FC:LB X "list.extend" HM:=by
 intro S s O H x vs v i Q I M rv h;obtain⟨l,b,xs,w,rfl,rfl,A,g|g,k,q⟩:=h
 ·exact zG S s O H _ _ v i Q I M rv #[l,b,xs,w,rfl,rfl,A,g,k,q]
 cases M;obtain⟨u,rfl,m⟩:=rv.one;cases m;obtain⟨z,J,n,r,W,e⟩:=I.qw A;obtain⟨j,o,r2,⟨c,dd,p,t⟩,E,w1,P,w2,K,a⟩:=(show cu X.prog X.w H s.heap b (.tup w) from I.hok b _ g);simp only at w1 w2 K a;subst w1 w2 K a;have k1:=r.length;have k2:=r2.length;have la:J.toArray.size+o.toArray.size<=sizeLine:=by rw[W6,W6];lia
 refine Zi F.slot_list_extend #[_,e,rfl] F.entry_list_extend (F.args_list_extend_2 _ _)
  (AutoSeq1.list_extend_list_tuple_0 l J.toArray n b o.toArray P (by rw[sX la,XY];exact X3) ⋯ ⋯) #[e,E,?_]
 exact#[.bX,_,I.zF (its':=J++o) A e (by simp) (r.append r2)<|by rw[Xm];lia,rfl,q]
end
end Mx
end
section
namespace Rx
open PySem PySem.W PySem.Spec PyProof.Rows L2 PySem.SeqAt
section
variable{X:Cx}
def LH:BI->Value
 |.len=>.builtin "len"|.min2=>.builtin "min"|.max2=>.builtin "max"|.sum=>.builtin "sum"
 |.sorted=>.builtin "sorted"|.tuple=>.type "tuple"|.list=>.type "list"|.dict=>.type "dict"|_=>.none
def KI:BI->Bool
 |.isi _=>K'|.sset=>K'|_=>J'
theorem bO{K:Frag}(h:aq K A H xs [d]):∃x,xs=[x]/\RV K A H x d:=by obtain⟨x,r,rfl,Z,Y⟩:=h.cons_inv;rw[Y.nil_inv];exact#[x,rfl,Z]
theorem lE{K:Frag}(h:aq K A H xs [d,e]):∃x y,xs=[x,y]/\RV K A H x d/\RV K A H y e:=by obtain⟨x,r,rfl,Z,Y⟩:=h.cons_inv;obtain⟨y,rfl,u⟩:=bO Y;exact#[x,y,rfl,Z,u]
theorem rZ(h:Bg d=B' p):d= .tup [.str p.1,p.2]:=by
 unfold Bg at h;split at h
 ·split at h
  ·split at h
   ·cases h;rfl
   ·cases h
  ·cases h
 ·cases h
theorem r8{K:Frag}:∀{ds:List Dt}{ps:List (Str×Dt)}{xs:List V},zd ds=B' ps->aq K A H xs ds->∃v:List (Str×V),Paired (λ(x:V)(p:Str×V)=>∃q,x= .ref q/\H q=B' (.tup [.str p.1,p.2])) xs v/\True
 |[],ps,xs,h,r=>by cases r.nil_inv;exact#[[],.nil,trivial]
 |d::ds,ps,xs,h,r=>by obtain⟨x,m,rfl,F,r2⟩:=r.cons_inv;obtain⟨p,Z,h⟩:=W2.mp h;obtain⟨pr,Y,rfl⟩:=Xl.mp h;obtain⟨v,I,_⟩:=r8 Y r2;rw[rZ Z]at F;obtain⟨a,w,rfl,B,E⟩:=F.ao;obtain⟨O,j,rfl,w1,w2⟩:=lE E;have:=w1.str_inv;subst this;exact#[(p.1,j)::v,.cons #[a,rfl,B] I,trivial]
theorem gY{K:Frag}:∀{ds:List Dt}{ps:List (Str×Dt)}{xs:List V}{v:List (Str×V)},zd ds=B' ps->Paired (λ(x:V)(p:Str×V)=>∃q,x= .ref q/\H q=B' (.tup [.str p.1,p.2])) xs v->aq K A H xs ds->v.map (·.1)=ps.map (·.1)/\aq K A H (v.map (·.2)) (ps.map (·.2))
 |[],ps,xs,v,h,g,r=>by cases r.nil_inv;cases g;cases h;exact#[rfl,aq.nil]
 |d::ds,ps,xs,v,h,g,r=>by
  obtain⟨x,m,rfl,F,r2⟩:=r.cons_inv;obtain⟨p,Z,h⟩:=W2.mp h;obtain⟨pr,Y,rfl⟩:=Xl.mp h;cases g with
  |@cons _ q _ v g1 g2=>obtain⟨k1,k2⟩:=gY Y g2 r2;rw[rZ Z]at F;obtain⟨a,w,rfl,B,E⟩:=F.ao;obtain⟨b,L,J⟩:=g1;cases L;rw[B]at J;cases J;obtain⟨O,j,c,w1,w2⟩:=lE E;cases c;have:=w1.str_inv;injection this with this;exact#[by rw[XT,XT,k1,this],aq.cons w2 k2]
theorem Ei(b)(hr:KI b=J')(K:X.calm=J')(hu:X.A.units+150<cLine):dQ X (LH b) (rP X.K J'<|dU b):=by
 intro S s O H xs i Q I r h;obtain⟨ds,d,L,P,q⟩:=h;have Nj:=cR;unfold dU at P;split at P
 ·split at P
  ·obtain⟨g,P⟩:=aS P;cases P;obtain⟨x,rfl,Z⟩:=bO L;exact jd S s O H _ i Q I r #[x,_,rfl,by rw[Z.str_inv];exact#[Xh (W7 g) Nj,rfl],q _ _<|PR.sc rfl]
  ·cases P;obtain⟨x,rfl,Z⟩:=bO L;obtain⟨a,ys,rfl,Y,_,u⟩:=Z.lst_inv;exact jd S s O H _ i Q I r #[_,_,rfl,.inl #[ys,d8.of Y,rfl],by rw[u.length];exact q _ _<|PR.sc rfl]
  ·cases P;obtain⟨x,rfl,Z⟩:=bO L;obtain⟨a,ys,rfl,Y,u⟩:=Z.ao;exact jd S s O H _ i Q I r #[_,_,rfl,.inr #[ys,fL.of Y,rfl],by rw[u.length];exact q _ _<|PR.sc rfl]
  ·cases P;obtain⟨x,rfl,Z⟩:=bO L;obtain⟨a,rfl,Y⟩:=Z.ke;exact jd S s O H _ i Q I r #[_,_,rfl,.inl #[_,Y,rfl],by rw[Xf];exact q _ _<|PR.sc rfl]
  ·cases P
 ·split at P
  ·cases P;obtain⟨x,y,rfl,Z,Y⟩:=lE L;exact yU K S s O H _ i Q I r #[_,_,by rw[Z.int_inv,Y.int_inv],q _ _<|PR.sc rfl]
  ·cases P
 ·split at P
  ·cases P;obtain⟨x,y,rfl,Z,Y⟩:=lE L;exact yT K S s O H _ i Q I r #[_,_,by rw[Z.int_inv,Y.int_inv],q _ _<|PR.sc rfl]
  ·cases P
 ·split at P
  ·split at P
   ·rename_i ns uD;cases P;obtain⟨x,rfl,Z⟩:=bO L;obtain⟨a,ys,rfl,Y,_,u⟩:=Z.lst_inv;rw[jw u uD]at Y;exact Mx.AU K S s O H _ i Q I r #[a,ns,rfl,d8.of Y,q _ _<|PR.sc rfl]
   ·cases P
  ·split at P
   ·rename_i ns uD;cases P;obtain⟨x,rfl,Z⟩:=bO L;obtain⟨a,ys,rfl,Y,u⟩:=Z.ao;rw[jw u uD]at Y;exact Mx.yV K S s O H _ i Q I r #[a,ns,rfl,Y,q _ _<|PR.sc rfl]
   ·cases P
  ·cases P
 ·split at P
  ·rename_i d0;split at P
   ·rename_i es n;split at P
    ·rename_i ms zq;obtain⟨g,P⟩:=aS P;cases P;have cs:=wJ g;obtain⟨x,rfl,Z⟩:=bO L;have MF:=fU zq;have go:∀{a:Addr}{ys:List V},x= .ref a->(d8 X.K H a ys\/fL X.K H a ys)->aq X.K N0 H ys es->wpAny (model X.prog X.w) X.A (call (LH .sorted) i) (EP X S O Q) X.xe s:=by intro a ys ex hs g;subst ex;rw[MF]at g;refine Mx.pQ hu S s O H _ i Q I r #[a,ys,ms,rfl,hs,g.u7,cs,λm zs v hm k t=>q _ _ ?_];have e:=mU t;subst e;exact PR.qB hm λA _=>aq.my k
     unfold itemsOf at n;split at n
     ·cases n;obtain⟨a,ys,B,Y,_,u⟩:=Z.lst_inv;exact go B (.inl<|d8.of Y) u
     ·cases n;obtain⟨a,ys,B,Y,u⟩:=Z.ao;exact go B (.inr<|fL.of Y) u
     ·cases n;obtain⟨a,B,Y⟩:=Z.ke;exact go B (.inl Y) jv
     ·cases n
    ·cases P
   ·cases P
  ·cases P
 ·split at P
  ·cases P;obtain⟨x,rfl,Z⟩:=bO L;obtain⟨a,ys,rfl,Y,_,u⟩:=Z.lst_inv;exact iF S s O H _ i Q I r #[a,ys,rfl,.inl #[d8.of Y,λl W=>q _ _<|PR.J3 W λA w=>gy.ff w.1 Y]]
  ·cases P;obtain⟨x,rfl,Z⟩:=bO L;obtain⟨a,ys,rfl,Y,u⟩:=Z.ao;exact iF S s O H _ i Q I r #[a,ys,rfl,.inr #[fL.of Y,q _ _<|PR.xF Y λA w=>gy.aV w.1 Y]]
  ·cases P
 ·split at P
  ·cases P;obtain⟨x,rfl,Z⟩:=bO L;obtain⟨a,ys,rfl,Y,_,u⟩:=Z.lst_inv;exact fM S s O H _ i Q I r #[a,ys,rfl,.inl<|d8.of Y,λl W=>q _ _<|PR.qB W λA w=>gy.ff w.1 Y]
  ·cases P;obtain⟨x,rfl,Z⟩:=bO L;obtain⟨a,ys,rfl,Y,u⟩:=Z.ao;exact fM S s O H _ i Q I r #[a,ys,rfl,.inr<|fL.of Y,λl W=>q _ _<|PR.qB W λA w=>gy.aV w.1 Y]
  ·cases P;obtain⟨x,rfl,Z⟩:=bO L;obtain⟨a,rfl,Y⟩:=Z.ke;exact fM S s O H _ i Q I r #[a,_,rfl,.inl Y,λl W=>q _ _<|PR.qB W λA w=>jv]
  ·cases P
 ·cases hr
 ·cases hr
 ·split at P
  ·split at P
   ·rename_i ds ps E;obtain⟨g,P⟩:=aS P;cases P;obtain⟨x,rfl,Z⟩:=bO L;obtain⟨a,ys,rfl,Y,u⟩:=Z.ao;obtain⟨v,g1,g2⟩:=r8 E u;refine Mx.AR K S s O H _ i Q I r #[a,ys,v,rfl,Y,g1,?_,λp J=>q _ _ ?_]
    ·rw[(gY E g1 u).1];exact W7 g
    ·have s':=Mx.cA J<|.dK<|v.map λp=>(.inr p.1,p.2);refine#[s',λA c w=>?_,λ_ es e=>by cases e];have M:=gy.aV w.1 Y;refine RV.Cg aB (λz=>?_) ?_ ?_
     ·obtain⟨o,e⟩:=c p z;rw[J]at e;cases e
     ·rw[YC,<-(gY E g1 u).1,YC];rfl
     ·have:=(gY E g1 M).2;rw[YC];exact this.same s'
   ·cases P
  ·cases P
end
end Rx
end
section
namespace Mx
open PySem PySem.Spec PyProof.Rows L2 PySem.SeqAt
noncomputable def pE(h:Heap):Hp:=λa=>open Classical in
 if hx:∃xs:List V,∃ak:List Value,xs.length<=sizeLine/\au xs ak/\gD h a ak.toArray then B' (.tup hx.choose) else G'
theorem om(e:pE h a=B' o):∃xs J,o= .tup xs/\xs.length<=sizeLine/\au xs J/\gD h a J.toArray:=by
 unfold pE at e;split at e
 ·rename_i L;cases e;obtain⟨J,Z⟩:=L.choose_spec;exact#[_,J,rfl,Z]
 ·cases e
theorem wB(Z:xs.length<=sizeLine)(Y:au xs J)(u:gD h a J.toArray):pE h a=B' (.tup xs):=by
 have L:∃xs:List V,∃J:List Value,xs.length<=sizeLine/\au xs J/\gD h a J.toArray:=#[xs,J,Z,Y,u];unfold pE;rw[dif_pos L];obtain⟨its',I,r,M⟩:=L.choose_spec;obtain⟨o,B,_,n,E,_⟩:=u;obtain⟨g,f1,_,y,Q,_⟩:=M;rw[B]at f1;cases f1;rw[E]at Q;injection Q with f3 _;have:J=its':=by simpa using f3
 subst this;rw[au.inj r Y]
section
variable{P:Program}{w:World}{H:Hp}
theorem pG(h:Heap):dZ P w (pE h) h:=λa o e=>by obtain⟨xs,J,rfl,Z,Y,u⟩:=om e;exact#[Z,J,Y,u]
theorem jY(hok:dZ P w H h):yP H (pE h):=λa xs e=>by obtain⟨Z,J,Y,u⟩:=hok a _ e;exact wB Z Y u
theorem yQ(g:∀a J,gD h a J->gD h' a J):yP (pE h) (pE h'):=λa xs e=>by obtain⟨_,J,q,Z,Y,u⟩:=om e;cases q;exact wB Z Y<|g _ _ u
end
theorem ite_no[Decidable c]{a b:Sem α}{Q:α->Shared->Prop}(K:¬c)(h:wpAny M A b Q E s):wpAny M A (if c then a else b) Q E s:=by rw[Zm K];exact h
theorem ite_yes[Decidable c]{a b:Sem α}{Q:α->Shared->Prop}(K:c)(h:wpAny M A a Q E s):wpAny M A (if c then a else b) Q E s:=by rw[Zn K];exact h
mutual
noncomputable def hD(w:World):D->Int
 |.int i=>JK w<|.inl i
 |.str x=>JK w<|.inr x
 |.tup ds=>reduceHash<|Builtin.Tuple.tupleHashOf<|Jh w ds
noncomputable def Jh(w:World):List D->List Int
 |[]=>[]
 |d::ds=>hD w d::Jh w ds
end
mutual
noncomputable def PQ:D->Nat
 |.int _=>1
 |.str _=>1
 |.tup ds=>p6 ds+1
noncomputable def p6:List D->Nat
 |[]=>0
 |d::ds=>PQ d+p6 ds
end
theorem l6(w):∀a b:List D,Jh w (a++b)=Jh w a++Jh w b
 |[],_=>rfl
 |d::a,b=>by simp[Jh,l6 w a b]
theorem kH:∀a b:List D,p6 (a++b)=p6 a+p6 b
 |[],b=>by simp[p6]
 |d::a,b=>by simp[p6,kH a b,Nat.add_assoc]
theorem kD:∀a b:List D,D.bq (a++b)=max (D.bq a) (D.bq b)
 |[],b=>by simp[D.bq]
 |d::a,b=>by simp[D.bq,kD a b,Nat.max_assoc]
section
variable{prog:Program}{w:World}{H:Hp}
theorem BK(X:A.units<cLine)(O:s.heap.IsTuple a ak.toArray)(J:List Value->List Int->Shared->Prop)(h0:J ak [] s)
  (g:∀{E:Value->Shared->Prop}v S c s1(R:Int->Shared->Prop),J (v::S) c s1->(∀k t,J S (c++[k]) t->R k t)->wpAny (model prog w) A.in1 (pyHash v) R E s1)
  (h:∀c s1,J [] c s1->Q (reduceHash<|Builtin.Tuple.tupleHashOf c) {s1 with toks:=s1.toks+1}):wpAny (model prog w) A (pyHash<|.ref a) Q E s:=by
 obtain⟨o,B,K,y,Z⟩:=O;have P:s.TypeIs (.ref a) "tuple":=#[o,B,K];have look:=PySem.F.slot_tuple_hash.lookup;unfold pyHash pyHashByItsType;refine W1<|wpAny_cRoomFor_or (.inr X)<|W1<|wpAny_specialOf P look ?_;have ne:¬(B' (Value.builtin "tuple.__hash__")==B' Value.none)=J':=λz=>by rw[beq_builtin_none]at z;cases z
 refine ite_no ne<|W1<|wpAny_specialOf P look<|W1<|wpAny_callSpecialIfBoundUnlessNone?_slot P PySem.F.slot_tuple_hash<|Zx PySem.F.slot_tuple_hash P PySem.F.entry_tuple_hash ?_<|PySem.F.args_tuple_hash_1 _;refine W1 (m:=Builtin.Tuple.tupleItemsOf<|.ref a)<|wpAny_tupleItemsOf B Z<|W1 ?_;rw[<-Array.forIn_toList];refine wpAny_forIn_list _ (λS(b:Array Int)l=>J S b.toList l) _ (λv S b s1 j=>?_) (λb s1 j=>?_) _ _ h0
 ·refine W1<|g v S _ s1 _ j λk t i=>?_;have n:J S (b.push k).toList t:=by rw[Array.toList_push];exact i
  first|exact W4 n|exact W1<|W4<|W4 n
 ·have q:=h _ _ j;unfold reduceHash at q;refine wpAny_ret_mkInt ?_;by_cases I:(decide (-(2:Int)^63<=Builtin.Tuple.tupleHashOf b.toList)&&decide (Builtin.Tuple.tupleHashOf b.toList<2^63))=J'
  ·rw[Zn I]at q;exact ite_yes I<|W4 q
  ·rw[Zm I]at q;exact ite_no I<|W1<|ZH<|W4 q
theorem zk:∀(n:Nat){d:D}{x:V}{u:Value}{A:Around}{E:Value->Shared->Prop}{s:Shared}{Q:Int->Shared->Prop},D.dep d<=n->A.units+n<cLine->dZ prog w H s.heap->DV H x d->RelV x u->
  Q (hD w d) {s with toks:=s.toks+PQ d}->wpAny (model prog w) A (pyHash u) Q E s:=by
 intro n
 induction n with
 |zero=>
  intro d x u A E s Q hd X hok L M h;cases d with
  |int i=>have:=L.int_inv;subst this;obtain⟨t,rfl⟩:=M;exact(aR prog w).pyHash (sT prog w i t) h
  |str i=>have:=L.str_inv;subst this;obtain⟨t,rfl⟩:=M;exact(aR prog w).pyHash (dF prog w i t) h
  |tup ds=>unfold D.dep at hd;lia
 |succ n ih=>
  intro d x u A E s Q hd X hok L M h;cases d with
  |int i=>exact ih (d:=.int i) (by unfold D.dep;lia) ⋯ hok L M h
  |str i=>exact ih (d:=.str i) (by unfold D.dep;lia) ⋯ hok L M h
  |tup ds=>
   obtain⟨a,xs,q,B,e2⟩:=L.ao;subst q;cases M;obtain⟨J,F,O⟩:=aV hok B;have qk:D.bq ds<=n:=by unfold D.dep at hd;lia
   refine BK ⋯ O (λS c l=>∃done left ys,ds=done++left/\bj H ys left/\au ys S/\c=Jh w done/\l={s with toks:=s.toks+p6 done}) #[[],ds,xs,rfl,e2,F,rfl,rfl] ?_ ?_
   ·rintro j v S c s1 R ⟨done,left,ys,rfl,W,I,rfl,rfl⟩ k;cases I with
    |@cons y1 _ b _ r2 t2=>
     cases left with
     |nil=>cases W.nil_inv
     |cons p left=>
      obtain⟨_,_,q,g1,r⟩:=W.cons_inv;cases q;have hm:max (D.bq done) (max (D.dep p)<|D.bq left)<=n:=by rw[kD]at qk;exact qk
      exact ih (d:=p) ⋯ (show A.units+1+n<cLine by lia) hok g1 r2
       (k _ _ #[done++[p],left,b,by rw[Xk];rfl,r,t2,by rw[l6];rfl,by rw[kH];simp[p6,Nat.add_assoc]])
   ·rintro c s1 ⟨done,left,ys,rfl,W,I,rfl,rfl⟩;cases I;cases left with
    |cons p left=>obtain⟨_,_,q,_⟩:=W.cons_inv;cases q
    |nil=>rw[XO,hD,PQ]at h;simpa [Nat.add_assoc]using h
theorem vS:∀(n:Nat){d:D}{x:V}{u:Value}{A:Around}{E:Value->Shared->Prop}{s:Shared}{Q:Bool->Shared->Prop},D.dep d<=n->dZ prog w H s.heap->DV H x d->RelV x u->
  Q J' s->wpAny (model prog w) A (eqIsQuiet n u) Q E s:=by
 intro n
 induction n with
 |zero=>
  intro d x u A E s Q hd hok L M h;cases d with
  |int i=>have:=L.int_inv;subst this;obtain⟨t,rfl⟩:=M;rw[eqIsQuiet_byValue _ rfl];exact W4 h
  |str i=>have:=L.str_inv;subst this;obtain⟨t,rfl⟩:=M;rw[eqIsQuiet_byValue _ rfl];exact W4 h
  |tup ds=>unfold D.dep at hd;lia
 |succ n ih=>
  intro d x u A E s Q hd hok L M h;cases d with
  |int i=>have:=L.int_inv;subst this;obtain⟨t,rfl⟩:=M;rw[eqIsQuiet_byValue _ rfl];exact W4 h
  |str i=>have:=L.str_inv;subst this;obtain⟨t,rfl⟩:=M;rw[eqIsQuiet_byValue _ rfl];exact W4 h
  |tup ds=>
   obtain⟨a,xs,q,B,e2⟩:=L.ao;subst q;cases M;obtain⟨J,F,o,ho,K,y,Z⟩:=aV hok B;have P:s.TypeIs (.ref a) "tuple":=#[o,ho,K];have O:D.bq ds<=n:=by unfold D.dep at hd;lia
   have Y:¬((!J')=J'):=λz=>by cases z
   unfold eqIsQuiet;refine W1<|wpAny_specialOf P PySem.F.slot_tuple_eq.lookup<|W1 (m:=isInstance (.ref a)<|.type "tuple")<|wpAny_isInstance P isSubtype_tuple_tuple<|ite_no Y<|W1<|ZI ho Z<|W1 ?_;show wpAny _ _ (forIn J.toArray _ _) _ _ s;rw[<-Array.forIn_toList];refine wpAny_forIn_list _ (λS r l=>r.1=G'/\l=s/\∃left ys,D.bq left<=n/\bj H ys left/\au ys S) _ ?_ (λr l j=>?_) _ _ #[rfl,rfl,ds,xs,O,e2,F]
   ·rintro v S r l ⟨I,rfl,left,ys,W,k,hv⟩;cases hv with
    |@cons X _ b _ r2 t2=>
     cases left with
     |nil=>cases k.nil_inv
     |cons p left=>obtain⟨_,_,q,g1,g2⟩:=k.cons_inv;cases q;have g:max (D.dep p) (D.bq left)<=n:=W;exact W1<|ih (d:=p) ⋯ hok g1 r2 (ite_no Y<|W4 #[rfl,rfl,left,b,⋯,g2,t2])
   ·obtain⟨jn,rfl,_⟩:=j;obtain⟨c,rb⟩:=r;cases (show c=G' from jn);exact W4 h
end
noncomputable def d9(prog:Program)(w:World):HeapKind prog w D where
 is:=λh d a=>DV (pE h) (.ref a) d/\D.dep d<=8
 hash:=hD w
 draws:=PQ
 room:=λA=>A.units+8<cLine
 inj:=λhx hy=>hx.1.inj hy.1
 keeps:=λ {h h' k a d o es ep} x ho hd hs=>#[x.1.mono (yQ λb ak hb=>by
  obtain⟨ob,e1,e2,n,e3,e4⟩:=hb;have rA:b≠d:=by rintro rfl;rw[ho]at e1;cases e1;rw[hd]at e3;cases e3
  exact#[ob,(hs.2 b rA).trans e1,e2,n,e3,e4]),x.2]
 pyHash:=λhu hk h=>zk 8 hk.2 hu (pG _) hk.1 rfl h
 eqBool:=λhu hx hy h=>by have:=eq_data (pG (P:=prog) (w:=w) _) 8 _ _ _ _ _ _ _ hx.2 hu hx.1 hy.1 rfl rfl;rw[D.jg]at this;exact this _ _ _ _ h
 quiet:=λhk h=>vS 8 hk.2 (pG _) hk.1 rfl h
abbrev Ent:=List (D×V×V)
def dh:Ent->List (D×Addr×Value)->Prop:=Paired λp q=>p.1=q.1/\p.2.1= .ref q.2.1/\RelV p.2.2 q.2.2
def fI:Ent->List (Key×Value)->Prop:=Paired λp q=>∃t,p.1= .str t/\p.2.1= .str t/\q.1= .inr t/\RelV p.2.2 q.2
def IS(P:Program)(w:World)(a:Addr)(xs:Ent)(h:Heap):Prop:=
 (a==sysModules)=K'/\∃o es ep,h.get? a=B' o/\o.ExactDict/\o.data= .dict es ep/\
  ((∃ys,dh xs ys/\es.toList=ys.map (entryOfKey<|d9 P w))\/∃j,fI xs j/\KeysOf (aR P w) es/\Pairs (aR P w) es.toList j)
def dg(P:Program)(w:World)(a:Addr)(xs:Ent):HO:=.ext<|IS P w a xs
structure dI(H:Hp)(xs:Ent):Prop where
 key:∀x∈xs,DV H x.2.1 x.1/\D.dep x.1<=8
 nd:(xs.map (·.1)).Nodup
 len:xs.length<=sizeLine
def rm(xs:Ent)(d:D):Option V:=(xs.find? λx=>decide (x.1=d)).map (·.2.2)
def mI(xs:Ent)(d:D)(k v:V):Ent:=if (rm xs d).isSome then xs.map λx=>if x.1=d then(x.1,x.2.1,v) else x else xs++[(d,k,v)]
theorem dh.keys(r:dh xs ys):xs.map (·.1)=ys.map (·.1):=by
 unfold dh at r
 induction r with
 |nil=>rfl
 |cons h _ ih=>simp only[XT,h.1,ih]
theorem dh.length(r:dh xs ys):xs.length=ys.length:=Paired.length r
theorem dh.key(r:dh xs ys):∀y∈ys,∃x∈xs,x.1=y.1/\x.2.1= .ref y.2.1:=by
 unfold dh at r
 induction r with
 |nil=>intro y m;cases m
 |cons h _ ih=>
  intro y m;rcases Xi.mp m with rfl|m
  ·exact#[_,Xc,h.1,h.2.1]
  ·obtain⟨x,Z,Y⟩:=ih y m;exact#[x,W9 _ Z,Y]
theorem dh.at(r:dh xs ys)(d):Ax (rm xs d) ((atKey ys d).map (·.2)):=by
 unfold dh at r;unfold rm atKey
 induction r with
 |nil=>exact trivial
 |@cons p q _ _ h _ ih=>
  rw[List.find?_cons,List.find?_cons,h.1];cases e:decide (q.1=d) with
  |true=>exact h.2.2
  |false=>exact ih
theorem dh.Dh(r:dh xs ys)(d):(rm xs d).isSome=(atKey ys d).isSome:=by have:=r.at d;cases Z:rm xs d<;>cases Y:atKey ys d<;>rw[Z,Y]at this<;>first|rfl|exact this.elim
theorem dh.put(r:dh xs ys)(d)(a)(rv:RelV v u):dh (mI xs d (.ref a) v) (storedH ys d a u):=by
 unfold mI storedH;rw[r.Dh d];by_cases w:(atKey ys d).isSome=J'
 ·rw[Zn w,Zn w];clear w;unfold dh at r ⊢
  induction r with
  |nil=>exact .nil
  |@cons p q _ _ h _ ih=>
   refine .cons ?_ ih;unfold putAt;by_cases e:q.1=d
   ·rw[Zn e];dsimp only;rw[Zn (h.1.trans e)];exact#[h.1,h.2.1,rv]
   ·rw[Zm e];dsimp only;rw[Zm λz=>e<|h.1.symm.trans z];exact h
 ·rw[Zm w,Zm w];clear w;unfold dh at r ⊢
  induction r with
  |nil=>exact .cons #[rfl,rfl,rv] .nil
  |cons h _ ih=>exact .cons h ih
theorem fI.any(r:fI xs a9)(t):(rm xs<|.str t).isSome=a9.any λc=>decide (c.1= .inr t):=by
 unfold fI at r;unfold rm
 induction r with
 |nil=>rfl
 |@cons p q _ _ h _ ih=>
  obtain⟨t',B,_,J,_⟩:=h;rw[List.find?_cons,List.any_cons,B,J];by_cases e:t'=t
  ·rw[e,Xz rfl,Xz rfl];rfl
  ·rw[Xv (λz=>e<|by cases z;rfl),Xv (λz=>e<|by cases z;rfl),Bool.false_or];exact ih
theorem fI.put(r:fI xs a9)(t)(rv:RelV v u):fI (mI xs (.str t) (.str t) v) (stored a9 (.inr t) u):=by
 unfold mI stored;rw[r.any t];by_cases w:(a9.any λc=>decide (c.1= .inr t))=J'
 ·rw[Zn w,Zn w];clear w;unfold fI at r ⊢
  induction r with
  |nil=>exact .nil
  |@cons p q _ _ h _ ih=>
   refine .cons ?_ ih;obtain⟨t',B,E,J,n⟩:=h;by_cases e:t'=t
   ·subst e;dsimp only;rw[Zn J,Zn B];exact#[t',B,E,J,rv]
   ·dsimp only;rw[Zm (λz=>e<|by rw[B]at z;cases z;rfl),Zm (λz=>e<|by rw[J]at z;cases z;rfl)];exact#[t',B,E,J,n]
 ·rw[Zm w,Zm w];clear w;unfold fI at r ⊢
  induction r with
  |nil=>exact .cons #[t,rfl,rfl,rfl,rv] .nil
  |cons h _ ih=>exact .cons h ih
theorem fI.keys(r:fI xs a9)(nd:(xs.map (·.1)).Nodup):(a9.map (·.1)).Nodup:=by
 unfold fI at r
 induction r with
 |nil=>exact List.nodup_nil
 |@cons p q ps v h I ih=>
  rw[XT,YL]at nd ⊢;refine#[λF=>nd.1 ?_,ih nd.2];obtain⟨t,B,_,J,_⟩:=h;rw[J]at F;rw[B];clear ih nd
  induction I with
  |nil=>cases F
  |@cons u q' _ _ h' _ W=>
   obtain⟨t',Y,_,A,_⟩:=h';rw[XT]at F ⊢;rcases Xi.mp F with z|z
   ·rw[A]at z;cases z;rw[Y];exact Xc
   ·exact W9 _<|W z
section
variable{P:Program}{w:World}{H:Hp}{h:Heap}{a:Addr}{xs:Ent}
def D9(xs:Ent):Prop:=∀x∈xs,∃ds,x.1= .tup ds
def yN(xs:Ent):Prop:=∀x∈xs,∃t,x.1= .str t
theorem A7(hok:dZ P w H h)(e:H a=B' (dg P w a xs))(k:dI H xs)(v:D9 xs):∃ys,dh xs ys/\h.DictOfH (d9 P w) a ys/\(a==sysModules)=K':=by
 obtain⟨⟨sm,o,es,ep,Z,Y,u,K⟩,_⟩:=hok a _ e;obtain⟨ys,r,Q⟩:∃ys,dh xs ys/\es.toList=ys.map (entryOfKey<|d9 P w):=by
  rcases K with K|⟨j,r,_,pr⟩
  ·exact K
  ·unfold fI at r;cases r with
   |nil=>refine#[[],.nil,?_];generalize es.toList=l at pr;cases pr;rfl
   |cons L _=>obtain⟨t,B,_⟩:=L;obtain⟨ds,E⟩:=v _ Xc;rw[B]at E;cases E
 refine#[ys,r,#[o,es,ep,Z,Y,u,Q,λy hy=>?_,r.keys▸k.nd],sm];obtain⟨x,m,B,E⟩:=r.key y hy;obtain⟨k1,k2⟩:=k.key x m;rw[E]at k1;rw[<-B];exact#[k1.mono<|jY hok,k2]
theorem wN(hok:dZ P w H h)(e:H a=B' (dg P w a xs))(k:dI H xs)(l:yN xs):∃j,fI xs j/\h.DictOf (aR P w) a j/\(a==sysModules)=K':=by
 obtain⟨⟨sm,o,es,ep,Z,Y,u,K⟩,_⟩:=hok a _ e;rcases K with ⟨ys,r,Q⟩|⟨j,r,b,pr⟩
 ·unfold dh at r;cases r with
  |nil=>
   have he:es.toList=[]:=Q;refine#[[],.nil,#[o,es,ep,Z,Y,u,λz hz=>?_,?_,List.nodup_nil],sm]
   ·rw[<-Array.mem_toList_iff,he]at hz;cases hz
   ·rw[he];exact .nil
  |cons L _=>obtain⟨B,E,_⟩:=L;obtain⟨t,J⟩:=l _ Xc;have:=(k.key _ Xc).1;rw[E,J]at this;cases this
 ·exact#[j,r,#[o,es,ep,Z,Y,u,b,pr,r.keys k.nd],sm]
theorem A9(f:IS P w a xs g1)(Z:∀o,g1.get? a=B' o->g2.get? a=B' o):IS P w a xs g2:=by obtain⟨sm,o,es,ep,B,E⟩:=f;exact#[sm,o,es,ep,Z _ B,E]
theorem Bb(r:dh xs ys)(A:h.DictOfH (d9 P w) a ys)(b:(a==sysModules)=K'):cu P w H h a (dg P w a xs):=by obtain⟨o,es,ep,Z,Y,u,Q,_⟩:=A;exact#[#[b,o,es,ep,Z,Y,u,.inl #[ys,r,Q]],#[o,Z],λI g2 f kk=>A9 f λo e=>kk _ e]
theorem EB(r:fI xs a9)(A:h.DictOf (aR P w) a a9)(b:(a==sysModules)=K'):cu P w H h a (dg P w a xs):=by obtain⟨o,es,ep,Z,Y,u,Q,n,_⟩:=A;exact#[#[b,o,es,ep,Z,Y,u,.inr #[a9,r,Q,n]],#[o,Z],λI g2 f kk=>A9 f λo e=>kk _ e]
end
section
variable{X:Cx}
def HW(P:Program)(w:World):TE:=λ_ H Q=>∀p,H p=G'->Q (.ref p) (upd H p<|dg P w p [])
theorem FV:PE X (.Dict [] [] pos) (HW X.prog X.w):=λS s O H Q I h=>by have M:(s.heap.objs.size==sysModules)=K':=Zg.mpr<|Y6<|XB<|Nat.lt_trans (by decide) (I.mod.glob.keeps I.bk).lt;exact wpAny_Dict_empty #[.ref s.heap.objs.size,_,I.laid (a:=s.heap.objs.size) (o:=dg X.prog X.w s.heap.objs.size []) (t':=s.toks) (λ_ _ q=>W3 _ q) (Xb _)<|Bb .nil (Heap.DictOfH.new _) M,rfl,h _<|I.hok.fresh<|Xb _]
def Mc(d:D)(xs:Ent):Prop:=((∃ds,d= .tup ds)/\D9 xs)\/((∃t,d= .str t)/\yN xs)
def HP(P:Program)(w:World):V->V->V->Hp->(Hp->Prop)->Prop:=λo i v H Q=>∃p xs d,o= .ref p/\H p=B' (dg P w p xs)/\dI H xs/\DV H i d/\D.dep d<=8/\Mc d xs/\Q (upd H p<|dg P w p<|mI xs d i v)
theorem GF(hu:X.A.units+20<cLine):Im X (HP X.prog X.w):=by
 intro S s O H o i v z iv u Q I ro l rv h;obtain⟨p,xs,d,rfl,J,g,hd,E,w,q⟩:=h;cases ro;rcases w with ⟨⟨ds,rfl⟩,hT⟩|⟨⟨t,rfl⟩,hS⟩
 ·obtain⟨a,us,rfl,_,_⟩:=hd.ao;cases l;obtain⟨ys,r,A,sm⟩:=A7 I.hok J g hT;refine wpAny_setItem_heap (knd:=d9 X.prog X.w) (show X.A.units+1+8<cLine by lia) (k:=.tup ds) #[hd.mono<|jY I.hok,E] A (λh' c w=>?_) (by rw[<-r.length];exact g.len);refine#[_,I.write (x:=p) (e:=p) (o:=dg X.prog X.w p<|mI xs (.tup ds) (.ref a) v) (by rw[J];trivial) (.inl rfl) (λb m M e=>(w.2 b M).trans e) ?_<|Bb (r.put _ a rv) c sm,q];obtain⟨m,_,_,e,_⟩:=c;exact#[m,e]
 ·cases hd;obtain⟨tk,rfl⟩:=l;obtain⟨j,r,A,sm⟩:=wN I.hok J g hS;refine wpAny_setItem_pairs (knd:=aR X.prog X.w) (k:=.inr t) (dF _ _ _ _) A (λh' c w=>?_) (by rw[<-Paired.length r];exact g.len);refine#[_,I.write (x:=p) (e:=p) (o:=dg X.prog X.w p<|mI xs (.str t) (.str t) v) (by rw[J];trivial) (.inl rfl) (λb m M e=>(w.2 b M).trans e) ?_<|EB (r.put t rv) c sm,q];obtain⟨m,_,_,e,_⟩:=c;exact#[m,e]
def Oo(P:Program)(w:World):V->List V->Hp->VK->Prop:=λx c H Q=>∃p xs d a v,x= .ref p/\c=[.ref a,v]/\H p=B' (dg P w p xs)/\dI H xs/\DV H (.ref a) d/\D.dep d<=8/\D9 xs/\Q ((rm xs d).getD v) H
theorem FD(hu:X.A.units+20<cLine):Md X "dict.get" (Oo X.prog X.w):=by
 intro S s O H x c v i Q I M rv h;obtain⟨p,xs,d,a,y,rfl,rfl,J,g,hd,E,hT,q⟩:=h;cases M;obtain⟨W,n,rfl,F,r2⟩:=rv.two;cases F;obtain⟨ys,r,A,sm⟩:=A7 I.hok J g hT;refine call_meetsIn PySem.F.slot_dict_get A.typeIs PySem.F.entry_dict_get (PySem.F.args_dict_get_3 _ _ _) (meetsH_dict_get_default (d9 X.prog X.w) p a sm n)
  #[show X.A.units+1+8<cLine by lia,d,ys,#[hd.mono<|jY I.hok,E],A,?_]
 refine#[(rm xs d).getD y,H,I.kept λ_ _ e=>e,?_,q];have z:=r.at d;cases Z:rm xs d with
 |none=>
  rw[Z]at z;cases Y:(atKey ys d).map (·.2) with
  |none=>exact r2
  |some _=>rw[Y]at z;exact z.elim
 |some v1=>
  rw[Z]at z;cases Y:(atKey ys d).map (·.2) with
  |none=>rw[Y]at z;exact z.elim
  |some _=>rw[Y]at z;exact z
theorem J6{O:L2.St}(I:Inv X M' O H s)(J:H p=B' (dg X.prog X.w p xs))(g:dI H xs)(l:yN xs)
  (q:Q (.bool<|!(rm xs<|.str t).isSome) {s with toks:=s.toks+1}):wpAny (model X.prog X.w) A (compareOp .NotIn (.str t tk)<|.ref p) Q E s:=by
 obtain⟨j,r,hm,sm⟩:=wN I.hok J g l;refine wpAny_notIn_of (knd:=aR X.prog X.w) (k:=.inr t) (dF _ _ _ _) sm (Heap.DictOf.mapOf hm) ?_;rw[PyProof.Rows.valueAt_isSome_eq_any,<-r.any t];exact q
end
end Mx
end
section
namespace Mx
open PySem PySem.W PySem.Spec PyProof.Rows L2
abbrev Ii(h:Heap)(it d:Addr)(i n ep:Nat)(x0 x1 k v:Value):Prop:=
 h.get? it=B' {cls:=.type "dict_itemiterator",dict:=G',data:=.fields [x0,x1,.ref d,.int i 0,.int n 0,.int ep 0,k,v].toArray,slots:=#[]}
def IQ(S it d:Addr)(i n ep:Nat)(h:Heap):Prop:=
 Ii h it d i n ep .none (.bool K') .none .none\/∃(a:Addr)(f:Bool)(k v:Value)(o:Obj),Ii h it d i n ep (rawInt (a:Nat)) (.bool f) k v/\h.get? a=B' o/\a≠it/\a≠S
section
variable{prog:Program}{w:World}{A:Around}{E:Value->Shared->Prop}{s:Shared}
theorem EA(st:IQ S it d i es.size ep s.heap)(l:s.heap.get? S=B' oS)(W:s.heap.get? d=B' od)(O:od.data= .dict es ep)(L:es[i]?=B' e)
  (H:∀h',IQ S it d (i+1) es.size ep h'->h'.get? s.heap.objs.size=B' {cls:=.type "tuple",data:=.seq [e.key,e.val].toArray}->(∀b o,b≠it->s.heap.get? b=B' o->h'.get? b=B' o)->Q (B'<|.ref s.heap.objs.size) {s with heap:=h'}):
  wpAny (model prog w) A (pyNext<|.ref it) Q E s:=by
 obtain⟨Y,m,k0,Z,u⟩:∃Y m k v,Ii s.heap it d i es.size ep Y m k v:=by
  rcases st with h|⟨a,f,k,v,o,h,_⟩
  ·exact#[_,_,_,_,h]
  ·exact#[_,_,_,_,h]
 have P:∀{g:Heap}{Y m k v:Value}{j:Nat},Ii g it d j es.size ep Y m k v->Shared.TypeIs {s with heap:=g} (.ref it) "dict_itemiterator":=λh=>#[_,h,rfl]
 have df:it<s.heap.objs.size:=Xg u;unfold pyNext;refine W1<|wpAny_attempt<|Zw (name:=Str.ofString "__next__") (P u) PySem.F.slot_dict_itemiterator_next<|Zx PySem.F.slot_dict_itemiterator_next (P u) PySem.F.entry_dict_itemiterator_next ?_<|PySem.F.args_dict_itemiterator_next_1 _;refine W1<|W4<|W1<|W1<|W1<|wpAny_typeNameOfWhole_itemiter (P u)<|W4 ?_;refine W1<|wpAny_fieldsOf u rfl ?_;have ow:Builtin.Dict_items.ownsTuple "dict_itemiterator"=J':=by decide
 simp only[ow,Zo];refine ite_no (c:=(Value.ref d==Value.none)=J') (λz=>by cases z) ?_;refine W1<|W4<|W1<|wpAny_dictEntries W O ?_;refine ite_no (by simp)<|W1<|W4<|W1<|wpAny_dictEpoch W O ?_;refine ite_no (by simp)<|W4 ?_;have Nf:(if (i:Int)<0 then G' else es[(i:Int).toNat]?)=B' e:=by rw[Zm ⋯,Yg,L]
 dsimp only;rw[Nf];refine W1<|W1<|wpAny_typeNameOfWhole_itemiter (P u)<|W4<|W1<|wpAny_isOneOf_itemiter (P u) ?_;refine W1 (XD (k:=3) (x:=rawInt<|(i:Int)+1) u (by simp) λI i1 B=>?_)
 replace i1:Ii I it d (i+1) es.size ep Y m k0 Z:=i1
 refine W1<|Zz<|W1<|wpAny_isOneOf_itemiter (P i1) ?_;refine ite_no (by decide)<|W1<|wpAny_isOneOf_itemiter (P i1) ?_;refine ite_no (by decide) ?_;unfold Builtin.Dict_items.pairFromOwner Builtin.Dict_items.ownedTupleIsFree;refine W1<|wpAny_newTuple ?_;have sz:I.objs.size=s.heap.objs.size:=B.1;generalize y:I.push {cls:=.type "tuple",data:=.seq [e.key,e.val].toArray}=g2;have k2:∀b o,I.get? b=B' o->g2.get? b=B' o:=λb o q=>by rw[<-y];exact W3 _ q
 have t2:g2.get? s.heap.objs.size=B' {cls:=.type "tuple",data:=.seq [e.key,e.val].toArray}:=by rw[<-y,<-sz];exact Xd _ rfl
 have K:∀b o,b≠it->s.heap.get? b=B' o->g2.get? b=B' o:=λb o M q=>k2 b o (B.extBut b o M q)
 have p:=k2 _ _ i1;have F:s.heap.objs.size≠it:=Y3 df;have nS:s.heap.objs.size≠S:=Y3<|Xg l;rcases st with h|⟨a,f,k,v,o,h,t,na,Us⟩
 ·cases Eq.trans (Eq.symm u) h;refine W1<|W1<|Zy p rfl (x:=.none) rfl<|W4<|ite_yes rfl ?_;dsimp only;refine W1<|Zy p rfl (x:=.none) rfl<|W1<|Zy p rfl (x:=.none) rfl ?_;refine W1<|XD (k:=6) p (by simp) λg3 i3 J=>W1<|XD (k:=7) i3 (by simp) λg4 i4 n=>W1<|XD (k:=0) i4 (by simp) λg5 i5 X=>W1<|XD (k:=1) i5 (by simp) λg6 i6 r=>?_;refine W1<|wpAny_letGo<|W4<|W4 #[_,rfl,W4 ?_];have up:∀b o,b≠it->g2.get? b=B' o->g6.get? b=B' o:=λb o M q=>r.extBut b o M (X.extBut b o M<|n.extBut b o M<|J.extBut b o M q)
  have:=H g6 (.inr #[s.heap.objs.size,K',e.key,e.val,_,?_,up _ _ F t2,F,nS]) (up _ _ F t2) λb o M q=>up b o M<|K b o M q
  ·rw[<-sz]at this;exact this
  ·rw[<-sz];exact i6
 ·cases Eq.trans (Eq.symm u) h;refine W1<|W1<|Zy p rfl (x:=rawInt (a:Nat)) rfl ?_;dsimp only[rawInt];refine W1<|kdx_alive (a:=a) (K a o na t)<|ite_no (by simp) ?_;refine W1<|Zy p rfl (x:=.bool f) rfl ?_;cases f with
  |true=>refine ite_no (by decide)<|W4<|ite_no (by decide)<|W4<|W4 #[_,rfl,W4 ?_];have:=H g2 (.inr #[a,J',k0,Z,o,p,K a o na t,na,Us]) t2 K;rw[<-sz]at this;exact this
  |false=>
   refine ite_yes (by decide)<|W1<|XD (k:=1) p (by simp) λg3 i3 J=>W4<|ite_no (by decide)<|W4<|W4 #[_,rfl,W4 ?_];have:=H g3 (.inr #[a,J',k0,Z,o,i3,J.extBut _ _ na<|K a o na t,na,Us]) (J.extBut _ _ F t2) λb o M q=>J.extBut b o M (K b o M q)
   rw[<-sz]at this;exact this
theorem vT{c:β->Shared->Prop}{g:Value->Sem β}(j:∀e,g e=raiseNew e)(y:A.handled=G')(h:∀e h',(∀b o,h1.get? b=B' o->h'.get? b=B' o)->(∃o,h'.get? e=B' o/\o.cls= .type "StopIteration")->E (.ref e) {s with heap:=h'}):
  wpAny (model prog w) A (newExc (.type "StopIteration") [] >>=g) c E {s with heap:=h1}:=by
 unfold newExc newTuple;refine W1 (W1 (ZC (W1 (m:=firstArgMember _ _) (wpAny_of_eq (a:=Value.none) (by first|rfl|(simp only[firstArgMember];rfl)) (ZC ?_ (by size_fits)))) (by size_fits)));rw[j];unfold raiseNew;refine W1 (wpAny_handled ?_);rw[y];exact W1 (W4 (wpAny_throw (h _ _ (λb o q=>W3 _ (W3 _ q)) #[_,Xd _ rfl,rfl])))
theorem IR(y:A.handled=G')(st:IQ S it d es.size es.size ep s.heap)(W:s.heap.get? d=B' od)(O:od.data= .dict es ep)
  (H:∀h',(∀b o,b≠it->s.heap.get? b=B' o->h'.get? b=B' o)->Q G' {s with heap:=h'}):wpAny (model prog w) A (pyNext<|.ref it) Q E s:=by
 obtain⟨Y,m,k0,v0,u⟩:∃Y m k v,Ii s.heap it d es.size es.size ep Y m k v:=by
  rcases st with h|⟨a,f,k,v,o,h,_⟩
  ·exact#[_,_,_,_,h]
  ·exact#[_,_,_,_,h]
 have P:s.TypeIs (.ref it) "dict_itemiterator":=#[_,u,rfl];unfold pyNext;refine W1<|wpAny_attempt<|Zw (name:=Str.ofString "__next__") P PySem.F.slot_dict_itemiterator_next<|Zx PySem.F.slot_dict_itemiterator_next P PySem.F.entry_dict_itemiterator_next ?_<|PySem.F.args_dict_itemiterator_next_1 _;refine W1<|W4<|W1<|W1<|W1<|wpAny_typeNameOfWhole_itemiter P<|W4 ?_;refine W1<|wpAny_fieldsOf u rfl ?_;have j:Builtin.Dict_items.ownsTuple "dict_itemiterator"=J':=by decide
 simp only[j,Zo];refine ite_no (c:=(Value.ref d==Value.none)=J') (λz=>by cases z) ?_;refine W1<|W4<|W1<|wpAny_dictEntries W O ?_;refine ite_no (by simp)<|W1<|W4<|W1<|wpAny_dictEpoch W O ?_;refine ite_no (by simp)<|W4 ?_;have i:(if (es.size:Int)<0 then G' else es[(es.size:Int).toNat]?)=G':=by rw[Zm ⋯,Yg];simp
 dsimp only;rw[i];refine W1<|W1<|wpAny_typeNameOfWhole_itemiter P<|W4<|W1<|XD (k:=2) (x:=.none) u (by simp) λI g B=>?_;refine vT (λ_=>rfl) y λx h' Z L=>?_
 obtain⟨o,ho,K⟩:=L;exact W1<|wpAny_isInstance (T:="StopIteration") (b:=J') #[o,ho,K] isSubtype_stop<|W4<|H _ λb o M q=>Z b o<|B.extBut b o M q
end
theorem IQ.keep(st:IQ S it d i n ep h)(l:it≠S)(Z:∀b o,b≠S->h.get? b=B' o->h'.get? b=B' o):IQ S it d i n ep h':=by
 rcases st with z|⟨a,f,k,v,o,z,t,na,c⟩
 ·exact .inl<|Z _ _ l z
 ·exact .inr #[a,f,k,v,o,Z _ _ l z,Z _ _ c t,na,c]
def G9(xs:Ent)(es:Array DictEntry):Prop:=es.size=xs.length/\∀(i:Nat)(x:D×V×V),xs[i]?=B' x->∃e,es[i]?=B' e/\RelV x.2.1 e.key/\RelV x.2.2 e.val
theorem dh.at_(r:dh xs ys):∀{i:Nat}{x:D×V×V},xs[i]?=B' x->∃y,ys[i]?=B' y/\(x.1=y.1/\x.2.1= .ref y.2.1/\RelV x.2.2 y.2.2):=by
 unfold dh at r
 induction r with
 |nil=>intro i x h;cases h
 |cons h _ ih=>
  intro i x L;cases i with
  |zero=>cases L;exact#[_,rfl,h]
  |succ i=>exact ih L
theorem FA(h:(aR P w).is (.inr t) v=J'):RelV (.str t) v:=by
 rcases bo (k:=.inr t) (v:=v) h with ⟨i,u,e,_⟩|⟨y,u,e,rfl⟩
 ·cases e
 ·cases e;exact#[u,rfl]
theorem fI.at_:∀{xs:Ent}{j:List (Key×Value)}{es:List DictEntry},fI xs j->Pairs (aR P w) es j->es.length=xs.length/\∀(i:Nat)(x:D×V×V),xs[i]?=B' x->∃e,es[i]?=B' e/\RelV x.2.1 e.key/\RelV x.2.2 e.val:=by
 intro xs j es r;unfold fI at r
 induction r generalizing es with
 |nil=>intro p;cases p;exact#[rfl,λi x h=>by cases h]
 |cons h _ ih=>
  intro p;cases p with
  |cons k1 k2 k3=>
   obtain⟨t,B,E,J,n⟩:=h;obtain⟨l,f⟩:=ih k3;refine#[by rw[Xo,Xo,l],λi x L=>?_];cases i with
   |zero=>cases L;refine#[_,rfl,?_,by rw[k2];exact n];rw[J]at k1;rw[E];exact FA k1
   |succ i=>exact f i x L
theorem A8(h:(∃ys,dh xs ys/\es.toList=ys.map (entryOfKey<|d9 P w))\/∃j,fI xs j/\KeysOf (aR P w) es/\Pairs (aR P w) es.toList j):G9 xs es:=by
 rcases h with ⟨ys,r,n⟩|⟨j,r,_,pr⟩
 ·refine#[by rw[r.length,<-Xq,n,Xf],λi x L=>?_];obtain⟨y,m,c⟩:=r.at_ L;refine#[_,by rw[entry_at n,m];rfl,by rw[c.2.1];rfl,c.2.2]
 ·obtain⟨l,f⟩:=r.at_ pr;refine#[by rw[<-Xq];exact l,λi x L=>?_];obtain⟨e,Z,Y⟩:=f i x L;exact#[e,by rw[<-Array.getElem?_toList];exact Z,Y]
section
variable{X:Cx}{M':List (Addr×Obj)}{σ:L2.St}{S it d:Addr}{xs:Ent}{H0:Hp}
def lG(xs:Ent)(H:Hp)(ps:List Addr):Prop:=∀(j:Nat)(x:D×V×V)(p:Addr),xs[j]?=B' x->ps[j]?=B' p->H p=B' (.tup [x.2.1,x.2.2])
theorem Ba(hh:A.in1.handled=G')(Hq:it≠S)(eQ:xs.length<=sizeLine)(LM:H0 S=G')
  (O:od.data= .dict es ep) (er:G9 xs es):
  ∀(k i:Nat)(s:Shared)(H:Hp)(ps:List Addr),xs.length-i=k->i<=xs.length->Inv X M' σ H s->iy X M' H it->(∃u,H d=B' u)->d≠S->s.heap.get? d=B' od->IQ S it d i es.size ep s.heap->
   H S=B' (.lst (ps.map V.ref))->ps.length=i->lG xs H ps->bJ H0 H->
   (∀l H' tD,Inv X M' σ H' l->H' S=B' (.lst (tD.map V.ref))->tD.length=xs.length->lG xs H' tD->bJ H0 H'->R (.ok (.ret res)) l)->
   codeAny (model X.prog X.w) A (.builtin "list.extend.loop" #[[.ref S,.ref it,res],[]]) R s:=by
 have la:es.size=xs.length:=er.1;intro k
 induction k with
 |zero=>
  intro i s H ps g hi I r Ny ndS W st hS BY hz t hR;have Nd:i=es.size:=⋯
  subst Nd;refine codeAny_builtin PySem.F.entry_extend_loop ?_;rw[Around.under_plainId PySem.F.plain_extend_loop _];refine W1 (m:=pyNext (.ref it)) (IR hh st W O λh' kk=>W4 (hR _ H ps ?_ hS ⋯ hz t));have zH:∀b u,H b=B' u->b≠it:=λb u e z=>by subst z;rw[r.1]at e;cases e
  have zB:∀b o,b∉[it]->s.heap.get? b=B' o->h'.get? b=B' o:=λb o M e=>kk b o (λz=>M (by simp[z])) e
  refine I.step (g':=s.gens) (d':=s.drawn) (t':=s.toks) (h':=h') (ch:=[it]) (λb M=>by cases XF.mp M;exact#[r.2.2.2.1,r.2.1,r.2.2.2.2.1,r.2.2.2.2.2]) (λb o _ _ M e _=>zB b o M e) (λb o _ _ M e _=>#[o.slots,zB b o M e])
   (λb o M e n=>n) (λb o M e=>#[o,zB b o M e]) (λb w e=>e) (λb o u e=>e) (λb ps e=>#[#[],by rw[e];simp]) (λm hm=>?_) (λb u e=>?_) I.bare
  ·obtain⟨o,eJ,Hj,B,Q⟩:=hm;exact#[o,eJ,Hj,kk _ o (λz=>r.2.1 z.symm) B,Q]
  ·refine(I.hok b u e).kZ (λc v K q=>kk c v ?_ q) (λc q=>q) λc w q=>q
   rcases K with rfl|K
   ·exact zH c u e
   ·exact zH c _ K
 |succ k ih=>
  intro i s H ps g hi I r Ny ndS W st hS BY hz t hR;have p:i<xs.length:=⋯
  obtain⟨x,L⟩:∃x,xs[i]?=B' x:=#[xs[i],by simp[p]];obtain⟨y,P,ry⟩:=er.2 i x L;obtain⟨_,B5,nS,rS,Rn⟩:=I.hok S _ hS;refine codeAny_builtin PySem.F.entry_extend_loop ?_;rw[Around.under_plainId PySem.F.plain_extend_loop _];refine W1 (m:=pyNext (.ref it)) (EA st Rn W O P λh' eN J kk=>?_);have zH:∀b u,H b=B' u->b≠it:=λb u e z=>by subst z;rw[r.1]at e;cases e
  have zB:∀b o,b∉[it]->s.heap.get? b=B' o->h'.get? b=B' o:=λb o M e=>kk b o (λz=>M (by simp[z])) e
  have lt:∀{b:Addr}{o:Obj},s.heap.get? b=B' o->b≠s.heap.objs.size:=λe=>XB (Xg e)
  have E:H s.heap.objs.size=G':=I.fresh;have TY:S≠s.heap.objs.size:=lt Rn;have Y:Inv X M' σ (upd H s.heap.objs.size (.tup [x.2.1,x.2.2])) {s with heap:=h',toks:=s.toks}:=by
   refine I.step (g':=s.gens) (d':=s.drawn) (ch:=[it]) (λb M=>by cases XF.mp M;exact#[r.2.2.2.1,r.2.1,r.2.2.2.2.1,r.2.2.2.2.2]) (λb o _ _ M e _=>zB b o M e) (λb o _ _ M e _=>#[o.slots,zB b o M e])
    (λb o M e n=>by rw[ax (lt e)];exact n) (λb o M e=>#[o,zB b o M e]) (λb w e=>by rw[ax (aJ e E)];exact e) (λb o u e=>by rw[ax (aJ e E)];exact e)
    (λb ps e=>#[#[],by rw[ax (aJ e E),e];simp]) (λm hm=>?_) (λb u e=>?_) I.bare
   ·obtain⟨o,eJ,Hj,B,Q⟩:=hm;exact#[o,eJ,Hj,kk _ o (λz=>r.2.1 z.symm) B,Q]
   ·by_cases M:b=s.heap.objs.size
    ·subst M;rw[aB]at e;cases e;exact#[by show 2<=sizeLine;decide,[y.key,y.val],.cons ry.1 (.cons ry.2 .nil),_,J,rfl,0,rfl,rfl,rfl]
    ·rw[ax M]at e;refine(I.hok b u e).kZ (λc v K q=>kk c v ?_ q) (λc q=>by rw[ax (aJ q E)];exact q) λc w q=>by rw[ax (aJ q E)];exact q
     rcases K with rfl|K
     ·exact zH c u e
     ·exact zH c _ K
  have uy:h'.get? S=B' {cls:=.type "list",data:=.seq B5.toArray nS}:=kk S _ (zH S _ hS) Rn;have RC:B5.length=i:=by
   have:=rS.length;rw[Xf]at this
   lia
  refine W1 (m:=updateSeq S (·.push (.ref s.heap.objs.size))) (wpAny_updateSeq uy rfl (W4 #[plainId_quiet PySem.F.plain_extend_loop _,?_]) (by simp;lia) (by show (B5.toArray.push _).size<=sizeLine+1;rw[Array.size_push];simp;lia));have P4:upd H s.heap.objs.size (.tup [x.2.1,x.2.2]) S=B' (.lst (ps.map V.ref)):=by rw[ax TY];exact hS
  have kS:∀b u,b≠S->h'.get? b=B' u->(h'.update S (Obj.mapSeq (·.push (.ref s.heap.objs.size)))).get? b=B' u:=λb u M e=>(Xy _ _ (Y6 M)).trans e
  obtain⟨c,TX⟩:∃c,(h'.update S (Obj.mapSeq (·.push (.ref s.heap.objs.size)))).get? S=B' {cls:=.type "list",data:=.seq (B5.toArray.push (.ref s.heap.objs.size)) c}:=#[_,get?_update_seq uy λa=>a.push _];have I3:Inv X M' σ (upd (upd H s.heap.objs.size (.tup [x.2.1,x.2.2])) S (.lst ((ps++[s.heap.objs.size]).map V.ref))) {s with heap:=h'.update S (Obj.mapSeq (·.push (.ref s.heap.objs.size))),toks:=s.toks}:=by
   refine Y.write (t':=s.toks) (e:=S) (by rw[P4];trivial) (.inl rfl) kS #[_,TX] #[by simp;lia,B5++[.ref s.heap.objs.size],c,?_,?_]
   ·rw[XU];exact rS.append (.cons rfl .nil)
   ·rw[TX];simp
  have Ao:s.heap.objs.size≠it:=λz=>by
   rcases st with q|⟨_,_,_,_,_,q,_⟩
   ·exact lt q z.symm
   ·exact lt q z.symm
  have h:∀b o,b≠S->H b=B' o->upd (upd H s.heap.objs.size (.tup [x.2.1,x.2.2])) S (.lst ((ps++[s.heap.objs.size]).map V.ref)) b=B' o:=λb o M e=>by rw[ax M,ax (aJ e E)];exact e
  obtain⟨ud,Ny⟩:=Ny;refine ih (i+1) _ _ (ps++[s.heap.objs.size]) ⋯ ⋯ I3 #[by rw[ax Hq,ax (Y6 Ao)];exact r.1,r.2] #[ud,h d ud ndS Ny] ndS (kS d _ ndS (kk d _ (zH d _ Ny) W)) (eN.keep Hq λb o M e=>kS b o M e) aB (by simp;lia) (λj x' p' Z h3=>?_)
   (λb o e=>h b o (aJ e LM) (t b o e)) hR
  by_cases F:j<ps.length
  ·rw[XR F]at h3;have q:=hz j x' p' Z h3;exact h p' _ (λe=>by subst e;rw[hS]at q;cases q) q
  ·rw[XS ⋯]at h3;have VC:j=ps.length:=by
    have:=(W8.mp h3).1;simp at this
    lia
   subst VC;rw[BY,L]at Z;cases Z;simp at h3;subst h3;rw[ax (Y6 TY)];exact aB
end
theorem wx{m:Sem α}{Q:α->Shared->Prop}(h:wpAny M A m Q E s):wpAny M A m Q E s:=h
section
variable{prog:Program}{w:World}{A:Around}{E:Value->Shared->Prop}{s:Shared}
theorem sP(d)(hd:(d==sysModules)=K'):MeetsIn prog w (Builtin.«dict.items» #[[.ref d],[]]) (λ_ R s=>s.TypeIs (.ref d) "dict"/\
   R (.ok<|.ret<|.ref s.heap.objs.size) {s with heap:=s.heap.push {cls:=.type "dict_items",data:=.fields #[.ref d]}}):=
 .of_wp λA R s#[O,h]=>by unfold Builtin.«dict.items» Builtin.Dict.noArgs;refine W1<|W1<|wpAny_notOrdered_dict O<|W4<|W1 (m:=Builtin.Dict.showsAll d) ?_;unfold Builtin.Dict.showsAll;refine ite_no (by rw[hd];simp)<|W4 ?_;refine W1 ?_;refine ZC ?_;exact W4 #[_,rfl,h]
theorem vo(n:s.heap.IsItemsView v d)(W:s.heap.get? d=B' od)(O:od.data= .dict es ep)
  (H:∀h',Ii h' s.heap.objs.size d 0 es.size ep .none (.bool K') .none .none->(∀b o,s.heap.get? b=B' o->h'.get? b=B' o)->Q (.ref s.heap.objs.size) {s with heap:=h'}):wpAny (model prog w) A (pyIter<|.ref v) Q E s:=by
 have P:=n.typeIs;obtain⟨z,a,c,h⟩:=n;refine wpAny_pyIter_slot P PySem.F.slot_dict_items_iter<|Zx PySem.F.slot_dict_items_iter P PySem.F.entry_dict_items_iter ?_<|PySem.F.args_dict_items_iter_1 _;unfold Builtin.«dict_items.__iter__» Builtin.Dict_items.dictOf Builtin.Dict_items.newIterator;have j:Builtin.Dict_items.ownsTuple "dict_itemiterator"=J':=by decide
 simp only[j,Zo];refine W1<|W4<|W1<|W1<|Zy a h (x:=.ref d) rfl<|W4<|W1<|W1<|wpAny_dictEntries W O<|W1<|wpAny_dictEpoch W O ?_;refine ZC (W4 #[_,rfl,"dict_itemiterator",_,#[_,Xd _ rfl,rfl],PySem.F.slot_dict_itemiterator_next.lookup,?_]) (by simp[sizeOk,Builtin.Dict_items.ownedTupleFields,Zu]);exact H _ (Xd _ rfl) λb o q=>W3 _ q
end
theorem Bj:∀{xs:List V}{ds:List D},xs.length=ds.length->(∀(j:Nat)(x:V)(e:D),xs[j]?=B' x->ds[j]?=B' e->DV H x e)->bj H xs ds
 |[],[],_,_=>.nil
 |[],_::_,h,_=>by cases h
 |_::_,[],h,_=>by cases h
 |x::xs,d::ds,h,f=>.cons (f 0 x d rfl rfl)<|Bj (Nat.succ.inj h) λj y e Z Y=>f (j+1) y e Z Y
section
variable{X:Cx}{M':List (Addr×Obj)}{σ:L2.St}{H:Hp}{s:Shared}{v d:Addr}{xs:Ent}
theorem rV(y:A.handled=G')(I:Inv X M' σ H s)(hv:s.heap.IsItemsView v d)(hd:H d=B' (dg X.prog X.w d xs))(eQ:xs.length<=sizeLine)
  (hQ:∀l L ps i,Inv X M' σ L l->au (ps.map V.ref) i->ps.length=xs.length->lG xs L ps->bJ H L->Q i l):wpAny (model X.prog X.w) A (collect (.ref v)) Q E s:=by
 obtain⟨⟨_,od,es,ep,sM,_,qk,BR⟩,_⟩:=I.hok d _ hd;have er:=A8 BR;have Wx:v<s.heap.objs.size:=by obtain⟨o,B,_⟩:=hv;exact Xg B
 have UN:d<s.heap.objs.size:=Xg sM;unfold collect;refine W1 (wpAny_runValue (codeAny_builtin PySem.F.entry_proto_collect ?_));rw[Around.under_plainId PySem.F.plain_proto_collect _];refine W1 (m:=newList []) (ZC (W4 #[plainId_quiet PySem.F.plain_list_iadd _,codeAny_builtin PySem.F.entry_list_iadd ?_]));rw[Around.under_plainId PySem.F.plain_list_iadd _];generalize k:s.heap.push {cls:=.type "list",data:=.seq ([]:List Value).toArray}=h1;have k1:∀b o,s.heap.get? b=B' o->h1.get? b=B' o:=λb o e=>by rw[<-k];exact W3 _ e
 have O:h1.objs.size=s.heap.objs.size+1:=by rw[<-k,XA]
 have t1:h1.get? s.heap.objs.size=B' (seqObj "list" #[] 0):=by rw[<-k];exact Xd _ rfl
 have g:Inv X M' σ (upd H s.heap.objs.size (.lst ([].map V.ref))) {s with heap:=h1,toks:=s.toks}:=I.laid k1 (Xb _) #[Y5 _,[],0,.nil,t1];have a:h1.IsItemsView v d:=by obtain⟨o,B,r⟩:=hv;exact#[o,k1 _ _ B,r]
 have nv:s.heap.objs.size≠v:=Y3 Wx;have nd:d≠s.heap.objs.size:=XB UN;have LX:Builtin.List.listSameRef (.ref s.heap.objs.size) (.ref v)=K':=by simp[Builtin.List.listSameRef,nv]
 refine wx (m:=Builtin.List.listExtendWith (.ref s.heap.objs.size) (.ref v) (.ref s.heap.objs.size)) ?_;unfold Builtin.List.listExtendWith;refine W1 (ZL (s:={s with heap:=h1}) (T:="dict_items") a.typeIs (ite_no (by rw[LX];decide) ?_));refine W1 (vo (s:={s with heap:=h1}) a (k1 _ _ sM) qk λY L5 k2=>?_);dsimp only at L5;have T1:Shared.TypeIs {s with heap:=Y} (.ref v) "dict_items":=by obtain⟨o,B,K,_⟩:=a;exact#[o,k2 _ _ B,K]
 refine W1 (Zz (kdx_hint T1 ?_));have F:h1.objs.size≠s.heap.objs.size:=by rw[O];exact Nat.succ_ne_self _
 have P:H s.heap.objs.size=G':=I.fresh;have I2:Inv X M' σ (upd H s.heap.objs.size (.lst ([].map V.ref))) {s with heap:=Y,toks:=s.toks}:=g.kept k2;have fit:iy X M' (upd H s.heap.objs.size (.lst ([].map V.ref))) h1.objs.size:=g.nN (Xb _) (g.hok.fresh (Xb _));have key:∀(h:Heap)(c:Nat),(∀b o,b≠s.heap.objs.size->Y.get? b=B' o->h.get? b=B' o)->h.get? s.heap.objs.size=B' (seqObj "list" #[] c)->∀R:Result->Shared->Prop,(∀l L ps J n,Inv X M' σ L l->l.heap.get? s.heap.objs.size=B' (seqObj "list" J n)->au (ps.map V.ref) J.toList->ps.length=xs.length->lG xs L ps->bJ H L->R (.ok (.ret (.ref s.heap.objs.size))) l)->
   codeAny (model X.prog X.w) A (.builtin "list.extend.loop" #[[.ref s.heap.objs.size,.ref h1.objs.size,.ref s.heap.objs.size],[]]) R {s with heap:=h}:=λh c kh hS R hR=>by
  have Z:=I2.write (x:=s.heap.objs.size) (e:=s.heap.objs.size) (t':=s.toks) (h':=h) (o:=.lst ([].map V.ref)) (by rw[aB];trivial) (.inl rfl) (λb o M e=>kh b o M e) #[_,hS] #[Y5 _,[],c,.nil,hS];rw[G4]at Z;refine Ba (od:=od) (es:=es) (ep:=ep) (H0:=H) y F eQ P qk er xs.length 0 _ _ [] (Nat.sub_zero _) (Y5 _) Z fit #[_,by rw[ax nd];exact hd] nd (kh d _ nd (k2 _ _ (k1 _ _ sM))) (.inl (kh _ _ F L5)) aB rfl
   (λj x p _ q=>by simp at q) (λb o e=>by rw[ax (aJ e P)];exact e) λl L ps u z W hD t=>?_
  obtain⟨_,J,n,rv,B⟩:=u.hok _ _ z;exact hR l L ps J.toArray n u B rv W hD t
 have fin:∀(l:Shared)(L:Hp)(ps:List Addr)(J:Array Value)(n:Nat),Inv X M' σ L l->l.heap.get? s.heap.objs.size=B' (seqObj "list" J n)->au (ps.map V.ref) J.toList->ps.length=xs.length->lG xs L ps->bJ H L->Q J.toList l:=λl L ps J n u _ rv W hD t=>hQ l L ps _ u rv W hD t
 refine wpAny_ite_split (λ_=>?_) (λ_=>W4 #[plainId_quiet PySem.F.plain_extend_loop _,key Y 0 (λb o _ e=>e) (k2 _ _ t1) _ ?_])
 ·refine W1 (ZH (W1 ?_));unfold Builtin.List.listTouch;have t2:Y.get? s.heap.objs.size=B' (seqObj "list" #[] 0):=k2 _ _ t1;refine W1 (listUpdate_at (s:={s with heap:=Y}) t2 rfl ?_ (by decide) (by decide));obtain⟨w,t3⟩:∃c,(Y.update s.heap.objs.size (Obj.mapSeq λx=>x.push .none)).get? s.heap.objs.size=B' (seqObj "list" #[.none] c):=#[_,get?_update_seq t2 λx=>x.push .none];refine listUpdate_at (s:={s with heap:=Y.update s.heap.objs.size (Obj.mapSeq λx=>x.push .none)}) t3 rfl ?_ (by decide) (by decide);obtain⟨S,t4⟩:∃c,((Y.update s.heap.objs.size (Obj.mapSeq λx=>x.push .none)).update s.heap.objs.size (Obj.mapSeq λx=>x.pop)).get? s.heap.objs.size=B' (seqObj "list" #[] c):=#[_,get?_update_seq t3 λx=>x.pop];refine W4 #[plainId_quiet PySem.F.plain_extend_loop _,key _ S (λb o M e=>(Xy _ _ (Y6 M)).trans ((Xy _ _ (Y6 M)).trans e)) t4 _ ?_];intro l L ps J n u B rv W hD t;exact W1 (m:=load s.heap.objs.size) (wpAny_load B (W4 (fin l L ps J n u B rv W hD t)))
 ·intro l L ps J n u B rv W hD t;refine W1 (m:=load s.heap.objs.size) (wpAny_load B (W4 (fin l L ps J n u B rv W hD t)))
theorem qX(hu:X.A.units+150<cLine)(K:X.calm=J')(I:Inv X M' σ H s)(n:s.heap.IsItemsView v d)(hd:H d=B' (dg X.prog X.w d xs))(g:dI H xs)(E:ds.length=xs.length)
  (u:∀(j:Nat)(x:D×V×V)(e:D),xs[j]?=B' x->ds[j]?=B' e->bj H [x.2.1,x.2.2] [x.1,e]) (O:i8 ((xs.zip ds).map λz=>.tup [z.1.1,z.2]))
  (q:∀L l w es,bJ H L->L l=G'->bj L w es->gC ((xs.zip ds).map λz=>.tup [z.1.1,z.2]) es->Q (.ref l) (upd L l<|.lst w)):wpAny (model X.prog X.w) X.A (call (.builtin "sorted") [.ref v]) (EP X M' σ Q) X.xe s:=by
 refine Calls.call_function_entry kind_sorted plain_sorted entry_sorted (args_sorted1 _) ?_;unfold Builtin.«sorted»;refine W1 (m:=checkCount "sorted" 1 1 _)<|W4<|W1<|rV (I.ok.hd K) I n hd g.len λs' L ps i I1 rv W hD oI=>?_;have h:bj L (ps.map V.ref) ((xs.zip ds).map λz=>.tup [z.1.1,z.2]):=by
  refine Bj (by simp[W,E]) λj a e Z Y=>?_
  rw[Xp]at Z Y;obtain⟨p,J,rfl⟩:=Xl.mp Z;obtain⟨z,k,rfl⟩:=Xl.mp Y;obtain⟨g1,r⟩:=List.getElem?_zip_eq_some.mp k;exact DV.tup (hD j z.1 p g1 J) ((u j z.1 z.2 g1 r).mono λa xs e=>oI _ _ e)
 exact kf (A:=X.A.in1) (by show X.A.units+1+148<cLine;lia) I1 rv h O λl w es t Z k uF I2=>#[_,rfl,.ref l,_,I2,rfl,q L l w es oI Z k uF]
end
end Mx
end
section
namespace Rx
open PySem PySem.W PySem.Spec PyProof.Rows L2 PySem.SeqAt
structure Fm where
 K:Frag
 H0:Hp
 d0:Option Addr
 Ek:Nat->Prop
 P:Program
 w:World
structure Ow where
 W:Addr->Prop
 A:Addr->Prop
 dr:Option Addr
def Ow.wd(o:Ow):Addr->Prop:=λa=>o.W a\/o.dr=B' a
def Ow.d(o:Ow):Addr->Prop:=λa=>o.dr=B' a
def OV(Φ:Fm)(o:Ow)(H:Hp)(v:V):Dt->Prop
 |.lst ds=>∃a xs,v= .ref a/\H a=B' (.lst xs)/\o.A a/\¬o.W a/\o.dr≠B' a/\Φ.H0 a=G'/\aq Φ.K o.A H xs ds
 |.c8 ks vs=>∃(a:Addr)(xs:Mx.Ent),v= .ref a/\H a=B' (Mx.dg Φ.P Φ.w a xs)/\o.A a/\¬o.W a/\o.dr≠B' a/\Φ.H0 a=G'/\Mx.dI H xs/\ks=xs.map (λx=>ofD x.1)/\aq Φ.K o.A H (xs.map (·.2.2)) vs
 |d=>RV Φ.K o.A H v d
structure ER(Φ:Fm)(Γ:Gm)(o:Ow)(ρ:aj)(S:Sx)(σ:L2.St)(H:Hp):Prop where
 len:σ.length=ρ.length
 wa:∀a,o.W a->o.A a
 da:∀a,o.dr=B' a->o.A a
 al:∀a,o.A a->∃x,H a=B' x
 val:∀(i:Nat)(d:Dt),ρ[i]?=B' (B' d)->∃v,σ[i]?=B' (B' v)/\(if cL Γ i=J' then OV Φ o H v d else RV Φ.K o.A H v d)
 dk:∀(i:Nat)(ks vs:List Dt),ρ[i]?=B' (B'<|.c8 ks vs)->Γ.κ=B' i
 inj:∀(i j:Nat)(a:Addr)(d e:List Dt),cL Γ i=J'->cL Γ j=J'->ρ[i]?=B' (B'<|.lst d)->ρ[j]?=B' (B'<|.lst e)->σ[i]?=B' (B'<|.ref a)->σ[j]?=B' (B'<|.ref a)->i=j
 drw:∀a,o.dr=B' a->∃ns:List Int,S=B' ns/\H a=B' (.lst<|ns.map V.int)
 drn:o.dr=G'->S=G'
 drs:∀(i:Nat)(a:Addr),Γ.δ=B' i->o.dr=B' a->σ[i]?=B' (B'<|.ref a)
 dr0:∀a,o.dr=B' a->Φ.d0=B' a\/Φ.H0 a=G'
 ent:aZ (λb=>Φ.d0=B' b) Φ.H0 H
section
variable{Φ:Fm}{Γ:Gm}{o:Ow}{ρ:aj}{S S':Sx}{σ:L2.St}{H H':Hp}
def nD:Dt->Bool
 |.c8 _ _=>K'
 |_=>J'
theorem OV.val(h:OV Φ o H v d)(nd:nD d=J')(wa:∀a,o.W a->o.A a)(da:∀a,o.dr=B' a->o.A a):RV Φ.K o.wd H v d:=by
 have y:∀b,o.wd b->o.A b:=λb z=>z.elim (wa b) (da b)
 cases d with
 |lst ds=>obtain⟨a,xs,rfl,Z,Y,u,Q,_,n⟩:=h;exact RV.fT Z (λz=>z.elim u Q)<|n.weak y
 |c8=>cases nd
 |_=>exact RV.weak h y
theorem OV.one(h:OV Φ o H v d)(nd:nD d=J'):gy Φ.K o.A H v d:=by
 cases d with
 |lst ds=>obtain⟨a,xs,rfl,Z,Y,u,Q,_,n⟩:=h;exact#[a,xs,rfl,Z,n]
 |c8=>cases nd
 |_=>exact h
theorem dI.tups(h:Mx.dI H xs)(t:Mx.yP H H'):Mx.dI H' xs:=#[λx m=>#[(h.key x m).1.mono t,(h.key x m).2],h.nd,h.len]
theorem OV.ext(h:OV Φ o H v d)(da:∀a,o.dr=B' a->o.A a)(e:aZ o.d H H'):OV Φ o H' v d:=by
 cases d with
 |lst ds=>obtain⟨a,xs,rfl,Z,Y,u,Q,l,n⟩:=h;exact#[a,xs,rfl,e.kp _ _ Z Q,Y,u,Q,l,n.mono e da λ_ z=>z]
 |c8=>obtain⟨a,xs,rfl,Z,Y,u,Q,l,B,k,n⟩:=h;exact#[a,xs,rfl,e.kp _ _ Z Q,Y,u,Q,l,dI.tups B e.tp,k,n.mono e da λ_ z=>z]
 |_=>exact RV.mono e da (λ_ z=>z) h
theorem Dk.set(h:∀(i:Nat)(O c:List Dt),ρ[i]?=B' (B'<|.c8 O c)->κ=B' i)(nd:nD d=J'):∀(j:Nat)(O c:List Dt),(ρ.set i<|B' d)[j]?=B' (B'<|.c8 O c)->κ=B' j:=λj O c F=>by
 by_cases e:j=i
 ·subst e;rw[Yq]at F;simp only[Zo]at F;split at F
  ·cases F;cases nd
  ·cases F
 ·rw[Xn (Y6 e)]at F;exact h j O c F
theorem Dk.none(h:∀(i:Nat)(O c:List Dt),ρ[i]?=B' (B'<|.c8 O c)->κ=B' i):∀(j:Nat)(O c:List Dt),(ρ.set i G')[j]?=B' (B'<|.c8 O c)->κ=B' j:=λj O c F=>by
 by_cases e:j=i
 ·subst e;rw[Yq]at F;simp only[Zo]at F;split at F<;>cases F
 ·rw[Xn (Y6 e)]at F;exact h j O c F
theorem RV.nd{K:Frag}(h:RV K A H v d):nD d=J':=by
 cases d with
 |c8=>unfold RV at h;exact h.elim
 |_=>rfl
theorem ER.nd(er:ER Φ Γ o ρ S σ H)(h:ρ[i]?=B' (B' d))(n:Γ.κ≠B' i):nD d=J':=by
 cases d with
 |c8 O c=>exact absurd (er.dk i O c h) n
 |_=>rfl
theorem ER.gv(er:ER Φ Γ o ρ S σ H):∀b,o.wd b->o.A b:=λb z=>z.elim (er.wa b)<|er.da b
theorem ER.AA(er:ER Φ Γ o ρ S σ H):∀b,o.wd b->∃x,H b=B' x:=λb z=>er.al b<|er.gv b z
theorem aZ.al(e:aZ X H H')(h:H b=B' x)(L:X b->∃y,H' b=B' y):∃y,H' b=B' y:=by
 by_cases z:X b
 ·exact L z
 ·exact#[x,e.kp _ _ h z]
theorem ER.step(er:ER Φ Γ o ρ S σ H)(e:aZ o.d H H')(hd:∀a,o.dr=B' a->∃ns:List Int,S'=B' ns/\H' a=B' (.lst<|ns.map V.int))(P:o.dr=G'->S'=G'):ER Φ Γ o ρ S' σ H' where
 len:=er.len
 wa:=er.wa
 da:=er.da
 al:=λa t=>by obtain⟨x,L⟩:=er.al a t;exact e.al L λz=>by obtain⟨ns,_,h⟩:=hd a z;exact#[_,h]
 val:=λi d h=>by
  obtain⟨v,Z,Y⟩:=er.val i d h;refine#[v,Z,?_];by_cases m:cL Γ i=J'
  ·rw[Zn m]at Y ⊢;exact Y.ext er.da e
  ·rw[Zm m]at Y ⊢;exact Y.mono e er.da λ_ z=>z
 dk:=er.dk
 inj:=er.inj
 drw:=hd
 drn:=P
 drs:=er.drs
 dr0:=er.dr0
 ent:=#[λb x h n=>by
   refine e.kp _ _ (er.ent.kp b x h n) λz=>?_
   rcases er.dr0 b z with q|q
   ·exact n q
   ·(rw[h]at q;cases q),λb xs h=>e.tp _ _<|er.ent.tp b xs h]
theorem ER.re(e:Φ'={Φ with Ek:=Φ'.Ek})(er:ER Φ Γ o ρ S σ H):ER Φ' Γ o ρ S σ H:=by
 rw[e];refine#[er.len,er.wa,er.da,er.al,λi d h=>?_,er.dk,er.inj,er.drw,er.drn,er.drs,er.dr0,er.ent];obtain⟨v,Z,Y⟩:=er.val i d h;refine#[v,Z,?_];by_cases m:cL Γ i=J'
 ·rw[Zn m]at Y ⊢;cases d<;>exact Y
 ·rw[Zm m]at Y ⊢;exact Y
theorem ER.grow(er:ER Φ Γ o ρ S σ H)(s:bJ H H'):ER Φ Γ o ρ S σ H':=er.step (aZ.of_same s) (λa h=>by
 obtain⟨ns,Z,Y⟩:=er.drw a h;exact#[ns,Z,s _ _ Y]) er.drn
end
def mR(Ek:Nat->Prop){α:Type}(r:R α)(P:α->Prop):Prop:=match r with
 |.ok a=>P a
 |.ex k=>Ek k
 |.bad=>False
section
variable{Ek:Nat->Prop}{α β:Type}
theorem ae{f:α->R β}:mR Ek (r.bind f) P↔mR Ek r λa=>mR Ek (f a) P:=by cases r<;>rfl
theorem ag(h:mR Ek r P)(F:∀a,r= .ok a->P a->Q a):mR Ek r Q:=by
 cases r with
 |ok a=>exact F a rfl h
 |ex k=>exact h
 |bad=>exact h
theorem ay{r:R α}(h:mR Ek (af b r) P):b=J'/\mR Ek r P:=by
 cases b with
 |true=>exact#[rfl,h]
 |false=>exact h.elim
end
structure EO(K:Frag)(fr:Nat->Bool)(o:Ow)(c:C)(H:Hp)(d:Dt)(v:V)(H':Hp):Prop where
 ext:aZ o.d H H'
 val:RV K o.wd H' v d
 mX:lk c=0->RV K o.A H' v d
 yB:lk c<=1->gy K o.A H' v d
 fH:fresh fr c=J'->∀ds,d= .lst ds->∃a xs,v= .ref a/\H a=G'/\H' a=B' (.lst xs)/\aq K (λb=>o.wd b\/b=a) H' xs ds/\(lk c=0->aq K (λb=>o.A b\/b=a) H' xs ds)
structure UG(K:Frag)(o:Ow)(cs:Cs)(H:Hp)(ds:List Dt)(vs:List V)(H':Hp):Prop where
 ext:aZ o.d H H'
 val:aq K o.wd H' vs ds
 mX:qv cs=0->aq K o.A H' vs ds
 yB:qv cs<=1->pC K o.A H' vs ds
section
variable(Φ:Fm)(Γ:Gm)(F:FT)(fr:Nat->Bool)
inductive bE(c:C)(σ:L2.St)(H:Hp)(Q:VK):Prop
 |mk (o:Ow) (ρ:aj) (S:Sx) (e:ER Φ Γ o ρ S σ H) (m:mR Φ.Ek (ev F c ρ S) λp=>∀v H',EO Φ.K fr o c H p.1 v H'->ER Φ Γ o ρ p.2 σ H'->Q v H'):bE c σ H Q
inductive fE(c:C)(σ:L2.St)(H:Hp)(Q:Bool->Hp->Prop):Prop
 |mk (o:Ow) (ρ:aj) (S:Sx) (e:ER Φ Γ o ρ S σ H) (m:mR Φ.Ek (cz F c ρ S) λp=>∀H',aZ o.d H H'->ER Φ Γ o ρ p.2 σ H'->Q p.1 H'):fE c σ H Q
inductive ny(cs:Cs)(σ:L2.St)(H:Hp)(Q:List V->Hp->Prop):Prop
 |mk (o:Ow) (ρ:aj) (S:Sx) (e:ER Φ Γ o ρ S σ H) (m:mR Φ.Ek (gq F cs ρ S) λp=>∀vs H',UG Φ.K o cs H p.1 vs H'->ER Φ Γ o ρ p.2 σ H'->Q vs H'):ny cs σ H Q
inductive yG(cs:Cs)(σ:L2.St)(H:Hp)(Q:Bool->Hp->Prop):Prop
 |mk (o:Ow) (ρ:aj) (S:Sx) (e:ER Φ Γ o ρ S σ H) (m:mR Φ.Ek (bM F cs ρ S) λp=>∀H',aZ o.d H H'->ER Φ Γ o ρ p.2 σ H'->Q p.1 H'):yG cs σ H Q
end
structure Wk(K:Frag)(A X:Addr->Prop)(J:It)(H:Hp)(ds:List Dt):Prop where
 go:∀(i:Nat)(H1:Hp),i<ds.length->aZ X H H1->J.go i H1
 stop:∀(H1:Hp),aZ X H H1->J.stop ds.length H1
 yld:∀(i:Nat)(x:V)(H1 H2:Hp),i<ds.length->aZ X H H1->J.yld i H1 x H2->bJ H1 H2/\∃d,ds[i]?=B' d/\∀B:Addr->Prop,(∀b,B b->A b\/H b=G')->RV K B H2 x d
structure IO(K:Frag)(o:Ow)(it:nL)(nl:Bool)(H:Hp)(ds:List Dt)(J:It)(H':Hp):Prop where
 ext:aZ o.d H H'
 w1:uI it<=1->Wk K o.A o.d J H' ds
 w0:uI it=0->Wk K o.A o.A J H' ds
 w2:nl=J'->Wk K o.A o.A J H' ds
inductive rf(Φ:Fm)(Γ:Gm)(F:FT)(it:nL)(σ:L2.St)(H:Hp)(Q:It->Hp->Prop):Prop
 |mk (o:Ow) (ρ:aj) (S:Sx) (e:ER Φ Γ o ρ S σ H) (m:mR Φ.Ek (eO F it ρ S) λp=>∀J H',IO Φ.K o it (iA F it ρ S) H p.1 J H'->ER Φ Γ o ρ p.2 σ H'->Q J H'):rf Φ Γ F it σ H Q
structure GX(g:G)(Γ:Gm)(X:Cx):Prop where
 N:X.N=Γ.N
 nd:Γ.N.Nodup
 vis:∀x,G5 (Γ.names.lookup x)=J'->Iq X.env.scope x
 loc:∀x,Fw (Γ.names.lookup x)=J'->Loc X.env.scope x/\(X.fn x=J'\/X.env.scope.names.lookup x=B' .local)
 gl:∀x,xc (Γ.names.lookup x)=J'->Gl X x
 fre:∀x,(Γ.names.lookup x=B' .cell\/Γ.names.lookup x=B' .free)->(X.env.scope.names.lookup x=B' .cell\/X.env.scope.names.lookup x=B' .free)
 calm:X.calm=J'
 un:X.A.units+150<cLine
 con:∀x d,g.cons.lookup x=B' d->∃u,rE d=J'/\X.mg x=B' u/\RelV (uJ d) u
 bl:∀x∈g.bls,X.mg x=G'
structure FO(K:Frag)(W:Addr->Prop)(dr:Option Addr)(fr:Bool)(H:Hp)(d:Dt)(S':Sx)(v:V)(H':Hp):Prop where
 ext:aZ (λb=>dr=B' b) H H'
 val:RV K W H' v d
 drw:∀a,dr=B' a->∃ns:List Int,S'=B' ns/\H' a=B' (.lst<|ns.map V.int)
 fH:fr=J'->∀ds,d= .lst ds->∃a xs,v= .ref a/\H a=G'/\H' a=B' (.lst xs)/\aq K (λb=>W b\/b=a) H' xs ds
def Uy(K:Frag)(xv:Nat->Value)(F:List Dt->Sx->R (Dt×Sx))(np:Nat)(fr bA:Bool):Sp:=λvs H Q E=>
 vs.length=np/\∃(W:Addr->Prop)(dr:Option Addr)(args:List Dt)(S:Sx)(oh:List V),
  (if bA=J' then∃(a:Addr)(ns:List Int),vs= .ref a::oh/\dr=B' a/\W a/\S=B' ns/\H a=B' (.lst<|ns.map V.int) else vs=oh/\dr=G'/\S=G')/\
  aq K W H oh args/\(∀a,W a->∃x,H a=B' x)/\
  match F args S with
  |.ok p=>∀v H',FO K W dr fr H p.1 p.2 v H'->Q v H'
  |.ex k=>∀H',aZ (λb=>dr=B' b) H H'->E (xv k) G' H'
  |.bad=>False
def Af(Φ:Fm)(a:Nat->Value):XK:=λv _ L=>∃k,v=a k/\Φ.Ek k/\aZ (λb=>Φ.d0=B' b) Φ.H0 L
structure FX(g:G)(xv:Nat->Value)(CX:nK)(P:Program)(w:World)(K:Frag)(mg:Str->Option Value)(base:Heap)(n k:Nat)(F:FT):Prop where
 fn:∀x f np fN bA,sr x g.fns=B' (f,np,fN,bA)->∃(fa:Addr)(fd:FuncData)(ps:List Str),ps.length=np/\mg x=B' (.ref fa)/\PySem.W.keepIn K (.ref fa)=J'/\
  jV P w K mg base CX k fa fd ps (Uy K xv (F f) np (g.fr f) bA)/\(∀j,j<=fN.length->∃ds,au ((fN.drop j).map uJ) ds/\Binds K fd ps ds)/\fN.all rE=J'
end Rx
end
section
namespace Rx
open PySem PySem.W PySem.Spec PyProof.Rows L2
section
variable{F:FT}{ρ:aj}{S:Sx}
theorem yn{i}:ev F (.var i) ρ S=(bZ ρ i).bind λd=>.ok (d,S):=rfl
theorem qO{i}:ev F (.mvr i) ρ S=(bZ ρ i).bind λd=>.ok (d,S):=rfl
theorem yj{o}{a}{b}:ev F (.bin o a b) ρ S=(ev F a ρ S).bind λx=>(ev F b ρ x.2).bind λy=>(qE o x.1 y.1).bind λd=>.ok (d,y.2):=rfl
theorem Gp{o}{a}{b}:ev F (.cmp o a b) ρ S=(ev F a ρ S).bind λx=>(ev F b ρ x.2).bind λy=>(cZ o x.1 y.1).bind λd=>.ok (.bl d,y.2):=rfl
theorem Gr{a}:ev F (.neg a) ρ S=(ev F a ρ S).bind λx=>match x.1 with|.int i=>.ok (.int<|-i,x.2)|_=>.bad:=rfl
theorem KC{a}:ev F (.nt a) ρ S=(ev F a ρ S).bind λx=>match x.1 with|.bl b=>.ok (.bl !b,x.2)|_=>.bad:=rfl
theorem Gn{a}{b}:ev F (.and a b) ρ S=(ev F a ρ S).bind λx=>match x.1 with|.bl J'=>(ev F b ρ x.2).bind λy=>(match y.1 with|.bl c=>.ok (.bl c,y.2)|_=>.bad)|.bl K'=>.ok (.bl K',x.2)|_=>.bad:=rfl
theorem KD{a}{b}:ev F (.or a b) ρ S=(ev F a ρ S).bind λx=>match x.1 with|.bl K'=>(ev F b ρ x.2).bind λy=>(match y.1 with|.bl c=>.ok (.bl c,y.2)|_=>.bad)|.bl J'=>.ok (.bl J',x.2)|_=>.bad:=rfl
theorem ym{a}{b}:ev F (.idx a b) ρ S=(ev F a ρ S).bind λx=>(ev F b ρ x.2).bind λy=>(cD x.1 y.1).bind λd=>.ok (d,y.2):=rfl
theorem C2{a}{l}:ev F (.sliL a l) ρ S=(ev F a ρ S).bind λx=>(ev F l ρ x.2).bind λy=>match y.1 with|.int i=>(iE x.1 (B' i) G').bind λd=>.ok (d,y.2)|_=>.bad:=rfl
theorem C1{a}{h}:ev F (.sliH a h) ρ S=(ev F a ρ S).bind λx=>(ev F h ρ x.2).bind λy=>match y.1 with|.int i=>(iE x.1 G'<|B' i).bind λd=>.ok (d,y.2)|_=>.bad:=rfl
theorem Gu{es}:ev F (.tup es) ρ S=(gq F es ρ S).bind λx=>af (decide (x.1.length<=lim)) (.ok (.tup x.1,x.2)):=rfl
theorem Gq{es}:ev F (.lst es) ρ S=(gq F es ρ S).bind λx=>af (decide (x.1.length<=lim)) (.ok (.lst x.1,x.2)):=rfl
theorem tM{f}{es}{ds}:ev F (.call f es ds) ρ S=(gq F es ρ S).bind λx=>(F f (x.1++ds) G').bind λy=>.ok (y.1,x.2):=rfl
theorem oZ{f}{es}:ev F (.callD f es) ρ S=af S.isSome ((gq F es ρ S).bind λx=>match x.2 with|some s=>F f x.1 (B' s)|none=>.bad):=rfl
theorem C0:ev F (.popD) ρ S=match S with|some ns=>af (!ns.isEmpty) (.ok (.int<|ns.getLastD 0,B' ns.dropLast))|none=>.bad:=rfl
theorem CY{i}{k}{e}:ev F (.BB i k e) ρ S=af (jx ρ i) ((ev F k ρ S).bind λx=>(ev F e ρ x.2).bind λy=>(bZ ρ i).bind λz=>(A6 z x.1 y.1).bind λd=>.ok (d,y.2)):=rfl
theorem CZ{i}{k}:ev F (.ninK i k) ρ S=af (jx ρ i) ((ev F k ρ S).bind λx=>(bZ ρ i).bind λz=>(kG z x.1).bind λb=>.ok (.bl b,x.2)):=rfl
theorem tN{i}:ev F (.srtI i) ρ S=(bZ ρ i).bind λz=>(wR z).bind λd=>.ok (d,S):=rfl
theorem yl{o}{k}{e}:ev F (.gtO o k e) ρ S=(ev F o ρ S).bind λz=>af (NL z.1) ((ev F k ρ z.2).bind λx=>(ev F e ρ x.2).bind λy=>(xR z.1 x.1 y.1).bind λd=>.ok (d,y.2)):=rfl
theorem qN{b}{es}:ev F (.bi b es) ρ S=(gq F es ρ S).bind λx=>(dU b x.1).bind λd=>.ok (d,x.2):=rfl
theorem jK{cap}{it}{tg}{ts}{e}:ev F (.comp cap it tg ts e) ρ S=(eO F it ρ S).bind λx=>af (decide (x.1.length<=lim)&&(decide (uI it<=1)||iA F it ρ S)) ((aP (aU tg (bM F ts) (λρ1 S1=>(ev F e ρ1 S1).bind λy=>af (bP e y.1)<|.ok ([y.1],y.2))<|iM cap ρ) x.1 x.2).bind λq=>.ok (.lst q.1,q.2)):=rfl
theorem oY{i}{k}:cz F (.ninK i k) ρ S=af (jx ρ i) ((ev F k ρ S).bind λx=>(bZ ρ i).bind λz=>(kG z x.1).bind λb=>.ok (b,x.2)):=rfl
theorem Gj{a}:cz F (.nt a) ρ S=(cz F a ρ S).bind λx=>.ok (!x.1,x.2):=rfl
theorem CT{a}{b}:cz F (.and a b) ρ S=(cz F a ρ S).bind λx=>if x.1 then cz F b ρ x.2 else .ok (K',x.2):=rfl
theorem Gk{a}{b}:cz F (.or a b) ρ S=(cz F a ρ S).bind λx=>if x.1 then .ok (J',x.2) else cz F b ρ x.2:=rfl
theorem CU{o}{a}{b}:cz F (.cmp o a b) ρ S=(ev F a ρ S).bind λx=>(ev F b ρ x.2).bind λy=>(cZ o x.1 y.1).bind λd=>.ok (d,y.2):=rfl
theorem CW{i}:cz F (.var i) ρ S=(bZ ρ i).bind λd=>(cK d).bind λb=>.ok (b,S):=rfl
theorem tK{i}:cz F (.mvr i) ρ S=(bZ ρ i).bind λd=>(cK d).bind λb=>.ok (b,S):=rfl
theorem zT{f}{es}{ds}:cz F (.call f es ds) ρ S=(gq F es ρ S).bind λx=>(F f (x.1++ds) G').bind λy=>(cK y.1).bind λb=>.ok (b,x.2):=rfl
theorem vR{f}{es}:cz F (.callD f es) ρ S=af S.isSome ((gq F es ρ S).bind λx=>match x.2 with|some s=>(F f x.1<|B' s).bind λy=>(cK y.1).bind λb=>.ok (b,y.2)|none=>.bad):=rfl
theorem Gi{b}{es}:cz F (.bi b es) ρ S=(gq F es ρ S).bind λx=>(dU b x.1).bind λd=>(cK d).bind λb=>.ok (b,x.2):=rfl
theorem CV{a}{b}:cz F (.idx a b) ρ S=(ev F a ρ S).bind λx=>(ev F b ρ x.2).bind λy=>(cD x.1 y.1).bind λd=>(cK d).bind λb=>.ok (b,y.2):=rfl
theorem mK:gq F (.nil) ρ S= .ok ([],S):=rfl
theorem ie{c}{cs}:gq F (.cons c cs) ρ S=(ev F c ρ S).bind λx=>(gq F cs ρ x.2).bind λy=>.ok (x.1::y.1,y.2):=rfl
theorem kc:bM F (.nil) ρ S= .ok (J',S):=rfl
theorem tL{c}:bM F (.cons c .nil) ρ S=cz F c ρ S:=rfl
theorem zR{c}:eO F (.seq c) ρ S=(ev F c ρ S).bind λx=>match gU x.1 with|some ds=>.ok (ds,x.2)|none=>.bad:=rfl
theorem vP{c}:eO F (.rng1 c) ρ S=(ev F c ρ S).bind λx=>match x.1 with|.int j=>af (decide (j<=lim)&&decide (-lim<=j)) (.ok (bD 0 j.toNat,x.2))|_=>.bad:=rfl
theorem zS{a}{b}:eO F (.zip a b) ρ S=(ev F a ρ S).bind λx=>(ev F b ρ x.2).bind λy=>match cg x.1,cg y.1 with|some xs,B' ys=>.ok (jU xs ys,y.2)|_,_=>.bad:=rfl
theorem vO{c}:eO F (.enum c) ρ S=(ev F c ρ S).bind λx=>match cg x.1 with|some ds=>.ok (wW 0 ds,x.2)|none=>.bad:=rfl
theorem lz{i}{c}:ex F (.asg i c) ρ S=(ev F c ρ S).bind λx=>af (bP c x.1) (.ok (.next,ρ.set i<|B' x.1,x.2)):=rfl
theorem mL{i}{c}:ex F (.asgM i c) ρ S=(ev F c ρ S).bind λx=>af (yC c x.1) (.ok (.next,ρ.set i<|B' x.1,x.2)):=rfl
theorem tO{i}{c}:ex F (.asgD i c) ρ S=(ev F c ρ S).bind λx=>match x.1 with|.lst ds=>(match intsOf ds with|some ns=>af (decide (lk c=0)&&decide (i<ρ.length)) (.ok (.next,ρ.set i G',B' ns))|none=>.bad)|_=>.bad:=rfl
theorem C3{i}{k}{v}:ex F (.vW i k v) ρ S=af (isLE ρ i) ((ev F v ρ S).bind λx=>(ev F k ρ x.2).bind λy=>af (bP v x.1)<|(jA ρ i).bind λds=>match y.1 with|.int n=>(match qq ds.length n with|some j=>.ok (.next,ρ.set i<|B'<|.lst<|ds.set j x.1,y.2)|none=>.bad)|_=>.bad):=rfl
theorem tP{i}:ex F (.zc i) ρ S= .ok (.next,ρ.set i<|B'<|.c8 [] [],S):=rfl
theorem tQ{i}{k}{v}:ex F (.dset i k v) ρ S=af (jx ρ i) ((ev F v ρ S).bind λx=>(ev F k ρ x.2).bind λy=>(bZ ρ i).bind λz=>af (decide (lk v=0))<|(wQ z y.1 x.1).bind λd=>.ok (.next,ρ.set i<|B' d,y.2)):=rfl
theorem Gv{i}{c}:ex F (.app i c) ρ S=af (isLE ρ i) ((ev F c ρ S).bind λx=>af (bP c x.1)<|(jA ρ i).bind λds=>af (decide (ds.length<=lim))<|.ok (.next,ρ.set i<|B'<|.lst<|ds++[x.1],x.2)):=rfl
theorem qR{i}{c}:ex F (.xtd i c) ρ S=af (isLE ρ i) ((ev F c ρ S).bind λx=>af (decide (lk c<=1))<|(jA ρ i).bind λds=>match x.1 with|.lst es=>af (decide (ds.length+es.length<=lim)) (.ok (.next,ρ.set i<|B'<|.lst<|ds++es,x.2))|.tup es=>af (decide (ds.length+es.length<=lim)) (.ok (.next,ρ.set i<|B'<|.lst<|ds++es,x.2))|_=>.bad):=rfl
theorem Gx{i}:ex F (.clr i) ρ S=(jA ρ i).bind λ_=>.ok (.next,ρ.set i<|B'<|.lst [],S):=rfl
theorem yo{i}:ex F (.rvs i) ρ S=(jA ρ i).bind λds=>.ok (.next,ρ.set i<|B'<|.lst ds.reverse,S):=rfl
theorem Gy{c}:ex F (.LJ c) ρ S=(ev F c ρ S).bind λx=>.ok (.next,ρ,x.2):=rfl
theorem lA{c}:ex F (.ret c) ρ S=(ev F c ρ S).bind λx=>.ok (.ret x.1,ρ,x.2):=rfl
theorem qQ{t}{a}{b}:ex F (.ifs t a b) ρ S=(cz F t ρ S).bind λx=>if x.1 then aO F a ρ x.2 else aO F b ρ x.2:=rfl
theorem qP{tg}{it}{b}:ex F (.fr tg it b) ρ S=(eO F it ρ S).bind λx=>af (decide (uI it=0)||iA F it ρ S) (forL tg (aO F b) x.1 ρ x.2):=rfl
theorem KF{k}{c}:ex F (.rs k c) ρ S=af (c.all<|FB ρ) (.ex k):=rfl
theorem bp{t}{ts}:aO F (.cons t ts) ρ S=(ex F t ρ S).bind λp=>match p.1 with|.next=>aO F ts p.2.1 p.2.2|f=>.ok (f,p.2):=rfl
end
end Rx
end
section
namespace L2
open PySem PySem.Spec PyProof.Rows
@[reducible]def IH:List Value:=[.type "ValueError",.type "Exception",.type "BaseException",.type "object"]
theorem Cm{K:PySem.W.Frag}(X:K.In h)(c:K.In h')(ok:PySem.W.nsOkIn K N=J')(G:h.Ns N m):h'.Ns N m:=by
 unfold PySem.W.nsOkIn at ok;split at ok
 ·rename_i lk;obtain⟨ob,es,ep,B,S⟩:=G;have E:=X _ _ lk;rw[B]at E;cases E;exact#[_,es,ep,c _ _ lk,S]
 ·cases ok
theorem zh{K:PySem.W.Frag}(X:K.In h)(q:PySem.W.excIn K C Hb newId=J'):
  ∃(v:List Value)(ns:Addr)(nm a:Str)(bs:List Value)(hd:Bool)(sn:List Str)(sub:List Value)(ab:Bool)(col:Option Bool)(dd:Option Addr)(k0 k1 k2 k3 k5:Option Value)(o:Str->Option Value),o "__init__"=G'/\
   ∀h':Heap,K.In h'->h'.get? C=B' (excClassObj nm a C ns bs v hd sn sub ab col dd k0 k1 k2 k3 k5 newId)/\h'.Ns ns o/\OwnTail h' Hb v:=by
 unfold PySem.W.excIn at q;split at q
 ·rename_i PP i k r;split at q
  ·rename_i D b s0 s1 t w n P O es;rw[W5,W5,W5,W5,W5]at q;obtain⟨⟨⟨⟨⟨q1,q2⟩,L⟩,u⟩,s⟩,m⟩:=q;have p:=Xt q1;have j:=Xt q2;have g:i.hasDel=K':=by simpa using L
   have x:=Xt m;subst p j;cases i with
   |mk nm bs mro ns a hd sn sub ab col del=>
    have B:=O;have E:=g;subst B E;have J:k=[s0,s1,t,w,B' (Value.builtin n),P].toArray:=by
     cases k with
     |mk l=>have e:l=_:=es;rw[e]
    subst J;refine#[b,ns,nm,a,bs,hd,sn,sub,ab,col,PP,s0,s1,t,w,P,h.nsMap ns,PySem.W.nsMap_none_of_in X s x,λh' c=>#[c _ _ r,?_,PySem.W.tail_of_in c u]];exact Cm X c s<|Heap.Ns.of_isNs<|PySem.W.isNs_of_in X s
  ·cases q
 ·cases q
def PM(X:Cx)(e:Expr)(p:St->Prop):Prop:=∀(S:List (Addr×Obj))(s:Shared)(O:St)(H:Hp)(Q:Value->Shared->Prop),Inv X S O H s->p O->(∀u l,l.heap=s.heap->Inv X S O H l->Q u l)->wpAny (model X.prog X.w) X.A (eval e X.env) Q X.xe s
def Me(X:Cx)(e:Expr)(p:St->Prop):Prop:=∀(S:List (Addr×Obj))(s:Shared)(O:St)(H:Hp)(Q:Value->Shared->Prop),Inv X S O H s->p O->(∀(y:Str)t l,y.length<=1000->l.heap=s.heap->Inv X S O H l->Q (.str y t) l)->wpAny (model X.prog X.w) X.A (eval e X.env) Q X.xe s
def Mf(X:Cx)(es:List Expr)(p:St->Prop):Prop:=∀(c:Str)(S:List (Addr×Obj))(s:Shared)(O:St)(H:Hp)(Q:Value->Shared->Prop),Inv X S O H s->p O->c.length+1000*es.length<=sizeLine->(∀u l,l.heap=s.heap->Inv X S O H l->Q u l)->
 wpAny (model X.prog X.w) X.A (joinParts c<|evalEach es X.env) Q X.xe s
theorem t9{O:St}(I:Inv X M' O H s)(k):Inv X M' O H {s with toks:=k}:=I.tok k
section
variable{X:Cx}
theorem Kt{j pos}:PM X (.Constant (.str x) j pos) p:=λS s O H Q I _ q=>Calls.Constant_str<|q _ _ rfl<|I.tok _
theorem F3{j pos}(h:x.length<=1000):Me X (.Constant (.str x) j pos) p:=λS s O H Q I _ q=>Calls.Constant_str<|q _ _ _ h rfl<|I.tok _
theorem m8(n:Nat)(h:n<10^19):(Str.ofString<|toString (n:Int)).length<=1000:=by
 have e:=int_text_length_le10 (a:=(n:Int)) (k:=19) (by decide) ⋯;rw[PySem.ofString_length]
 lia
theorem log2_small{n:Nat}(h:n<10^19):((n:Int)).natAbs.log2<1920:=by
 have e:((n:Int)).natAbs=n:=rfl;rw[e];by_cases hz:n=0
 ·subst hz;decide
 ·have:=(Nat.log2_lt hz (k:=1920)).mpr (Xr h (by decide +kernel));exact this
theorem F4{i:Nat}(o:X.N[i]?=B' x)(hv:Iq X.env.scope x)(hd:(x==("__debug__":Str))=K')(z:(x==("__classdict__":Str))=K'):Me X (.FormattedValue (.Name x pos) (-1) G' Jc) (λO=>∃n:Nat,O[i]?=B' (B'<|.int n)/\n<10^19):=by
 intro S s O H Q I #[n,Z,Y] q;obtain⟨m,P,W⟩:=I.loc;obtain⟨u,r,l⟩:=W i x _ o Z hv;obtain⟨t,rfl⟩:=r;have fin:wpAny (model X.prog X.w) X.A (formatField (.int n t) Str.empty) Q X.xe s:=formatField_int_small (log2_small Y)<|q _ _ _ (m8 n Y) rfl<|t9 I _;rcases l with ⟨g,A⟩|⟨g,c,K,J⟩
 ·exact FormattedValue_plain<|wpAny_Name (wpAny_loadName_local I.ok.kind g P A fin) hd
 ·rcases g with g|g
  ·exact FormattedValue_plain<|wpAny_Name (wpAny_loadName_cell I.ok.kind g K J fin) hd
  ·exact FormattedValue_plain<|wpAny_Name (wpAny_loadName_free I.ok.kind g K J fin z) hd
theorem CK{n:Nat}(j:Gl X x)(A:X.mg x=B' u)(r:RelV (.int n) u)(Y:n<10^19)(hd:(x==("__debug__":Str))=K'):Me X (.FormattedValue (.Name x pos) (-1) G' Jc) p:=by intro S s O H Q I _ q;obtain⟨t,rfl⟩:=r;exact FormattedValue_plain<|jy I j A (formatField_int_small (log2_small Y)<|q _ _ _ (m8 n Y) rfl<|t9 I _) hd
theorem F7:Mf X [] p:=λc S s O H Q I _ W q=>joinParts_nil (q _ _ rfl<|I.tok _) (by simpa using W)
theorem CL(P:Me X e p)(ht:Mf X es p)(w:evalEach (e::es) X.env=eval e X.env::evalEach es X.env):Mf X (e::es) p:=by intro c S s O H Q I J W q;rw[w];refine joinParts_cons<|P S s O H _ I J λy t l m hh b=>?_;have B:(c++y).length=c.length+y.length:=strLen_append ..;rw[Xo]at W;refine#[by rw[B];lia,ht (c++y) S l O H Q b J ⋯ λu v Y I2=>q u v (Y.trans hh) I2]
theorem zO(h:Mf X (e1::e2::es) p)(W:(e1::e2::es).length<=100):PM X (.JoinedStr (e1::e2::es) pos) p:=by intro S s O H Q I J q;have k:Str.empty.length=0:=rfl;have x:=Zu;exact JoinedStr_many<|h Str.empty S s O H Q I J ⋯ q
end
def Lb(cls:Value)(E:XK)(p:St->Prop):TS:=λ_ O H=>p O/\E cls G' H
section
variable{X:Cx}{E:XK}{C:Addr}{c:Str}{arg:Expr}{p:St->Prop}{np c7 pos:Pos}
theorem FG(hN:N<=h.objs.size)(g:∀b,h.objs.size<=b->H b=G')(dd:Mx.Dd h h')(m:Heap.MadeExcOf h h' a cls args):i9 N cls a H h':=by
 obtain⟨t,B,E,J⟩:=m.there;have ge:h.objs.size<=a:=by
  rcases Nat.lt_or_ge a h.objs.size with W|W
  ·have:=dd.none a W m.new;rw[B]at this;cases this
  ·exact W
 refine#[Xh hN ge,g a ge,#[_,_,B,#[rfl,rfl],rfl,.inl rfl],λT z=>?_];obtain⟨o,c,O,j,I⟩:=z;rw[B]at O;cases O;cases j;cases I
theorem CP(y:X.A.handled=G')(Hy:X.pn=[])(j:Gl X c)(A:X.mg c=B' (.ref C))(hC:PySem.W.excIn X.K C IH "ValueError.__new__"=J')(L:∀e l,nG X E e l->X.xe e l)(P:PM X arg p)
  (oJ:starEach [arg] X.env=[(K',eval arg X.env)]) (qj:(c==("__debug__":Str))=K'):PS X (.Raise (B'<|.Call (.Name c np) [arg] [] c7) G' pos) (Lb (.ref C) E p):=by
 intro S s O H D I h;obtain⟨Z,Y⟩:=h;obtain⟨v,ns,nm,qn,bs,hd,sn,sub,ab,col,dd,k0,k1,k2,k3,k5,o,i,F⟩:=zh I.lj hC;have T0:=(F _ I.lj).2.2;have jt:=T0.hasType PySem.F.excBase_ValueError.hasBase;have iD:(backTo c7<|starEach [arg] X.env).any (·.1)=K':=by rw[oJ];rfl
 refine Mx.oj<|ZA (Q:=λ_ _=>False) (E:=λe l=>X.xe e l\/∃t a args,e= .ref a/\t.heap=s.heap/\Inv X S O H t/\l={t with heap:=l.heap}/\Heap.MadeExcOf t.heap l.heap a (.ref C) args) ?_ (λ_ _ z=>z.elim) λe l z hd=>?_
 ·refine wpAny_Raise_call_subT (nm:=nm) (q:=qn) (N:=ns) (bs:=bs) (hdct:=hd) (sn:=sn) (sub:=sub) (ab:=ab) (col:=col) (dd:=dd) (k0:=k0) (k1:=k1) (k2:=k2) (k3:=k3) (k5:=k5) PySem.F.excBase_ValueError jt y iD i<|jy I j A #[rfl,?_] qj;rw[oJ];refine Calls.evalArgs_plain ?_;refine Calls.spliced_cons<|ZA (P S s O H (λu l=>l.heap=s.heap/\Inv X S O H l) I Z λu l a b=>#[a,b]) (λu s1#[k,g]=>?_) λ_ _ z=>.inl z;refine Calls.spliced_nil #[rfl,(by show 1<=sizeLine;decide),(F _ g.lj).1,(F _ g.lj).2.1,(F _ g.lj).2.2,λh' e m=>.inr #[s1,e,_,rfl,k,g,rfl,m]]
 ·rcases z with z|⟨t,a,args,rfl,n,I2,w,m⟩
  ·exact z
  ·rw[w];refine L _ _ #[O,H,a,.ref C,rfl,?_,?_,Y]
   ·exact(I2.kept m.keeps).ic λp J=>by cases J
   ·exact FG I2.sz (λb M=>I2.hok.fresh M) (by rw[n];exact hd) m
end
structure Ay(K:PySem.W.Frag)(D:Addr):Prop where
 ga:PySem.W.findIn K (.ref D) "__getattribute__"=B' (B'<|.builtin "BaseException.__getattribute__")
 na:PySem.W.findIn K (.ref D) "__getattr__"=B' G'
 sb:PySem.W.subIn K (.ref D) (.type "BaseException")=B' J'
 fi:PySem.W.findIn K (.ref D) "__class__"=B' (B'<|.builtin "object.__class__")
 sp:PySem.W.specialIn K (.builtin "object.__class__") "__get__"=B' (B'<|.builtin "getset_descriptor.__get__")
 tk:PySem.W.takesIn K (.builtin "object.__class__")=B' J'
 mr:PySem.W.mroIn K D (.type "object")=B' J'
theorem EG{K:PySem.W.Frag}(q:PySem.W.excIn K D Hb newId=J'):∃c dd cd t,K.lookup D=B' #[c,dd,.cls cd,t]:=by
 unfold PySem.W.excIn at q;split at q
 ·rename_i r;exact#[_,_,_,_,r]
 ·cases q
theorem MN:(Value.builtin "BaseException.__getattribute__"==Value.builtin "object.__getattribute__")=K':=by decide +kernel
theorem Bz{x D:Addr}(L:PySem.W.Looks (model prog w) s.heap (isInstance (.ref x)<|.type "BaseException") J')(hq:Q () s):wpAny (model prog w) A (checkBuiltinCall "BaseException.__getattribute__" #[[.ref x,xO],[]]) Q E s:=by
 have g:builtinKind "BaseException.__getattribute__"=B' .slot:=by decide +kernel
 have b:splitId "BaseException.__getattribute__"=B' ("BaseException","__getattribute__"):=by decide +kernel
 have t:=F.args_bexc_ga (.ref x) xO;simp only[checkBuiltinCall,g,b];refine W1<|L.at ?_;simp only[X5,X2,Zl];cases a:Manifest.signature? "BaseException.__getattribute__" with
 |none=>exact W4 hq
 |some sig=>simp only[argsOk,a]at t;show wpAny _ A (Bind.checkArgs "BaseException.__getattribute__" sig #[[.ref x,xO],[]]) _ _ s;rw[show Bind.checkArgs "BaseException.__getattribute__" sig #[[.ref x,xO],[]]=pure () from t];exact W4 hq
theorem zg{K:PySem.W.Frag}(k:Ay K D)(hc:PySem.W.clsIn K D=B' cd)(X:K.In s.heap)(I:PySem.W.InstAt s.heap x ox D G')(q:Q (B'<|.ref D) {s with toks:=s.toks+1}):
  wpAny (model prog w) A (getAttr? (.ref x) "__class__") Q E s:=by
 have r:PySem.W.findObj K D G' "__class__"=B' (.bind (.builtin "getset_descriptor.__get__")<|.builtin "object.__class__"):=by unfold PySem.W.findObj;rw[hc,Option.bind_some,k.fi,Option.bind_some];simp[k.sp,k.tk]
 have a:=I.type (M:=model prog w);have c:=PySem.W.looks_findIn (M:=model prog w) X k.ga;have b:=PySem.W.looks_findIn (M:=model prog w) X k.na;have i:=PySem.W.looks_find (M:=model prog w) X I r;have h:PySem.W.Looks (model prog w) s.heap (isInstance (.ref x)<|.type "BaseException") J':=a.andThen<|PySem.W.looks_subIn (M:=model prog w) X k.sb;obtain⟨y,g,d,t,os⟩:=s;unfold getAttr? getAttrBy? getAttrBy;refine W1<|wpAny_mkText<|W1<|wpAny_attempt<|Zz<|W1<|a.at<|W1<|c.at ?_;simp only[MN,XY,X2,Zl];unfold getAttrByItsOwn;refine W1 ?_;show wpAny _ _ (typeLookup (.ref D) "__getattr__") _ _ _;refine b.at ?_;refine W1<|wpAny_attempt<|Zz ?_;show wpAny _ _ (boundAndCalled _ _ _) _ _ _;unfold boundAndCalled;refine W1<|wpAny_of_eq (F.excAttr_ValueError.ga.bind<|.ref x) ?_;refine wpAny_call<|codeAny_call_builtin F.excAttr_ValueError.ga.plain F.entry_bexc_ga<|Bz (D:=D) h ?_;unfold Builtin.«object.__getattribute__»;refine W1<|W4<|W1<|W4<|W1<|a.at<|W1<|i.at ?_;show wpAny _ _ (holding [.builtin "object.__class__"] (call (.builtin "getset_descriptor.__get__") [.builtin "object.__class__",.ref x,.ref D]) >>=ret) _ _ _;refine W1<|Zz<|wpAny_call<|PySem.W.class_get (ox:=ox) (od:=G') X I k.mr ?_;refine W4 ?_;show wpAny _ _ (handedOut<|.ref D) _ _ _;exact PySem.W.handed_on rfl<|W4 q
theorem Ca{K:PySem.W.Frag}(F:PySem.W.excIn K D Hb newId=J')(k:Ay K D):PySem.W.KitX K (.ref x) (.ref D) (λh=>PySem.W.InstAt h x ox D G'):=by
 obtain⟨B,b,cd,i,lk⟩:=EG F;have hc:PySem.W.clsIn K D=B' cd:=by unfold PySem.W.clsIn;rw[lk]
 refine#[λM h _ I=>I.type,λM h X _=>?_,λh tp dd J n t X a=>?_,λ {prog w A E Q s} X I q=>zg k hc X I q]
 ·intro g c j l Z q;unfold isType loadHead;exact W1<|wpAny_loadPart (Z _ _<|X _ _ lk)<|W4 q
 ·refine Bool.eq_false_iff.mpr λq=>?_
  have e:D=tp:=by have:=Xt q;cases this;rfl
  rw[<-e,X _ _ lk]at a;cases a
abbrev Cx.hand(X:Cx)(a:Addr)(o:Obj):Cx:={X with A:=X.A.mark (B' (.ref a)),calm:=K',pn:=[(a,o)],xe:=λ_ _=>False}
structure pD(X:Cx)(D a:Addr)(o:Obj):Prop where
 cls:o.cls= .ref D
 PP:o.dict=G'
 dat:∃vs,o.data= .fields vs
section
variable{X:Cx}{σ:St}{H:Hp}{s:Shared}{D a:Addr}{o:Obj}
theorem Inv.hand(j:X.pn=[])(I:Inv X [] σ H s)(F:i9 X.s₀.heap.objs.size (.ref D) a H s.heap)(B:s.heap.get? a=B' o)(xr:pD X D a o):Inv (X.hand a o) [] σ H s:=by
 obtain⟨c,hd⟩:=xr.dat;refine#[#[I.ok.mod,I.ok.kind,I.ok.glob,I.ok.blt,I.ok.above,I.ok.inj,I.ok.has,I.ok.DY,(λz=>by cases z),I.ok.frames,I.ok.GQ,I.ok.Hm,I.ok.bs,I.ok.DX,I.ok.nU,I.ok.p9,I.ok.iP,I.ok.EK],I.os,I.bare,I.base,I.loc,I.cell,I.free,I.de,λp J=>?_,I.hok,I.len];have e:p=(a,o):=by simpa using J
 subst e;refine#[B,F.nH,λz=>?_,λz=>?_,λv q=>by rw[hd]at q;cases q]
 ·obtain⟨m,⟨g,es,ep,Z,Y,_⟩,_⟩:=I.loc;have z:a=X.env.locals:=z;rw[<-z,B]at Z;cases Z;rw[hd]at Y;cases Y
 ·obtain⟨_,g,i,Qc⟩:=I.ok.iP.mem z;have:=F.ge;have df:=Xg i;exact absurd (Xr df this)<|YY _
theorem Inv.Lj(j:X.pn=[])(I:Inv (X.hand a o) [] σ H s)(K:X.calm=J'->X.A.handled=G'):Inv X [] σ H s:=
 #[#[I.ok.mod,I.ok.kind,I.ok.glob,I.ok.blt,I.ok.above,I.ok.inj,I.ok.has,I.ok.DY,K,I.ok.frames,I.ok.GQ,I.ok.Hm,I.ok.bs,I.ok.DX,I.ok.nU,I.ok.p9,I.ok.iP,I.ok.EK],I.os,I.bare,I.base,I.loc,I.cell,I.free,I.de,(λp J=>(by rw[j]at J;cases J)),I.hok,I.len]
theorem xx(I:Inv (X.hand a o) [] σ H s)(m:pD X D a o):PySem.W.InstAt s.heap a o D G':=by obtain⟨c,hd⟩:=m.dat;refine#[(I.pin (a,o)<|by simp).1,m.cls,by unfold PySem.W.notCls;rw[hd],?_];rw[m.PP];trivial
end
def WX(X:Cx)(h:St)(XE:Value->Hp->Prop)(e:Value)(l:Shared):Prop:=∃L a cls,e= .ref a/\Inv X [] h L l/\i9 X.s₀.heap.objs.size cls a L l.heap/\XE cls L
def PH(X:Cx)(st:Stmt)(t:TS):Prop:=∀(s:Shared)(O:St)(H:Hp)(D:Ends),Inv X [] O H s->t D O H->wpAny (model X.prog X.w) X.A (exec st X.env) (SP X [] D) X.xe s
def px(X:Cx)(st:List Stmt)(t:TS):Prop:=∀(s:Shared)(O:St)(H:Hp)(D:Ends),Inv X [] O H s->t D O H->wpAny (model X.prog X.w) X.A (execs st X.env) (SP X [] D) X.xe s
theorem Kv{st:Stmt}(h:PS X st t):PH X st t:=λs O H D=>h [] s O H D
theorem Ga{st:List Stmt}(h:rG X st t):px X st t:=λs O H D=>h [] s O H D
theorem zQ{st:Stmt}(Z:PH X st t)(Y:px X rest u):px X (st::rest) (O4 t u):=by
 intro s O H D I F;refine wpAny_execs_cons<|bS (Z s O H {D with nx:=u D} I F) λf s1 z=>?_;cases f with
 |next=>obtain⟨K,j,g,l⟩:=z;exact Y s1 K j D g l
 |brk=>exact z
 |cont=>exact z
 |ret v=>exact z
section
variable{X:Cx}{σ:St}{H:Hp}{s:Shared}
theorem Inv.AH(j:X.pn=[])(I:Inv X [] σ H s)(P:h'.Ns X.env.locals m)(sb:Heap.SameBut X.env.locals s.heap h'):Inv X [] (List.replicate X.N.length G') H {s with heap:=h',toks:=tk}:=by
 have h:∀b o,X.s₀.heap.get? b=B' o->b≠X.env.locals:=λb o e=>XB (Xr (Xg e) I.ok.above)
 have a:∀y c,X.env.cells.lookup y=B' c->c≠X.env.locals:=λy c e z=>by obtain⟨v,o,B,hd⟩:=I.cell y c e;obtain⟨m',⟨g,es,ep,Z,Y,_⟩,_⟩:=I.loc;rw[z,Z]at B;cases B;rw[hd]at Y;cases Y
 refine#[I.ok,I.os,I.bare,#[λb o e n M L=>(sb.2 b<|h b o e).trans<|I.base.keep b o e n M L,λb o e n M L=>?_,I.base.free,λb o e L=>?_,I.base.tups,I.base.frzs,I.base.tbls],#[m,P,λi x v Z Y=>?_],λy c e=>?_,I.free,I.de,λp J=>?_,?_,Yx]
 ·obtain⟨t,q⟩:=I.base.slot b o e n M L;exact#[t,(sb.2 b<|h b o e).trans q]
 ·obtain⟨g,q⟩:=I.base.there b o e L;exact#[g,(sb.2 b<|h b o e).trans q]
 ·rw[Yp]at Y;split at Y<;>cases Y
 ·obtain⟨v,o,B,hd⟩:=I.cell y c e;exact#[v,o,(sb.2 c<|a y c e).trans B,hd]
 ·rw[j]at J;cases J
 ·intro b u e;refine(I.hok b u e).kZ (λc v K q=>?_) (λ_ q=>q) λ_ _ q=>q
  refine(sb.2 c λz=>?_).trans q;subst z;rcases K with rfl|K
  ·rw[I.free]at e;cases e
  ·rw[I.free]at K;cases K
theorem Sb:(Value.ref a)≠byPass:=by intro q;cases q
variable{ok:Addr->Prop}{t:Str}{c:Value}{tp BX:Pos}{jQ:List Stmt}{b0:Stmt}
theorem Lg{D:Ends}(st:gf X)(j:Gl X t)(A:X.mg t=B' c)(y:(t==("__debug__":Str))=K')
  (hx:∀C,ok C->PySem.W.exmOne X.K (.ref C) c=B' J') (v:∀cls H',XE cls H'->∃C,cls= .ref C/\ok C)
  (go:∀H' a C s1,XE (.ref C) H'->Inv X [] σ H' s1->i9 X.s₀.heap.objs.size (.ref C) a H' s1.heap->(∃T,dX s1.heap a T)->
   codeAny (model X.prog X.w) (X.A.mark<|B'<|.ref a) (.handlers (.ref a) [.ExceptHandler G' nm (b0::jQ) BX] X.env) (λr q=>match r with
     |.ok f=>(match nm with
      |none=>Q f q
      |some n=>wpAny (model X.prog X.w) X.A (do bindName X.env n .none;unbindBehindTheSuite X.env n BX) (λ_ i=>Q f i) X.xe q)
     |.error x=>cameBackBy (model X.prog X.w) X.A X.env X.xe x q) s1)
    (w:WX X σ XE e s1):wpAny (model X.prog X.w) X.A (noteFrame e X.env) (λ_ q=>wpAny (model X.prog X.w) X.A (setFlight e G') (λ_ i=>wpAny (model X.prog X.w) X.A (handleBy e X.env [.ExceptHandler (B'<|.Name t tp) nm (b0::jQ) BX]) Q X.xe i) X.xe q) X.xe s1:=by
 obtain⟨H',a,cls,rfl,g,F,hE⟩:=w;obtain⟨C,rfl,hok⟩:=v cls H' hE;obtain⟨J,gG,p,L,B,E,e3⟩:=st;have K:=g.ok.frames;have W:=g.stack;rw[B]at K W;refine w6 K W E e3 F (λb hb=>g.hok.fresh hb) λY s f2 t2=>?_
 rw[<-B]at s;have I2:=g.Lz J F s;refine fq (fs:=fH X.stack) f2 t2 λu x3 f3 l=>?_
 have Z:=I2.Lz J f2 x3;obtain⟨o,vs,ho,⟨h,S⟩,hd,_⟩:=id f3.obj;have m:pD X C a o:=#[h,S,vs,hd];have k:=Z.hand J f3 ho m;have z:=xx k m;refine wpAny_handleBy_cons (codeAny_handlers_test<|jy (X:=X.hand a o) k j A ?_ y) Sb;exact(PySem.W.exm_one (M:=model X.prog X.w) Z.lj z.type<|hx C hok).here<|go H' a C _ hE Z f3 l
end
section
variable{X:Cx}{E:XK}{tb:TS}{t:Str}{c:Value}{tp BX pos:Pos}{body jQ:List Stmt}{b0:Stmt}{i:Nat}{n:Str}{D:Ends}
theorem GY(st:gf X)(M5:X.calm=J'->X.A.handled=G')(hg:Gl X t)(A:X.mg t=B' c)(qj:(t==("__debug__":Str))=K')
  (hN:X.N.Nodup) (hi:X.N[i]?=B' n) (W:X.env.scope.names.lookup n=B' .local) (M:rG (X.eI<|nG X E) body tb)
  (y:∀cls L,E cls G' L->∃C,cls= .ref C/\PySem.W.exmOne X.K (.ref C) c=B' J'/\∀a o,pD X C a o->∃th,rG (X.hand a o) (b0::jQ) th/\∀O,O[i]?=B' (B'<|.ref a)->O.length=X.N.length->th {nx:=λ_ _=>False,rt:=D.rt} O L)
   {O:St}  (I:Inv X [] O H s) (h:tb D O H):
  wpAny (model X.prog X.w) X.A (exec (.Try body [.ExceptHandler (B'<|.Name t tp) (B' n) (b0::jQ) BX] [] [] pos) X.env) (SP X [] D) X.xe s:=by
 refine wpAny_Try_except<|ZA (M [] s O H D (I.eI _) h) (λf s1 z=>?_) λe s1 w=>?_
 ·have p:=z.fg;cases f with
  |next=>exact wpAny_execs_nil p
  |brk=>exact p
  |cont=>exact p
  |ret v=>exact p
 ·obtain⟨K,j,a1,QV,B,g,F,E1⟩:=w;refine Lg (XE:=λcls L=>E cls G' L) (D:=D) st hg A qj (λC h=>h) (λcls L z=>?_) (λL a C s2 hE Y Q t2=>?_) #[j,a1,QV,B,g,F,E1]
  ·obtain⟨C,e,k,_⟩:=y cls L z;exact#[C,e,k]
  ·obtain⟨C',eC,_,RQ⟩:=y _ L hE;cases eC;refine codeAny_handlers_suite_as<|fq (fs:=fH X.stack) Q t2 λh3 x3 f3 t3=>?_;have Z:=Y.Lz st.pn Q x3;obtain⟨o,vs,ho,⟨M4,S⟩,hd,_⟩:=id f3.obj;have m:pD X C a o:=#[M4,S,vs,hd];have Px:=Z.hand st.pn f3 ho m;refine jO (X:=X.hand a o) (v:=.ref a) Px hN hi (.inl W) rfl (λs4 J=>?_)<|.inr W;obtain⟨th,hs,RQ⟩:=RQ a o m;have hlen:i<K.length:=by rw[g.len];exact(W8.mp hi).1
   refine ZA (hs [] _ _ L _ J<|RQ _ (by simp[hlen])<|by rw[Yy];exact g.len) (λf P z=>?_) λ_ _ z=>z.elim
   cases f with
   |next=>obtain⟨σ',Pw,b,q⟩:=z;exact q.elim
   |brk=>obtain⟨σ',Pw,b,q⟩:=z;exact q.elim
   |cont=>obtain⟨σ',Pw,b,q⟩:=z;exact q.elim
   |ret u=>obtain⟨v,σ',Pw,b,r,q⟩:=z;have I5:=b.Lj st.pn M5;obtain⟨m5,Nk,_⟩:=id I5.loc;have x:=I5.ok.kind;refine wpAny_nameGoes W Nk (by rw[x];rfl) λl m6 hn6 sb6=>#[v,_,Pw,I5.AH st.pn hn6 sb6,r,q]
theorem CB(m:pD X C a o)(F:PySem.W.excIn X.K C Hb newId=J')(k:Ay X.K C)(h:Gl X "isinstance")(j:X.mg "isinstance"=G')(L:PE (X.hand a o) (.Name x p1) (eU i))(n:PE (X.hand a o) (.Name y p2) (tC v))(hr:∀u,RelV v u->u=c)(e:PySem.W.kitOne X.K (.ref C) c=B' b):
  PE (X.hand a o) (.Call (.Name "isinstance" p) [.Name x p1,.Name y p2] [] pos) (λO H Q=>O[i]?=B' (B'<|.ref a)/\Q (.bl b) H):=by
 have K:dQ (X.hand a o) (.builtin "isinstance") (λxs H Q=>xs=[.ref a,v]/\Q (.bl b) H):=by
  intro S s O H xs us Q I r #[B,q];subst B;obtain⟨W,u2,rfl,r1,r2⟩:=r.two;cases r1;have:=hr _ r2;subst this;have g:=I.ic (pins':=[]) λp J=>by cases J
  exact Ze (Ca F k) I.lj (xx g m) e (by intro z;cases z) λtk=>#[.bl b,H,I.tok tk,rfl,q]
 intro S s O H Q I #[Z,Y];exact jG K h j PyProof.Rows.boot_isinstance (bf L<|bf n dN) (by decide) (by decide) rfl rfl S s O H Q I #[_,Z,rfl,Y]
end
theorem Ja{K:PySem.W.Frag}{dV j p pm Y ct oc:Value}
     (X:K.lookup f=B' #[oc,od,.func<|PySem.W.fnOf name qual params body scope dV j p pm an Y ct,xT]) (z:PySem.W.codeIn K Y qual=J') (S:fJ N ps scope)
  (len:∀c H Q E,sp c H Q E->c.length=ps.length)
  (h:∀(A:Around)(outer:List Env)(s:Shared)(H:Hp)(c:List V)(Q:VK)(E:XK),jb k (A.deeper<|envOfC qual scope s.heap.objs.size f Y)->sp c H Q E->
   ∃t,px (lM CX P w K mg base N qual scope f Y A outer s H E) body t/\t {nx:=λ_ L=>Q .bX L,rt:=Q} (start N c) H):
  jV P w K mg base CX (k+1) f (PySem.W.fnOf name qual params body scope dV j p pm an Y ct) ps sp:=by
 refine#[len,λA outer s H args i c Q E hr B M r W=>?_];have KX:=B.mod.R6.keeps λb o e=>(B.bs b o e).1
 have g:∀y∈ps.zip i,scope.names.lookup y.1=B' .local\/(scope.names.lookup y.1=B' .cell/\((cellsFrom (s.heap.objs.size+1) scope.names []).lookup y.1).isSome=J'):=λ#[n,v]m=>by
  rcases S.par n (YM m).1 with q|q
  ·exact .inl q
  ·exact .inr #[q,Zd _ _ _<|.inl q]
 refine codeAny_call_function hr.depth (KX _ _ X) rfl S.co S.gen rfl (PySem.W.codeRec_of KX z)<|M _ _ _ _<|wpAny_newFunctionEnv_cells S.kind g λenv he s1 x=>?_;subst he;refine#[(B.mod.nolimit.keeps λb o e=>(B.bs b o e).1).keeps x.toInCall.keep,codeAny_func ?_];obtain⟨t,O,F⟩:=h A outer s H c Q E (hr.deeper _) W;have I:Inv (lM CX P w K mg base N qual scope f Y A outer s H E) [] (start N c) H s1:=zr S hr.hd B (len _ _ _ _ W) r x;refine ZA (O s1 (start N c) H _ I F) (λZ l hs=>?_) λe l hs=>hs
 have fin:∀{a:St}{L:Hp}{v:V}{u:Value},Inv (lM CX P w K mg base N qual scope f Y A outer s H E) [] a L l->RelV v u->Q v L->CE outer P w H s Q u l:=
  λ {a L v u} J rv q=>#[v,L,J.os,J.bare,J.base,J.hok,rv,q]
 cases Z with
 |ret u=>obtain⟨v,a,L,J,rv,q⟩:=hs;exact fin J rv q
 |next=>obtain⟨a,L,J,q⟩:=hs;exact fin (v:=V.bX) J rfl q
 |brk=>obtain⟨_,_,_,q⟩:=hs;exact q.elim
 |cont=>obtain⟨_,_,_,q⟩:=hs;exact q.elim
end L2
end
section
namespace Rx
open PySem PySem.W PySem.Spec PyProof.Rows L2 PySem.SeqAt
def LG(K:Frag)(mg:Str->Option Value)(C:Addr)(ts:List (Str×Bool)):Prop:=excIn K C IH "ValueError.__new__"=J'/\Ay K C/\
 ∀t b,ts.lookup t=B' b->∃c,(mg t=B' c/\(∃D,c= .ref D)\/mg t=G'/\t="ValueError"/\c= .type "ValueError")/\kitOne K (.ref C) c=B' b/\(b=J'->exmOne K (.ref C) c=B' J')
structure HX(g:G)(xv:Nat->Value)(CX:nK)(k:Nat)(F:FT)(Φ:Fm)(X:Cx):Prop where
 K:Φ.K=X.K
 P:Φ.P=X.prog
 w:Φ.w=X.w
 fx:∃n,FX g xv CX X.prog X.w X.K X.mg X.base n k F
 room:jb k X.A
 cx:CX=uv X.prog X.w
 st:gf X
 xgx:∀e s',nG X (Af Φ xv) e s'->X.xe e s'
 xk:∀k x ts,g.xs[k]?=B' (x,ts)->∃C,xv k= .ref C/\X.mg x=B' (.ref C)/\LG X.K X.mg C ts
theorem HX.pass(h:HX g xv CX k F Φ X):uL CX X (Af Φ xv):=λS O H s e l I c=>by have K:=h.cx;subst K;exact h.xgx e l<|DM I h.st.pn c
theorem bb(h:PE X e t)(hi:∀O H Q,t' O H Q->t O H Q):PE X e t':=λS s O H Q I q=>h S s O H Q I<|hi O H Q q
theorem qM(h:PT X e t)(hi:∀O H Q,t' O H Q->t O H Q):PT X e t':=λS s O H Q I q=>h S s O H Q I<|hi O H Q q
theorem CS(h:PW X e t)(hi:∀O H Q,t' O H Q->t O H Q):PW X e t':=λi S s O H Q I q=>h i S s O H Q I<|hi O H Q q
theorem Ct(h:PA X e t)(hi:∀O H Q,t' O H Q->t O H Q):PA X e t':=λpos S s O H Q I q=>h pos S s O H Q I<|hi O H Q q
theorem qI(h:PI X tg e t)(hi:∀O H Q,t' O H Q->t O H Q):PI X tg e t':=λS s O H Q I q=>h S s O H Q I<|hi O H Q q
section
variable{Φ:Fm}{Γ:Gm}{fr:Nat->Bool}{o:Ow}{ρ:aj}{σ:L2.St}{H H':Hp}
theorem EO.sc(h:rE d=J'):EO Φ.K fr o c H d (uJ d) H:=#[aZ.refl,tS h,λ_=>tS h,λ_=>(tS h).one,λ_ ds e=>by subst e;simp[rE]at h]
theorem EO.sf(e:aZ o.d H H1)(h:EO Φ.K fr o c H1 d v H')(r:fresh fr c=J'->∀ds,d= .lst ds->∀a,H1 a=G'->H a=G'):EO Φ.K fr o c H d v H':=
 #[e.trans h.ext,h.val,h.mX,h.yB,λf ds B=>by
  obtain⟨a,xs,Z,Y,u⟩:=h.fH f ds B;exact#[a,xs,Z,r f ds B a Y,u]]
theorem Bo(e:aZ X H H1)(L:∀b,X b->∃y,H1 b=B' y)(h:H1 a=G'):H a=G':=by
 cases q:H a with
 |none=>rfl
 |some x=>obtain⟨y,z⟩:=e.al q<|L a;rw[h]at z;cases z
theorem ER.d4(s:ER Φ Γ o ρ S1 σ H1)(e:aZ o.d H H1)(h:H1 a=G'):H a=G':=Bo e (λb z=>s.al b<|s.da b z) h
theorem EO.keep(h:EO Φ.K fr o c H d v H1)(e:aZ o.d H1 H2)(wa:∀b,o.wd b->o.A b):RV Φ.K o.wd H2 v d/\(lk c=0->RV Φ.K o.A H2 v d)/\(lk c<=1->gy Φ.K o.A H2 v d):=by
 have hd:∀b,o.d b->o.wd b:=λb z=>.inr z
 refine#[h.val.mono e hd λ_ z=>z,λl=>(h.mX l).mono e (λb z=>wa b<|hd b z) λ_ z=>z,λl=>?_];refine(h.yB l).ext e (λb z=>wa b<|hd b z) λds a B ev z=>?_
 subst B ev;obtain⟨b,xs,q,_,n,_⟩:=h.val.lst_inv;cases q;exact n<|.inr z
theorem EO.pr(s:ER Φ Γ o ρ S1 σ H1)(e:aZ o.d H H1)(n:aq Φ.K o.wd H1 xs ds)(Z:lk c<=1->pC Φ.K o.A H1 xs ds)(W:lk c=0\/lk c=2)
  (b:PR Φ.K f xs ds H1 d v H2) (r:fresh fr c=J'->f=J'):EO Φ.K fr o c H d v H2/\ER Φ Γ o ρ S1 σ H2:=by
 have Y:lk c=0->RV Φ.K o.A H2 v d:=λl=>b.val o.A s.al (Z ⋯)
 refine#[#[e.trans<|aZ.of_same b.same,b.val o.wd s.AA n.ones,Y,λl=>(Y ⋯).one,λu es B=>?_],s.grow b.same];obtain⟨a,ys,k1,k2,k3,g⟩:=b.fH (r u) es B;exact#[a,ys,k1,s.d4 e k2,k3,g o.wd s.AA n.ones,λl=>g o.A s.al<|Z ⋯]
theorem jC{K:Frag}(h:RV K A H v d):RV K N0 H v d:=h.weak λ_ z=>z.elim
theorem J1{K:Frag}(h:aq K A H v d):aq K N0 H v d:=h.weak λ_ z=>z.elim
end
section
variable{X:Cx}{Φ:Fm}{Γ:Gm}{F:FT}{fr:Nat->Bool}
theorem tT(hd:rE d=J')(h:PE X e (tC<|uJ d)):PE X e (bE Φ Γ F fr<|.con d):=bb h λO H Q q=>by obtain⟨o,ρ,S,er,q⟩:=q;exact q _ _ (EO.sc hd) er
theorem jq(h:mR Ek (bZ ρ i) P):∃d,ρ[i]?=B' (B' d)/\P d:=by
 unfold bZ at h;split at h
 ·exact#[_,by assumption,h]
 ·exact h.elim
theorem OM(h:PE X e (eU i))(A:cL Γ i=K'):PE X e (bE Φ Γ F fr<|.var i):=bb h λO H Q q=>by obtain⟨o,ρ,S,er,q⟩:=q;rw[yn,ae]at q;obtain⟨d,hd,q⟩:=jq q;obtain⟨v,Z,Y⟩:=er.val i d hd;rw[A,Zm (by simp)]at Y;exact#[v,Z,q v H #[aZ.refl,Y.weak er.gv,λ_=>Y,λ_=>Y.one,λz=>by cases z] er]
theorem OE(h:PE X e (eU i))(A:cL Γ i=J')(s:Γ.κ≠B' i):PE X e (bE Φ Γ F fr<|.mvr i):=bb h λO H Q q=>by obtain⟨o,ρ,S,er,q⟩:=q;rw[qO,ae]at q;obtain⟨d,hd,q⟩:=jq q;obtain⟨v,Z,Y⟩:=er.val i d hd;rw[A,Zn rfl]at Y;exact#[v,Z,q v H #[aZ.refl,Y.val (er.nd hd s) er.wa er.da,λz=>(by cases z),λ_=>Y.one<|er.nd hd s,λz=>by cases z] er]
theorem lr{r:R Dt}(j:∀k,r≠ .ex k)(h:mR Ek r P):∃d,r= .ok d/\P d:=by
 cases r with
 |ok a=>exact#[a,rfl,h]
 |ex k=>exact absurd rfl<|j k
 |bad=>exact h.elim
theorem cO{r:R α}(h:∀k,r≠ .ex k):∀k,af b r≠ .ex k:=by
 intro k;cases b
 ·intro z;cases z
 ·exact h k
theorem Kc(o)(d e):∀k,qE o d e≠ .ex k:=by intro k;unfold qE;split<;>first|(intro z;cases z;done)|(split<;>first|(intro z;cases z;done)|(exact cO (λk z=>by cases z) k))
theorem wL(o)(d e):∀k,cZ o d e≠ .ex k:=by intro k;unfold cZ;split<;>first|(intro z;cases z;done)|(exact cO (λk z=>by cases z) k)|(split<;>first|(intro z;cases z;done)|(exact cO (λk z=>by cases z) k))
theorem uO(ds)(i):∀k,AB ds i≠ .ex k:=by intro k;unfold AB;split<;>(intro z;cases z)
theorem Fe(d e):∀k,cD d e≠ .ex k:=by
 intro k;unfold cD;split
 ·exact uO _ _ k
 ·exact uO _ _ k
 ·exact uO _ _ k
 ·exact cO (λk=>by split<;>(intro z;cases z)) k
 ·intro z;cases z
theorem GJ(d)(lo hi):∀k,iE d lo hi≠ .ex k:=by intro k;unfold iE;split<;>first|(intro z;cases z;done)|(exact cO (λk z=>by cases z) k)
theorem GW(d):∀k,cK d≠ .ex k:=by intro k;unfold cK;split<;>first|(intro z;cases z;done)|(exact cO (λk z=>by cases z) k)
theorem fz{r:R Bool}(j:∀k,r≠ .ex k)(h:mR Ek r P):∃d,r= .ok d/\P d:=by
 cases r with
 |ok a=>exact#[a,rfl,h]
 |ex k=>exact absurd rfl<|j k
 |bad=>exact h.elim
theorem vw:(lk (.bin op a b)=0\/lk (.bin op a b)=2)/\(lk (.bin op a b)<=1->lk a<=1/\lk b<=1):=by
 have e:lk (.bin op a b)=if lk a<=1/\lk b<=1 then 0 else 2:=rfl
 rw[e];split
 ·rename_i h;exact#[.inl rfl,λ_=>h]
 ·exact#[.inr rfl,λz=>⋯]
theorem Oy(K:Φ.K=X.K)(t:PE X a (bE Φ Γ F fr a'))(M:PE X b (bE Φ Γ F fr b')):PE X (.BinOp a op b pos) (bE Φ Γ F fr<|.bin op a' b'):=bb (HJ (Kf op) t M) λO H Q q=>by
 obtain⟨o,ρ,S,er,q⟩:=q;rw[yj,ae]at q;refine#[o,ρ,S,er,ag q λp _ q x j m s=>?_];rw[ae]at q;refine#[o,ρ,p.2,s,ag q λP _ q y n r L=>?_];rw[ae]at q;obtain⟨z,k,q⟩:=lr (Kc _ _ _) q;obtain⟨k1,k2,k3⟩:=m.keep r.ext er.gv;refine#[p.1,P.1,z,K▸jC k1,K▸jC r.val,k,λv Z pr=>?_];rw[<-K]at pr;obtain⟨B,E⟩:=EO.pr L (m.ext.trans r.ext) (aq.cons k1<|aq.cons r.val aq.nil) (λl=>#[k3 (vw.2 l).1,r.yB (vw.2 l).2,trivial]) vw.1 pr λ_=>rfl
 exact q v Z B E
theorem Oz(K:Φ.K=X.K)(hu:X.A.units+150<cLine)(A:behindInMarks op b=K')(t:PE X a (bE Φ Γ F fr a'))(M:PE X b (bE Φ Γ F fr b')):PE X (.Compare a [op] [b] pos) (bE Φ Γ F fr<|.cmp op a' b'):=bb (xY (vF op hu) t M A) λO H Q q=>by obtain⟨o,ρ,S,er,q⟩:=q;rw[Gp,ae]at q;refine#[o,ρ,S,er,ag q λp _ q x j m s=>?_];rw[ae]at q;refine#[o,ρ,p.2,s,ag q λP _ q y n r L=>?_];rw[ae]at q;obtain⟨z,k,q⟩:=fz (wL _ _ _) q;obtain⟨k1,k2,k3⟩:=m.keep r.ext er.gv;refine#[p.1,P.1,z,K▸jC k1,K▸jC r.val,k,q _ _ ?_ L];have:=EO.sc (Φ:=Φ) (fr:=fr) (o:=o) (H:=n) (c:=.cmp op a' b') (d:=.bl z) rfl;exact this.sf (m.ext.trans r.ext) λf=>by cases f
theorem KO(K:Φ.K=X.K)(hu:X.A.units+150<cLine)(A:behindInMarks op b=K')(t:PE X a (bE Φ Γ F fr a'))(M:PE X b (bE Φ Γ F fr b')):PT X (.Compare a [op] [b] pos) (fE Φ Γ F<|.cmp op a' b'):=qM (Gc (vF op hu) t M A) λO H Q q=>by obtain⟨o,ρ,S,er,q⟩:=q;rw[CU,ae]at q;refine#[o,ρ,S,er,ag q λp _ q x j m s=>?_];rw[ae]at q;refine#[o,ρ,p.2,s,ag q λP _ q y n r L=>?_];rw[ae]at q;obtain⟨z,k,q⟩:=fz (wL _ _ _) q;obtain⟨k1,k2,k3⟩:=m.keep r.ext er.gv;exact#[p.1,P.1,z,K▸jC k1,K▸jC r.val,k,z,rfl,q _ (m.ext.trans r.ext) L]
end
section
variable{X:Cx}{Φ:Fm}{Γ:Gm}{F:FT}{fr:Nat->Bool}
theorem aq.emp{K:Frag}(h:aq K A H xs ds):ds.isEmpty=xs.isEmpty:=by
 have:=h.length;cases xs with
 |nil=>cases ds with
  |nil=>rfl
  |cons=>simp at this
 |cons=>cases ds with
  |nil=>simp at this
  |cons=>rfl
theorem OF(t:PE X a (bE Φ Γ F fr a')):PE X (.UnaryOp .USub a pos) (bE Φ Γ F fr<|.neg a'):=bb (Of Li t) λO H Q q=>by
 obtain⟨o,ρ,S,er,q⟩:=q;rw[Gr,ae]at q;refine#[o,ρ,S,er,ag q λp _ q x j m s=>?_];split at q
 ·rename_i i hi;have:=m.val;rw[hi]at this;refine#[i,this.int_inv,q _ _ ?_ s];exact(EO.sc rfl).sf m.ext λf=>by cases f
 ·exact q.elim
theorem SE(t:PE X a (bE Φ Γ F fr a')):PE X (.UnaryOp .Not a pos) (bE Φ Γ F fr<|.nt a'):=bb (CD t) λO H Q q=>by
 obtain⟨o,ρ,S,er,q⟩:=q;rw[KC,ae]at q;refine#[o,ρ,S,er,ag q λp _ q x j m s=>?_];split at q
 ·rename_i i hi;have:=m.val;rw[hi]at this;refine#[i,this.bY,q _ _ ?_ s];exact(EO.sc rfl).sf m.ext λf=>by cases f
 ·exact q.elim
theorem OH(t:PT X a (fE Φ Γ F a')):PT X (.UnaryOp .Not a pos) (fE Φ Γ F<|.nt a'):=qM (Kz t) λO H Q q=>by obtain⟨o,ρ,S,er,q⟩:=q;rw[Gj,ae]at q;exact#[o,ρ,S,er,ag q λp _ q j B s=>q _ B s]
theorem Ox(ha:PE X a (bE Φ Γ F fr a'))(M:PE X (.BoolOp .And (b::rest) pos) (bE Φ Γ F fr b')):PE X (.BoolOp .And (a::b::rest) pos) (bE Φ Γ F fr<|.and a' b'):=bb (Cw ha M) λO H Q q=>by
 obtain⟨o,ρ,S,er,q⟩:=q;rw[Gn,ae]at q;refine#[o,ρ,S,er,ag q λp _ q x j m s=>?_];have sc:∀(Z:Hp)(t:Bool),aZ o.d H Z->EO Φ.K fr o (.and a' b') H (.bl t) (.bl t) Z:=λZ t J=>
  (EO.sc rfl).sf J λf=>by cases f
 split at q
 ·rename_i hi;have:=m.val;rw[hi]at this;refine#[J',this.bY,?_];rw[ae]at q;refine#[o,ρ,p.2,s,ag q λP _ q y n r L=>?_];split at q
  ·rename_i c K;have Y:=r.val;rw[K]at Y;rw[Y.bY];exact q _ _ (sc n c<|m.ext.trans r.ext) L
  ·exact q.elim
 ·rename_i hi;have:=m.val;rw[hi]at this;exact#[K',this.bY,q _ _ (sc j K' m.ext) s]
 ·exact q.elim
theorem SF(ha:PE X a (bE Φ Γ F fr a'))(M:PE X (.BoolOp .Or (b::rest) pos) (bE Φ Γ F fr b')):PE X (.BoolOp .Or (a::b::rest) pos) (bE Φ Γ F fr<|.or a' b'):=bb (HK ha M) λO H Q q=>by
 obtain⟨o,ρ,S,er,q⟩:=q;rw[KD,ae]at q;refine#[o,ρ,S,er,ag q λp _ q x j m s=>?_];have sc:∀(Z:Hp)(t:Bool),aZ o.d H Z->EO Φ.K fr o (.or a' b') H (.bl t) (.bl t) Z:=λZ t J=>
  (EO.sc rfl).sf J λf=>by cases f
 split at q
 ·rename_i hi;have:=m.val;rw[hi]at this;refine#[K',this.bY,?_];rw[ae]at q;refine#[o,ρ,p.2,s,ag q λP _ q y n r L=>?_];split at q
  ·rename_i c K;have Y:=r.val;rw[K]at Y;rw[Y.bY];exact q _ _ (sc n c<|m.ext.trans r.ext) L
  ·exact q.elim
 ·rename_i hi;have:=m.val;rw[hi]at this;exact#[J',this.bY,q _ _ (sc j J' m.ext) s]
 ·exact q.elim
theorem KN(t:PT X a (fE Φ Γ F a'))(M:PW X (.BoolOp .And (b::rest) pos) (fE Φ Γ F b')):PW X (.BoolOp .And (a::b::rest) pos) (fE Φ Γ F<|.and a' b'):=CS (KA t M) λO H Q q=>by
 obtain⟨o,ρ,S,er,q⟩:=q;rw[CT,ae]at q;refine#[o,ρ,S,er,ag q λp _ q j B s=>?_];cases J:p.1 with
 |true=>rw[J]at q;rw[Zn rfl];exact#[o,ρ,p.2,s,ag q λP _ q n E L=>q _ (B.trans E) L]
 |false=>rw[J]at q;rw[Zm (by simp)];exact q _ B s
theorem OJ(t:PT X a (fE Φ Γ F a'))(M:PW X (.BoolOp .Or (b::rest) pos) (fE Φ Γ F b')):PW X (.BoolOp .Or (a::b::rest) pos) (fE Φ Γ F<|.or a' b'):=CS (Oj t M) λO H Q q=>by
 obtain⟨o,ρ,S,er,q⟩:=q;rw[Gk,ae]at q;refine#[o,ρ,S,er,ag q λp _ q j B s=>?_];cases J:p.1 with
 |false=>rw[J]at q;rw[Zm (by simp)];exact#[o,ρ,p.2,s,ag q λP _ q n E L=>q _ (B.trans E) L]
 |true=>rw[J]at q;rw[Zn rfl];exact q _ B s
theorem Cf:(lk (.idx a b)=0\/lk (.idx a b)=2)/\(lk (.idx a b)<=1->lk a<=1):=by
 have e:lk (.idx a b)=if lk a<=1 then 0 else 2:=rfl
 rw[e];split
 ·rename_i h;exact#[.inl rfl,λ_=>h]
 ·exact#[.inr rfl,λz=>⋯]
theorem OB(K:Φ.K=X.K)(w:pA b)(t:PE X a (bE Φ Γ F fr a'))(M:PE X b (bE Φ Γ F fr b')):PE X (.Subscript a b pos) (bE Φ Γ F fr<|.idx a' b'):=bb (Oe JG t M w) λO H Q q=>by
 obtain⟨o,ρ,S,er,q⟩:=q;rw[ym,ae]at q;refine#[o,ρ,S,er,ag q λp _ q x j m s=>?_];rw[ae]at q;refine#[o,ρ,p.2,s,ag q λP _ q y n r L=>?_];rw[ae]at q;obtain⟨z,k,q⟩:=lr (Fe _ _) q;obtain⟨k1,k2,k3⟩:=m.keep r.ext er.gv;refine#[p.1,P.1,z,K▸jC k1,K▸jC r.val,k,λv pr=>?_];rw[<-K]at pr;have c:∃i,P.1= .int i:=by
  cases hd:P.1 with
  |int i=>exact#[i,rfl]
  |_=>rw[hd]at k;unfold cD at k;split at k<;>first|(rename_i h;cases h;done)|(cases k;done)|contradiction
 obtain⟨i,hi⟩:=c;have Z:∀A:Addr->Prop,gy Φ.K A n y P.1:=λA=>by have:=r.val;rw[hi]at this ⊢;rw[this.int_inv];exact(RV.fS).one
 obtain⟨B,E⟩:=EO.pr L (m.ext.trans r.ext) (aq.cons k1<|aq.cons r.val aq.nil) (λl=>#[k3<|Cf.2 l,Z _,trivial]) Cf.1 pr λz=>by cases z
 exact q v n B E
theorem ly(K:Φ.K=X.K)(t:PE X a (bE Φ Γ F fr a'))(P:∀c,isTrue a X.env c=(do let v<-c;standAt a.pos;holding [v] (truthy v)))
  (i:∀ρ S,cz F a' ρ S=(ev F a' ρ S).bind λx=>(cK x.1).bind λb=>.ok (b,x.2)):PT X a (fE Φ Γ F a'):=qM (CQ t P) λO H Q q=>by
 obtain⟨o,ρ,S,er,q⟩:=q;rw[i,ae]at q;refine#[o,ρ,S,er,ag q λp _ q x j m s=>?_];rw[ae]at q;obtain⟨b,M,q⟩:=fz (GW _) q;refine#[b,?_,q _ m.ext s];have n:=m.val;rw[K]at n;unfold cK at M;split at M
 ·rename_i hd;rw[hd]at n;cases M;rw[n.dY];rfl
 ·rename_i hd;rw[hd]at n;cases M;rw[n.bY];rfl
 ·rename_i hd;rw[hd]at n;cases M;rw[n.int_inv];rfl
 ·rename_i hd;rw[hd]at n;obtain⟨I,M⟩:=aS M;cases M;rw[n.str_inv];exact#[Xh (W7 I) cR,rfl]
 ·rename_i hd;rw[hd]at n;cases M;obtain⟨a,xs,rfl,Z,_,Y⟩:=n.lst_inv;refine .inl #[xs,d8.of Z,?_];rw[Y.emp]
 ·rename_i hd;rw[hd]at n;cases M;obtain⟨a,xs,rfl,Z,Y⟩:=n.ao;refine .inr<|.inl #[xs,fL.of Z,?_];rw[Y.emp]
 ·rename_i hd;rw[hd]at n;cases M;obtain⟨a,rfl,Z⟩:=n.ke;refine .inl #[_,Z,?_];simp
 ·cases M
end
section
variable{X:Cx}{Φ:Fm}{Γ:Gm}{F:FT}{fr:Nat->Bool}
theorem JS{a b:C}(K:lk c=if lk a<=1 then 0 else 2):(lk c=0\/lk c=2)/\(lk c<=1->lk a<=1):=by
 rw[K];split
 ·rename_i h;exact#[.inl rfl,λ_=>h]
 ·exact#[.inr rfl,λz=>⋯]
theorem w5{lo hi:Option Int}(hK:Φ.K=X.K)(K:lk c=if lk a'<=1 then 0 else 2)(r:fresh fr c=J'->True)(er:ER Φ Γ o ρ S σ H2)(m:EO Φ.K fr o a' H d x H1)(e:aZ o.d H1 H2)
  (q:mR Φ.Ek (iE d lo hi) λz=>∀v Z,EO Φ.K fr o c H z v Z->ER Φ Γ o ρ S σ Z->Q v Z):rS X.K x lo hi H2 Q:=by
 obtain⟨z,k,q⟩:=lr (GJ _ _ _) q;obtain⟨k1,k2,k3⟩:=m.keep e er.gv;refine#[d,z,hK▸jC k1,k,λv Z pr=>?_];rw[<-hK]at pr;have W:=JS (b:=c) K;obtain⟨B,E⟩:=EO.pr er (m.ext.trans e) (aq.cons k1 aq.nil) (λl=>#[k3<|W.2 l,trivial]) W.1 pr λ_=>rfl
 exact q v Z B E
theorem K0(K:Φ.K=X.K)(t:PE X a (bE Φ Γ F fr a'))(W:PE X l (bE Φ Γ F fr l')):PE X (.Subscript a (.Slice (B' l) G' G' P) pos) (bE Φ Γ F fr<|.sliL a' l'):=bb (tw Df t (yc W) yb) λO H Q q=>by
 obtain⟨o,ρ,S,er,q⟩:=q;rw[C2,ae]at q;refine#[o,ρ,S,er,ag q λp _ q x j m s=>?_];rw[ae]at q;refine#[o,ρ,p.2,s,ag q λP _ q y H2 r L=>?_];split at q
 ·rename_i i hi;have n:=r.val;rw[hi]at n;refine#[i,n.int_inv,?_];rw[ae]at q;exact w5 K (rfl) (λ_=>trivial) L m r.ext<|ag q λz _ q v Z B E=>q v Z B E
 ·exact q.elim
theorem KZ(K:Φ.K=X.K)(t:PE X a (bE Φ Γ F fr a'))(W:PE X l (bE Φ Γ F fr l')):PE X (.Subscript a (.Slice G' (B' l) G' P) pos) (bE Φ Γ F fr<|.sliH a' l'):=bb (tw Df t yb<|yc W) λO H Q q=>by
 obtain⟨o,ρ,S,er,q⟩:=q;rw[C1,ae]at q;refine#[o,ρ,S,er,ag q λp _ q x j m s=>?_];rw[ae]at q;refine#[o,ρ,p.2,s,ag q λP _ q y H2 r L=>?_];split at q
 ·rename_i i hi;have n:=r.val;rw[hi]at n;refine#[i,n.int_inv,?_];rw[ae]at q;exact w5 K (rfl) (λ_=>trivial) L m r.ext<|ag q λz _ q v Z B E=>q v Z B E
 ·exact q.elim
theorem OG:PA X [] (ny Φ Γ F .nil):=Ct dN λO H Q q=>by obtain⟨o,ρ,S,er,q⟩:=q;exact q _ _ #[aZ.refl,aq.nil,λ_=>aq.nil,λ_=>trivial] er
theorem KP(w:starEach (e::es) X.env=(K',eval e X.env)::starEach es X.env)(h:PE X e (bE Φ Γ F fr c))(I:PA X es (ny Φ Γ F cs)):PA X (e::es) (ny Φ Γ F<|.cons c cs):=Ct (bf h I w) λO H Q q=>by obtain⟨o,ρ,S,er,q⟩:=q;rw[ie,ae]at q;refine#[o,ρ,S,er,ag q λp _ q x j m s=>?_];rw[ae]at q;refine#[o,ρ,p.2,s,ag q λP _ q xs n r L=>?_];obtain⟨k1,k2,k3⟩:=m.keep r.ext er.gv;have el:qv (.cons c cs)=max (lk c) (qv cs):=rfl;exact q _ _ #[m.ext.trans r.ext,aq.cons k1 r.val,λl=>aq.cons (k2<|by omega)<|r.mX<|by omega,λl=>#[k3<|by omega,r.yB<|by omega]] L
theorem HC(K:lk c=if qv cs=0 then 0 else 2):(lk c<=1->lk c=0)/\(lk c=0->qv cs=0):=by
 rw[K];split
 ·rename_i h;exact#[λ_=>rfl,λ_=>h]
 ·exact#[λz=>⋯,λz=>⋯]
theorem OL(h:PA X es (ny Φ Γ F cs)):PE X (.Tuple es x1 pos) (bE Φ Γ F fr<|.tup cs):=bb (Kq h) λO H Q q=>by
 obtain⟨o,ρ,S,er,q⟩:=q;rw[Gu,ae]at q;refine#[o,ρ,S,er,ag q λp _ q xs j m aF=>?_];obtain⟨I,q⟩:=ay q;refine#[by rw[m.val.length];exact Xh (W7 I) cR,λa t=>?_];have s:=Mx.cA t<|.tup xs;have W:=HC (c:=.tup cs)<|rfl;have Y:lk (.tup cs)=0->RV Φ.K o.A (upd j a<|.tup xs) (.ref a) (.tup p.1):=λl=>RV.iV aB ((m.mX<|W.2 l).same s)
 exact q _ _ #[m.ext.trans<|aZ.of_same s,RV.iV aB<|m.val.same s,Y,λl=>(Y<|W.1 l).one,λz=>by cases z]<|aF.grow s
theorem OD(h:PA X es (ny Φ Γ F cs)):PE X (.List es pos) (bE Φ Γ F fr<|.lst cs):=bb (CC h) λO H Q q=>by
 obtain⟨o,ρ,S,er,q⟩:=q;rw[Gq,ae]at q;refine#[o,ρ,S,er,ag q λp _ q xs j a8 aF=>?_];obtain⟨I,q⟩:=ay q;refine#[by rw[a8.val.length];exact Xh (W7 I) cR,λa t=>?_];have s:=Mx.cA t<|.lst xs;have W:=HC (c:=.lst cs)<|rfl;have na:¬o.A a:=λz=>by obtain⟨y,m⟩:=aF.al a z;rw[t]at m;cases m
 have Y:lk (.lst cs)=0->RV Φ.K o.A (upd j a<|.lst xs) (.ref a) (.lst p.1):=λl=>RV.fT aB na ((a8.mX<|W.2 l).same s)
 refine q _ _ #[a8.ext.trans<|aZ.of_same s,RV.fT aB (λz=>na<|aF.gv a z)<|a8.val.same s,Y,λl=>(Y<|W.1 l).one,λ_ ds e=>?_]<|aF.grow s;cases e;exact#[a,xs,rfl,aF.d4 a8.ext t,aB,(a8.val.avoid t).same s,λl=>((a8.mX<|W.2 l).avoid t).same s]
theorem IC(b)(ds):∀k,dU b ds≠ .ex k:=by
 intro k;unfold dU;split<;>split
 all_goals first
  |(intro z;cases z;done)
  |(exact cO (λk z=>by cases z) k)
  |(split<;>first|(intro z;cases z;done)|(exact cO (λk z=>by cases z) k)|(split<;>first|(intro z;cases z;done)|(exact cO (λk z=>by cases z) k)))
  |(rename_i T d;unfold zt;split<;>(intro z;cases z))
theorem Ce:(lk (.bi b cs)=0\/lk (.bi b cs)=2)/\(lk (.bi b cs)<=1->qv cs<=1):=by
 have e:lk (.bi b cs)=if qv cs<=1 then 0 else 2:=rfl
 rw[e];split
 ·rename_i h;exact#[.inl rfl,λ_=>h]
 ·exact#[.inr rfl,λz=>⋯]
theorem Br(K:Φ.K=X.K)(q:bE Φ Γ F fr (.bi b cs) σ H Q):SM (rP X.K J'<|dU b) (ny Φ Γ F cs) σ H Q:=by
 obtain⟨o,ρ,S,er,q⟩:=q;rw[qN,ae]at q;refine#[o,ρ,S,er,ag q λp _ q xs j m s=>?_];rw[ae]at q;obtain⟨z,k,q⟩:=lr (IC _ _) q;refine#[p.1,z,K▸J1 m.val,k,λv Z pr=>?_];rw[<-K]at pr;obtain⟨B,E⟩:=EO.pr s m.ext m.val (λl=>m.yB<|Ce.2 l) Ce.1 pr λ_=>rfl
 exact q v Z B E
end
def Cs.len:Cs->Nat
 |.nil=>0
 |.cons _ cs=>cs.len+1
theorem p7:∀{cs:Cs}{ρ:aj}{S:Sx}{p:List Dt×Sx},gq F cs ρ S= .ok p->p.1.length=cs.len
 |.nil,ρ,S,p,h=>by rw[mK]at h;cases h;rfl
 |.cons c cs,ρ,S,p,h=>by
  rw[ie]at h;cases Z:ev F c ρ S with
  |ok x=>
   rw[Z]at h;simp only[R.ah]at h;cases Y:gq F cs ρ x.2 with
   |ok y=>rw[Y]at h;cases h;simp[Cs.len,p7 Y]
   |ex k=>rw[Y]at h;cases h
   |bad=>rw[Y]at h;cases h
  |ex k=>rw[Z]at h;cases h
  |bad=>rw[Z]at h;cases h
section
variable{X:Cx}{Φ:Fm}{Γ:Gm}{F:FT}{g:G}{xv:Nat->Value}{CX:nK}{k:Nat}
theorem si(e:aZ (λb=>(G':Option Addr)=B' b) H H'):bJ H H':=λb o h=>e.kp b o h (by simp)
theorem vV{K:Frag}:∀{ds:List Dt},ds.all rE=J'->aq K A H (ds.map uJ) ds
 |[],_=>aq.nil
 |d::ds,h=>by rw[Yk,W5]at h;exact aq.cons (tS h.1)<|vV h.2
theorem s_call(r:HX g xv CX k F Φ X)(hG:Gl X x)(qj:(x==("__debug__":Str))=K')(Al:sr x g.fns=B' (f,np,fN,K'))(hj:j<=fN.length)(P:cs.len+(fN.drop j).length=np)
  (w:starEach (e::es) X.env=(K',eval e X.env)::starEach es X.env) (iD:(backTo pos<|starEach es X.env).any (·.1)=K') (t:PA X (e::es) (ny Φ Γ F cs)):PE X (.Call (.Name x p) (e::es) [] pos) (bE Φ Γ F g.fr<|.call f cs<|fN.drop j):=by
 obtain⟨n,fx⟩:=r.fx;obtain⟨fa,fd,ps,E,i,RB,hok,M,LU⟩:=fx.fn x f np fN K' Al;obtain⟨u7,h,P7⟩:=M j hj;refine bb (xX hok r.room hG i RB P7 h r.pass t qj w iD) λO H Q q=>?_
 obtain⟨o,ρ,S,er,q⟩:=q;rw[tM,ae]at q;refine#[o,ρ,S,er,ag q λp J q c H1 m s=>?_];have Uh:(fN.drop j).all rE=J':=XI.mpr λd hd=>XI.mp LU d (List.mem_of_mem_drop hd)
 have l:lk (.call f cs<|fN.drop j)=if qv cs=0 then 0 else 2:=rfl
 refine#[?_,?_]
 ·rw[Xm,m.val.length,Xf,p7 J];exact P
 by_cases W:qv cs=0
 ·rw[Zn W]at l;refine#[o.A,G',p.1++fN.drop j,G',c++(fN.drop j).map uJ,#[rfl,rfl,rfl],?_,s.al,?_]
  ·rw[<-r.K];exact(m.mX W).append<|vV Uh
  ·cases I:F f (p.1++fN.drop j) G' with
   |ok y=>rw[I]at q;intro v L A;rw[<-r.K]at A;have sm:=si A.ext;refine q v L #[m.ext.trans<|aZ.of_same sm,A.val.weak s.gv,λ_=>A.val,λ_=>A.val.one,λfc ds B=>?_]<|s.grow sm;obtain⟨a,xs,Z,Y,u,h4⟩:=A.fH fc ds B;exact#[a,xs,Z,s.d4 m.ext Y,u,h4.weak λb z=>z.elim (λz=>.inl<|s.gv b z) .inr,λ_=>h4]
   |ex kk=>rw[I]at q;intro L K;exact#[kk,rfl,q,s.ent.trans<|K.mono λb z=>by cases z]
   |bad=>rw[I]at q;exact q.elim
 ·rw[Zm W]at l;refine#[o.wd,G',p.1++fN.drop j,G',c++(fN.drop j).map uJ,#[rfl,rfl,rfl],?_,s.AA,?_]
  ·rw[<-r.K];exact m.val.append<|vV Uh
  ·cases I:F f (p.1++fN.drop j) G' with
   |ok y=>rw[I]at q;intro v L A;rw[<-r.K]at A;have sm:=si A.ext;refine q v L #[m.ext.trans<|aZ.of_same sm,A.val,λz=>by rw[l]at z;lia,λz=>by rw[l]at z;lia,λfc ds B=>?_]<|s.grow sm;obtain⟨a,xs,Z,Y,u,h4⟩:=A.fH fc ds B;exact#[a,xs,Z,s.d4 m.ext Y,u,h4,λz=>by rw[l]at z;lia]
   |ex kk=>rw[I]at q;intro L K;exact#[kk,rfl,q,s.ent.trans<|K.mono λb z=>by cases z]
   |bad=>rw[I]at q;exact q.elim
theorem GD(r:HX g xv CX k F Φ X)(hG:Gl X x)(qj:(x==("__debug__":Str))=K')(Al:sr x g.fns=B' (f,np,fN,J'))(hδ:Γ.δ=B' i)(P:cs.len+1=np)(W:qv cs=0)
  (m:PE X (.Name y yp) (eU i)) (hs:starEach (.Name y yp::es) X.env=(K',eval (.Name y yp) X.env)::starEach es X.env) (iD:(backTo pos<|starEach es X.env).any (·.1)=K') (t:PA X es (ny Φ Γ F cs)):
  PE X (.Call (.Name x p) (.Name y yp::es) [] pos) (bE Φ Γ F g.fr<|.callD f cs):=by
 obtain⟨n,fx⟩:=r.fx;obtain⟨fa,fd,ps,BY,hmg,RB,hok,M,LU⟩:=fx.fn x f np fN J' Al;obtain⟨u7,nI,P7⟩:=M fN.length<|Xb _;rw[List.drop_length]at nI;have RD:u7=[]:=by cases nI;rfl
 subst RD;refine bb (xX hok r.room hG hmg RB P7 .nil r.pass (bf m t hs) qj hs iD) λO H Q q=>?_
 obtain⟨o,ρ,S,er,q⟩:=q;obtain⟨gS,q⟩:=ay q;rw[ae]at q;cases l:o.dr with
 |none=>have:=er.drn l;subst this;cases gS
 |some a=>
  refine#[.ref a,er.drs i a hδ l,o,ρ,S,er,ag q λp J q c j a8 s=>?_];obtain⟨ss,Z,Y⟩:=s.drw a l;rw[Z]at q;simp only at q;refine#[?_,o.A,B' a,p.1,B' ss,c,#[a,ss,by rw[XO],rfl,s.da a l,rfl,Y],r.K▸a8.mX W,s.al,?_]
  ·show ((V.ref a::c)++[]).length=np;rw[XO,Xo,a8.val.length,p7 J];exact P
  ·cases I:F f p.1 (B' ss) with
   |ok y=>
    rw[I]at q;intro v L A;rw[<-r.K]at A;have B:=A.ext.mono λb z=>by show o.dr=B' b;rw[l];exact z
    refine q v L #[a8.ext.trans B,A.val.weak s.gv,λ_=>A.val,λ_=>A.val.one,λu ds B=>?_]<|s.step B (λb M=>?_) λz=>by rw[l]at z;cases z
    ·obtain⟨E,kr,iI,l0,rq,MQ⟩:=A.fH u ds B;exact#[E,kr,iI,s.d4 a8.ext l0,rq,MQ.weak λb z=>z.elim (λz=>.inl<|s.gv b z) .inr,λ_=>MQ]
    ·rw[l]at M;cases M;exact A.drw a rfl
   |ex kk=>
    rw[I]at q;intro L K;refine#[kk,rfl,q,#[λb x h n=>?_,λb xs h=>K.tp _ _<|s.ent.tp b xs h]];refine K.kp _ _ (s.ent.kp b x h n) λz=>?_
    rcases s.dr0 b (l.trans z)with w|w
    ·exact n w
    ·rw[h]at w;cases w
   |bad=>rw[I]at q;exact q.elim
theorem sv:∀(ns:List Int),ns≠[]->ns[ns.length-1]?=B' (ns.getLastD 0)
 |[],h=>absurd rfl h
 |a::r,_=>by rw[List.getLastD_eq_getLast?,List.getLast?_eq_getElem?];simp
theorem KU(K:Φ.K=X.K)(I:Γ.δ=B' i)(m:PE X (.Name y yp) (eU i))(k:(apos.endLine==pos.line)=J'):PE X (.Call (.Attribute (.Name y yp) "pop" apos) [] [] pos) (bE Φ Γ F g.fr .popD):=by
 refine bb (vI PySem.F.plainAttrs_list PySem.F.slot_list_pop PySem.F.type_list_pop JX m rfl k) λO H Q q=>?_
 obtain⟨o,ρ,S,er,q⟩:=q;cases l:o.dr with
 |none=>rw[er.drn l]at q;exact q.elim
 |some a=>
  obtain⟨ns,Z,Y⟩:=er.drw a l;subst Z;obtain⟨t,q⟩:=ay q;have j:ns≠[]:=λe=>by rw[e]at t;cases t
  refine#[.ref a,er.drs i a I l,.inl #[rfl,_,d8.of Y],a,_,.int<|ns.getLastD 0,rfl,rfl,Y,?_,?_]
  ·rw[Xf,Xp,sv ns j];rfl
  have c:(ns.map V.int).dropLast=ns.dropLast.map V.int:=by rw[List.map_dropLast]
  rw[c];have e:aZ o.d H (upd H a<|.lst<|ns.dropLast.map V.int):=#[λb x h n=>by rw[ax (λz=>n<|by rw[z];exact l)];exact h,λb xs h=>by rw[ax (λz=>by rw[z,Y]at h;cases h)];exact h];refine q _ _ ?_<|er.step e (λb M=>?_) λz=>by rw[l]at z;cases z
  ·exact(EO.sc rfl).sf e λf=>by cases f
  ·rw[l]at M;cases M;exact#[_,rfl,aB]
theorem KR(I:Γ.δ=B' i)(h:Gl X "len")(A:X.mg "len"=G')(m:PE X (.Name y yp) (eU i)):PE X (.Call (.Name "len" p) [.Name y yp] [] pos) (bE Φ Γ F g.fr .lenD):=by
 refine bb (jG pO h A PySem.boot_len<|bf m dN) λO H Q q=>?_
 obtain⟨o,ρ,S,er,q⟩:=q;cases l:o.dr with
 |none=>rw[er.drn l]at q;exact q.elim
 |some a=>obtain⟨ns,Z,Y⟩:=er.drw a l;subst Z;refine#[.ref a,er.drs i a I l,a,_,rfl,.inl<|d8.of Y,?_];rw[Xf];exact q _ _ (EO.sc rfl) er
theorem En{T:String}(h:wj t=B' T):bootBuiltins t=B' (.type T):=by
 unfold wj at h;split at h
 ·rename_i e;cases h;rw[Xt e];exact PyProof.Rows.boot_str
 split at h
 ·rename_i e;cases h;rw[Xt e];exact PyProof.Rows.boot_int
 split at h
 ·rename_i e;cases h;rw[Xt e];exact PyProof.Rows.boot_bool
 split at h
 ·rename_i e;cases h;rw[Xt e];exact PyProof.Rows.boot_list
 split at h
 ·rename_i e;cases h;rw[Xt e];exact PyProof.Rows.boot_tuple
 ·cases h
theorem G3{T:String}(h:wj t=B' T):T="str"\/T="int"\/T="bool"\/T="list"\/T="tuple":=by
 unfold wj at h;split at h
 ·cases h;simp
 split at h
 ·cases h;simp
 split at h
 ·cases h;simp
 split at h
 ·cases h;simp
 split at h
 ·cases h;simp
 ·cases h
theorem JE{K:Frag}{T:String}(v:T="str"\/T="int"\/T="bool"\/T="list"\/T="tuple")(L:RV K A H x d)(h:zt T d= .ok b):∃t,jc K H x t/\PySem.W.kitOne K t (.type T)=B' b:=by
 unfold zt at h;split at h
 ·cases h;rw[L.str_inv];refine#[_,.str _,?_];rcases v with rfl|rfl|rfl|rfl|rfl<;>rfl
 ·cases h;rw[L.int_inv];refine#[_,.int _,?_];rcases v with rfl|rfl|rfl|rfl|rfl<;>rfl
 ·cases h;rw[L.bY];refine#[_,.bl _,?_];rcases v with rfl|rfl|rfl|rfl|rfl<;>rfl
 ·cases h;obtain⟨a,xs,rfl,Z,_⟩:=L.lst_inv;refine#[_,.lst Z,?_];rcases v with rfl|rfl|rfl|rfl|rfl<;>rfl
 ·cases h;obtain⟨a,xs,rfl,Z,_⟩:=L.ao;refine#[_,.tup Z,?_];rcases v with rfl|rfl|rfl|rfl|rfl<;>rfl
 ·cases h;rw[L.dY];refine#[_,.bX,?_];rcases v with rfl|rfl|rfl|rfl|rfl<;>rfl
 ·cases h;obtain⟨a,xs,rfl,Z,_⟩:=L.ib;refine#[_,.dK Z,?_];rcases v with rfl|rfl|rfl|rfl|rfl<;>rfl
 ·cases h
theorem Fi(T)(d):∀k,zt T d≠ .ex k:=by intro k;unfold zt;split<;>(intro z;cases z)
theorem OC{T:String}(K:Φ.K=X.K)(h:Gl X "isinstance")(A:X.mg "isinstance"=G')(c:Gl X t)(i:X.mg t=G')(hT:wj t=B' T)(P:t≠"__name__")(y:(t==("__debug__":Str))=K')
  (w:starEach (a::[.Name t tp]) X.env=(K',eval a X.env)::starEach [.Name t tp] X.env) (ha:PE X a (bE Φ Γ F g.fr a')):PE X (.Call (.Name "isinstance" p) [a,.Name t tp] [] pos) (bE Φ Γ F g.fr<|.bi (.isi T)<|.cons a' .nil):=by
 refine bb (jG Mx.AS h A PyProof.Rows.boot_isinstance (bf ha (bf (xW (v:=.ty T) c i (En hT) rfl P y) dN) w) (by decide) (by decide) w) λO H Q q=>?_
 obtain⟨o,ρ,S,er,q⟩:=q;rw[qN]at q;simp only[ie,mK]at q;rw[ae,ae]at q;refine#[o,ρ,S,er,ag q λp J q x j m s=>?_];have q:mR Φ.Ek ((dU (.isi T) [p.1]).bind λd=>R.ok (d,p.2)) _:=q;unfold dU at q;rw[ae,ae]at q;obtain⟨b,M,q⟩:=fz (Fi _ _) q;obtain⟨ty,k1,k2⟩:=JE (G3 hT) (K▸m.val) M;refine#[x,T,ty,b,rfl,k1,k2,q _ _ ?_ s];exact(EO.sc rfl).sf m.ext λf=>by cases f
theorem boot_set:bootBuiltins "set"=B' (.type "set"):=by decide +kernel
def O5(a:TE):TE:=λO H Q=>a O H λv j=>∃b l ys,v= .ref l/\j l=B' (Mx.rB b<|ys.map V.str)/\ys.length<64/\∀n w es,j n=G'->Mx.bj j w es->es=aG ((dd ys).map Mx.D.str)->Q (.ref n) (upd j n<|.lst w)
theorem FW{e:Expr}{a:TE}{p p2 pos c:Pos}(K:X.calm=J')(hu:X.A.units+150<cLine)(hg:Gl X "sorted")(A:X.mg "sorted"=G')(zl:Gl X "set")(r:X.mg "set"=G')(P:PE X e a)
  (w:starEach [e] X.env=[(K',eval e X.env)]) (nO:starEach [.Call (.Name "set" p2) [e] [] c] X.env=[(K',eval (.Call (.Name "set" p2) [e] [] c) X.env)]:=by rfl):
  PE X (.Call (.Name "sorted" p) [.Call (.Name "set" p2) [e] [] c] [] pos) (O5 a):=by
 intro S s O H Q I h;refine Zv (fQ I hg A PyProof.Rows.boot_sorted ?_ (by decide) (by decide));refine PyProof.Rows.callWith_builtin1 ?_ (by rw[nO];rfl) (by rfl);rw[nO];show wpAny _ _ (spliced ((K',eval (.Call (.Name "set" p2) [e] [] c) X.env)::backTo pos [])) _ _ s;refine Calls.spliced_cons ?_;refine Zv (fQ I zl r boot_set ?_ (by decide) (by decide));refine Y8 ?_ (by rw[w];rfl) (by rfl);rw[w];show wpAny _ _ (spliced ((K',eval e X.env)::backTo c [])) _ _ s;refine Calls.spliced_cons (bS (P S s O H _ I h) λu s1#[v,j,g,F,b,l,ys,B,W,E,q]=>?_);subst B;cases F;refine Calls.spliced_nil ?_;obtain⟨J,r',pl⟩:=Mx.fZ g W;have LQ:J.toArray.size=ys.length:=by have:=r'.length;rw[Xf]at this;simp[this]
 refine Mx.pP (g.ok.hd K) pl (by simpa using r') (by rw[LQ];unfold scanBound;lia) λh' tk ks hS i Z=>?_
 refine Calls.spliced_nil ?_;have Y:Inv X S O j {s1 with heap:=h',toks:=tk}:=g.kept Z;have y:ks.Nodup:=by obtain⟨_,_,_,_,z,_⟩:=hS;exact z
 have pm:ks.Perm (dd ys):=nY y (lN ys) λx=>(i x).trans (pW ys x).symm
 refine Mx.vX hu K Y hS (by rw[pm.length_eq];exact YZ (uZ ys) E) λn zs es hn k t=>q n zs es hn k ?_
 exact mU #[t.1.trans (pm.map _),t.2]
theorem vk{K:Frag}(h:cg d=B' ds)(n:RV K A H x d):∃b l xs,x= .ref l/\H l=B' (Mx.rB b xs)/\aq K A H xs ds:=by
 unfold cg at h;split at h
 ·cases h;obtain⟨a,xs,rfl,Y,fn,Q⟩:=n.lst_inv;exact#[K',a,xs,rfl,Y,Q]
 ·cases h;obtain⟨a,xs,rfl,Y,Q⟩:=n.ao;exact#[J',a,xs,rfl,Y,Q]
 ·cases h
theorem K2(hK:Φ.K=X.K)(K:X.calm=J')(hu:X.A.units+150<cLine)(h:Gl X "sorted")(hm:X.mg "sorted"=G')(y:Gl X "set")(r:X.mg "set"=G')(hs:starEach [a] X.env=[(K',eval a X.env)])(t:PE X a (bE Φ Γ F g.fr a')):
  PE X (.Call (.Name "sorted" p) [.Call (.Name "set" p2) [a] [] vM] [] pos) (bE Φ Γ F g.fr<|.bi .sset<|.cons a' .nil):=by
 refine bb (FW K hu h hm y r t hs) λO H Q q=>?_
 obtain⟨o,ρ,S,er,q⟩:=q;rw[qN]at q;simp only[ie,mK]at q;rw[ae,ae]at q;refine#[o,ρ,S,er,ag q λp J q x j m s=>?_];simp only[R.ah]at q;have q:mR Φ.Ek ((dU .sset [p.1]).bind λd=>R.ok (d,p.2)) _:=q;unfold dU at q;simp only at q;split at q
 ·rename_i ds u;split at q
  ·rename_i ys v;rw[ae]at q;obtain⟨gl,q⟩:=ay q;obtain⟨b,l,xs,rfl,Y,f2⟩:=vk u m.val;rw[tX f2 v]at Y;refine#[b,l,ys,rfl,Y,W7 gl,λn zs es P k i=>?_];have pr:PR Φ.K J' [.ref l] [p.1] j (.lst<|aa es) (.ref n) (upd j n<|.lst zs):=PR.qB P λA w=>aq.my k
   have W:=Ce (b:=.sset) (cs:=.cons a' .nil);have el:qv (.cons a' .nil)=max (lk a') 0:=rfl;obtain⟨B,E⟩:=EO.pr (fr:=g.fr) (H:=H) (c:=.bi .sset<|.cons a' .nil) s m.ext (aq.cons m.val aq.nil) (λl=>#[m.yB<|by have:=W.2 l;lia,trivial]) W.1 pr λ_=>rfl
   rw[i]at B;exact q _ _ B E
  ·exact q.elim
 ·exact q.elim
end
def R0(K:Frag)(b:TE):TI:=λO H R=>b O H λx j=>(∃a xs,x= .ref a/\d8 K j a xs/\R (Py K a) j)\/(∃a xs,x= .ref a/\fL K j a xs/\R (QC K a) j)\/∃z,x= .str z/\R (Mx.PD z) j
theorem Ks(W:PE X l tl):PI X tg l (R0 X.K tl):=by
 intro S s O H R I h;refine bS (W S s O H _ I h) λv s1#[x,j,g,r1,q1]=>?_
 rcases q1 with ⟨a,xs,e,F,q⟩|⟨a,xs,e,F,q⟩|⟨z,e,q⟩
 ·subst e;cases r1;obtain⟨J,rv,p,k⟩:=g.list F;refine ZF p.isList ?_;refine#[s1.heap.objs.size,[s1.heap.objs.size],_,_,j,rfl,g.kept λb o e=>W3 _ e,zY a _,#[_,Xd _ rfl,rfl,rfl],λb M=>?_,q];have e:b=s1.heap.objs.size:=by simpa using M
  subst e;exact g.nN (Xb _)<|g.hok.fresh<|Xb _
 ·subst e;cases r1;obtain⟨J,rv,p,k⟩:=g.tuple F;refine ZG (p) ?_;refine#[s1.heap.objs.size,[s1.heap.objs.size],_,_,j,rfl,g.kept λb o e=>W3 _ e,we a _,#[_,Xd _ rfl,rfl,rfl],λb M=>?_,q];have e:b=s1.heap.objs.size:=by simpa using M
  subst e;exact g.nN (Xb _)<|g.hok.fresh<|Xb _
 ·subst e;obtain⟨t,rfl⟩:=r1;exact Mx.CJ g q
section
variable{X:Cx}{Φ:Fm}{Γ:Gm}{F:FT}{g:G}{k:Nat}{K:Frag}
theorem yK(t:H a=B' (.lst xs))(P:¬Y a)(O:∀b,Y b->A b)(h:aq K A H xs ds):Wk K A Y (Py K a) H ds where
 go:=λi j hi e=>#[xs,xs[i]'(by rw[h.length];exact hi),d8.of<|e.kp _ _ t P,by simp]
 stop:=λj e=>#[xs,d8.of<|e.kp _ _ t P,by rw[h.length];exact Xb _]
 yld:=λi x j n hi e y=>by obtain⟨rfl,y⟩:=y;obtain⟨d,Z,h2⟩:=h.get<|y xs<|d8.of<|e.kp _ _ t P;exact#[bJ.refl _,d,Z,λB g=>(h2.bF (B:=λb=>A b\/B b) λb z=>z.elim .inl<|g b).mono e (λb z=>.inl<|O b z) λ_ z=>.inr z]
theorem wt(t:H a=B' (.tup xs))(O:∀b,Y b->A b)(h:aq K A H xs ds):Wk K A Y (QC K a) H ds where
 go:=λi j hi e=>#[xs,xs[i]'(by rw[h.length];exact hi),fL.of<|e.tp _ _ t,by simp]
 stop:=λj e=>#[xs,fL.of<|e.tp _ _ t,by rw[h.length];exact Xb _]
 yld:=λi x j n hi e y=>by obtain⟨rfl,y⟩:=y;obtain⟨d,Z,h2⟩:=h.get<|y xs<|fL.of<|e.tp _ _ t;exact#[bJ.refl _,d,Z,λB g=>(h2.bF (B:=λb=>A b\/B b) λb z=>z.elim .inl<|g b).mono e (λb z=>.inl<|O b z) λ_ z=>.inr z]
theorem wu:Wk K A Y (Mx.PD z) H (z.cps.toList.map λc=>.str ⟨#[c]⟩) where
 go:=λi j hi e=>by rw[Xf,Xq]at hi;exact hi
 stop:=λj e=>by rw[Xf,Xq];exact Xb _
 yld:=λi x j n hi e y=>by obtain⟨rfl,c,Z,rfl⟩:=y;exact#[bJ.refl _,.str ⟨#[c]⟩,by rw[Xp,Array.getElem?_toList,Z];rfl,λ_ _=>RV.qA]
theorem DI{ns:List Int}(t:(Rd H a (.lst<|ns.map V.int)/\¬Y a)\/KL K a (ns.map V.int)):Wk K A Y (Py K a) H (ns.map Dt.int):=by
 have b:∀j,aZ Y H j->d8 K j a (ns.map V.int):=λj e=>by
  rcases t with ⟨h,n⟩|h
  ·exact .inl<|KH e n h
  ·exact .inr h
 refine#[λi j hi e=>?_,λj e=>#[_,b j e,by simp],λi x j H2 hi e y=>?_]
 ·rw[Xf]at hi;exact#[_,.int ns[i],b j e,by simp[hi]]
 ·obtain⟨rfl,y⟩:=y;have:=y _<|b _ e;rw[Xp]at this;obtain⟨m,Z,rfl⟩:=Xl.mp this;exact#[bJ.refl _,.int m,by simp[Z],λ_ _=>RV.fS]
theorem wo{lo:Int}:Wk K A Y (Pz lo n) H (bD lo n) where
 go:=λi j hi e=>by unfold bD at hi;simp at hi;exact hi
 stop:=λj e=>by unfold bD;simp only[Xf,Yw];exact Xb _
 yld:=λi x j H2 hi e y=>by obtain⟨rfl,rfl⟩:=y;unfold bD at hi;simp at hi;exact#[bJ.refl _,.int<|lo+i,by unfold bD;simp[hi],λ_ _=>RV.fS]
theorem OK(hK:Φ.K=X.K)(ha:PE X a (bE Φ Γ F g.fr a')):PI X tg a (rf Φ Γ F (.seq a')):=qI (Ks ha) λσ H Q q=>by
 obtain⟨o,ρ,S,er,q⟩:=q;rw[zR]at q;rw[ae]at q;refine#[o,ρ,S,er,ag q λp he q x H1 a8 aF=>?_];have Am:uI (.seq a')=lk a':=rfl;cases hd:p.1 with
 |lst ds=>
  rw[hd]at q;have hv:=a8.val;have h0:=a8.mX;have h1:=a8.yB;rw[hd]at hv h0 h1;obtain⟨b,xs,rfl,f1,fn,f2⟩:=hv.lst_inv;refine .inl #[b,xs,rfl,d8.of f1,q _ _ #[a8.ext,λl=>?_,λl=>?_,λl=>by unfold iA at l;rw[he]at l;simp only[hd]at l;cases l] aF]
  ·rw[<-hK];exact yK f1 (λz=>fn (.inr z)) aF.da (gy.ff (h1 (by rw[Am]at l;exact l)) f1)
  ·rw[<-hK];have:=h0 (by rw[Am]at l;exact l);obtain⟨b',kr,e',g1,gn,g2⟩:=this.lst_inv;cases e';exact yK g1 gn (λ_ z=>z) g2
 |tup ds=>
  rw[hd]at q;have hv:=a8.val;have h0:=a8.mX;have h1:=a8.yB;rw[hd]at hv h0 h1;obtain⟨b,xs,rfl,f1,f2⟩:=hv.ao;refine .inr (.inl #[b,xs,rfl,fL.of f1,q _ _ #[a8.ext,λl=>?_,λl=>?_,λl=>?_] aF])
  ·rw[<-hK];exact wt f1 aF.da (gy.aV (h1 (by rw[Am]at l;exact l)) f1)
  ·rw[<-hK];exact wt f1 (λ_ z=>z) (gy.aV (h0 (by rw[Am]at l;exact l)).one f1)
  ·rw[<-hK];unfold iA at l;rw[he]at l;simp only[hd]at l;exact wt f1 (λ_ z=>z) (gy.aV (hv.lx l:RV Φ.K o.A H1 (.ref b) (.tup ds)).one f1)
 |ir ns=>
  rw[hd]at q;have hv:=a8.val;have h0:=a8.mX;rw[hd]at hv h0;obtain⟨b,rfl,hb⟩:=hv.ix;have Qg:d8 X.K H1 b (ns.map V.int):=by
   rw[<-hK];rcases hb with hb|hb
   ·exact .inl hb.1
   ·exact .inr hb
  refine .inl #[b,_,rfl,Qg,q _ _ #[a8.ext,λl=>?_,λl=>?_,λl=>by unfold iA at l;rw[he]at l;simp only[hd]at l;cases l] aF]
  ·rw[<-hK];exact DI (hb.imp (λz=>#[z.1,λw=>z.2 (.inr w)]) id)
  ·rw[<-hK];obtain⟨b',e',xj⟩:=(h0 (by rw[Am]at l;exact l)).ix;cases e';exact DI xj
 |str z=>rw[hd]at q;have hv:=a8.val;rw[hd]at hv;exact .inr (.inr #[z,hv.str_inv,q _ _ #[a8.ext,λ_=>wu,λ_=>wu,λ_=>wu] aF])
 |_=>rw[hd]at q;exact q.elim
theorem KW(h:Gl X "range")(A:X.mg "range"=G')(w:starEach [a] X.env=[(K',eval a X.env)])(t:PE X a (bE Φ Γ F g.fr a')):PI X tg (.Call (.Name "range" p) [a] [] pos) (rf Φ Γ F<|.rng1 a'):=
 qI (zM h A (bf t dN<|by rw[w];rfl) w) λO H Q q=>by
 obtain⟨o,ρ,S,er,q⟩:=q;rw[vP,ae]at q;refine#[o,ρ,S,er,ag q λp _ q x H1 m s=>?_];cases hd:p.1 with
 |int j=>rw[hd]at q;obtain⟨I,q⟩:=ay q;rw[W5]at I;have E:=W7 I.1;have L:=W7 I.2;have W:lim=1000000:=rfl;have n:=m.val;rw[hd]at n;exact#[j,by rw[n.int_inv],⋯,⋯,q _ _ #[m.ext,λ_=>wo,λ_=>wo,λ_=>wo] s]
 |_=>rw[hd]at q;exact q.elim
theorem DJ(Z:H l1=B' (Mx.rB b1 xs))(h2:H l2=B' (Mx.rB b2 ys))(w:b1=K'->¬Y l1)(P:b2=K'->¬Y l2)(O:∀b,Y b->A b)(I:aq K A H xs ds)(r:aq K A H ys es):Wk K A Y (Mx.QA b1 b2 l1 l2) H (jU ds es):=by
 have k1:∀j,aZ Y H j->j l1=B' (Mx.rB b1 xs):=λj e=>by
  cases b1 with
  |false=>exact e.kp _ _ Z<|w rfl
  |true=>exact e.tp _ _ Z
 have k2:∀j,aZ Y H j->j l2=B' (Mx.rB b2 ys):=λj e=>by
  cases b2 with
  |false=>exact e.kp _ _ h2<|P rfl
  |true=>exact e.tp _ _ h2
 have k:(jU ds es).length=min xs.length ys.length:=by unfold jU;rw[List.length_zipWith,I.length,r.length]
 refine#[λi j hi e=>?_,λj e=>?_,λi x j n hi e y=>?_]
 ·rw[k]at hi;exact#[xs,ys,xs[i]'⋯,ys[i]'⋯,k1 j e,k2 j e,by simp,by simp]
 ·exact#[xs,ys,k1 j e,k2 j e,⋯]
 ·obtain⟨p,m,X,rfl,J,rfl,q⟩:=y;obtain⟨l,q2⟩:=q xs ys (k1 j e)<|k2 j e;obtain⟨d,E,L⟩:=I.get l;obtain⟨c,u,c2⟩:=r.get q2;have s:=Mx.cA J<|.tup [m,X];refine#[s,.tup [d,c],by unfold jU;rw[List.getElem?_zipWith,E,u],λB g=>RV.iV aB ?_];have Q:∀{v:V}{dd:Dt},RV K A H v dd->RV K B (upd j p<|.tup [m,X]) v dd:=λh=>((h.bF (B:=λb=>A b\/B b) λb z=>z.elim .inl<|g b).mono e (λb z=>.inl<|O b z) λ_ z=>.inr z).same s
  exact aq.cons (Q L)<|aq.cons (Q c2) aq.nil
theorem fA(h:cg d=B' ds)(n:RV K A H x d)(Z:gy K B H x d):∃b l xs,x= .ref l/\H l=B' (Mx.rB b xs)/\(b=K'->¬A l)/\aq K B H xs ds:=by
 unfold cg at h;split at h
 ·cases h;obtain⟨a,xs,rfl,Y,fn,Q⟩:=n.lst_inv;exact#[K',a,xs,rfl,Y,λ_=>fn,gy.ff Z Y]
 ·cases h;obtain⟨a,xs,rfl,Y,Q⟩:=n.ao;exact#[J',a,xs,rfl,Y,λz=>(by cases z),gy.aV Z Y]
 ·cases h
theorem ON(K:Φ.K=X.K)(h:Gl X "zip")(A:X.mg "zip"=G')(hs:starEach [a,b] X.env=[(K',eval a X.env),(K',eval b X.env)])(J:starEach [b] X.env=[(K',eval b X.env)])(t:PE X a (bE Φ Γ F g.fr a'))(M:PE X b (bE Φ Γ F g.fr b')):
  PI X (.Tuple es kk tp) (.Call (.Name "zip" p) [a,b] [] pos) (rf Φ Γ F<|.zip a' b'):=
 qI (Mx.F2 h A (bf t (bf M dN<|by rw[J];rfl)<|by rw[hs,J]) hs J) λO H Q q=>by
 obtain⟨o,ρ,S,er,q⟩:=q;rw[zS,ae]at q;refine#[o,ρ,S,er,ag q λp _ q x j m s=>?_];rw[ae]at q;refine#[o,ρ,p.2,s,ag q λP _ q y n r L=>?_];have c:uI (.zip a' b')=max (lk a') (lk b'):=rfl;split at q
 ·rename_i ds es B E;obtain⟨k1,k2,k3⟩:=m.keep r.ext er.gv;obtain⟨u,l1,xs,rfl,Y,UZ,f2⟩:=fA B k1 k1.one;obtain⟨c2,l2,ys,rfl,I,U4,g2⟩:=fA E r.val r.val.one;refine#[u,c2,l1,l2,xs,ys,rfl,Y,I,q _ _ #[m.ext.trans r.ext,λl=>?_,λl=>?_,λl=>by unfold iA at l;cases l] L]
  ·rw[c]at l;obtain⟨Mr,Wc,kr,e',k,_,Q5⟩:=fA B k1<|k3 ⋯;obtain⟨Ms,Wd,Qr,W,v,_,i⟩:=fA E r.val<|r.yB ⋯;cases e';cases W;have i1:u=Mr/\xs=kr:=by rw[Y]at k;cases u<;>cases Mr<;>first|(cases k;exact#[rfl,rfl])|cases k
   have i2:c2=Ms/\ys=Qr:=by rw[I]at v;cases c2<;>cases Ms<;>first|(cases v;exact#[rfl,rfl])|cases v
   obtain⟨rfl,rfl⟩:=i1;obtain⟨rfl,rfl⟩:=i2;exact DJ Y I (λz w=>UZ z<|.inr w) (λz w=>U4 z<|.inr w) L.da Q5 i
  ·rw[c]at l;obtain⟨Mr,Wc,kr,e',k,Z,Q5⟩:=fA B (k2 ⋯) (k2 ⋯).one;obtain⟨Ms,Wd,Qr,W,v,J2,i⟩:=fA E (r.mX ⋯) (r.mX ⋯).one;cases e';cases W;have i1:u=Mr/\xs=kr:=by rw[Y]at k;cases u<;>cases Mr<;>first|(cases k;exact#[rfl,rfl])|cases k
   have i2:c2=Ms/\ys=Qr:=by rw[I]at v;cases c2<;>cases Ms<;>first|(cases v;exact#[rfl,rfl])|cases v
   obtain⟨rfl,rfl⟩:=i1;obtain⟨rfl,rfl⟩:=i2;exact DJ Y I Z J2 (λ_ z=>z) Q5 i
 ·exact q.elim
end
def Dz:List Nat->Ag
 |[]=>Jd
 |i::is=>By (eX i)<|Dz is
def L7(K:Frag):Tg->TG
 |.nm i=>eX i
 |.tp is=>Mx.Hn K is.length<|Dz is
section
variable{X:Cx}{Φ:Fm}{Γ:Gm}{g:G}{k:Nat}
theorem eE(h:fD Γ x=B' i):Fw (Γ.names.lookup x)=J'/\du x=J'/\Γ.N[i]?=B' x:=by
 unfold fD at h;split at h
 ·rename_i c;rw[W5]at c;exact#[c.1,c.2,lh h]
 ·cases h
theorem dz(h:slot Γ x=B' i):G5 (Γ.names.lookup x)=J'/\du x=J'/\Γ.N[i]?=B' x:=by
 unfold slot at h;split at h
 ·rename_i c;rw[W5]at c;exact#[c.1,c.2,lh h]
 ·cases h
theorem jF(h:tf Γ e=B' i):∃x p,e= .Name x p/\fD Γ x=B' i/\plainS Γ i=J':=by
 unfold tf at h;split at h
 ·rename_i x p;obtain⟨j,Z,Y⟩:=W2.mp h;split at Y
  ·cases Y;exact#[x,p,rfl,Z,by assumption]
  ·cases Y
 ·cases h
theorem HR(l:GX g Γ X)(h:tf Γ e=B' i):PG X e (eX i):=by obtain⟨x,p,rfl,Z,_⟩:=jF h;obtain⟨a,b,c⟩:=eE Z;obtain⟨Q,S⟩:=l.loc x a;exact FY (l.N▸l.nd) (by rw[l.N];exact c) Q S
theorem HS(l:GX g Γ X):∀{es:List Expr}{is:List Nat},qx Γ es=B' is->LC X es (Dz is)/\es.length=is.length/\∀e∈es,∃x p,e= .Name x p
 |[],is,h=>by cases h;exact#[F0,rfl,λe z=>by cases z]
 |e::es,is,h=>by
  obtain⟨i,Z,Y⟩:=W2.mp h;obtain⟨a,u,rfl⟩:=Xl.mp Y;obtain⟨k1,k2,k3⟩:=HS l u;obtain⟨x,p,ex,_⟩:=jF Z;refine#[CH (HR l Z) k1<|by subst ex;rfl,by simp[k2],λK z=>?_];rcases Xi.mp z with rfl|z
  ·exact#[x,p,ex]
  ·exact k3 K z
theorem mv:∀{es:List Expr},(∀e∈es,∃x p,e=Expr.Name x p)->(assignEach es env).length=es.length/\(assignEach es env).findIdx? (·.1)=G'
 |[],_=>#[rfl,rfl]
 |e::es,h=>by
  obtain⟨x,p,rfl⟩:=h e Xc;obtain⟨Z,Y⟩:=mv (env:=env) λK z=>h K (W9 _ z)
  have q:assignEach (Expr.Name x p::es) env=(K',assign (.Name x p) env)::assignEach es env:=rfl;rw[q];refine#[by simp[Z],?_];rw[List.findIdx?_cons];simp[Y]
theorem K3(l:GX g Γ X)(h:Er Γ e=B' t):PG X e (L7 X.K t):=by
 unfold Er at h;split at h
 ·obtain⟨i,Z,rfl⟩:=Xl.mp h;exact HR l Z
 ·obtain⟨is,Z,rfl⟩:=Xl.mp h;obtain⟨k1,k2,k3⟩:=HS l Z;obtain⟨w,P⟩:=mv k3;exact Mx.FZ l.calm k1 (by rw[w,k2]) P
 ·cases h
theorem nz(h:Er Γ e=B' t):∀i∈cq t,plainS Γ i=J'/\∃x,fD Γ x=B' i:=by
 have b:∀{es:List Expr}{is:List Nat},qx Γ es=B' is->∀i∈is,plainS Γ i=J'/\∃x,fD Γ x=B' i:=by
  intro es
  induction es with
  |nil=>intro is h i hi;cases h;cases hi
  |cons e es ih=>
   intro is h i hi;obtain⟨j,Z,Y⟩:=W2.mp h;obtain⟨a,u,rfl⟩:=Xl.mp Y;rcases Xi.mp hi with rfl|hi
   ·obtain⟨x,p,_,k1,k2⟩:=jF Z;exact#[k2,x,k1]
   ·exact ih u i hi
 unfold Er at h;split at h
 ·obtain⟨j,Z,rfl⟩:=Xl.mp h;intro i hi;have:i=j:=by simpa [cq]using hi
  subst this;obtain⟨x,p,_,k1,k2⟩:=jF Z;exact#[k2,x,k1]
 ·obtain⟨is,Z,rfl⟩:=Xl.mp h;exact b Z
 ·cases h
theorem jH(h:plainS Γ i=J'):cL Γ i=K'/\Γ.δ≠B' i:=by unfold plainS at h;rw[W5]at h;refine#[by simpa using h.1,λe=>?_];rw[e]at h;simp at h
theorem ER.set(er:ER Φ Γ o ρ S σ H)(J:plainS Γ i=J')(h:RV Φ.K o.A H v d):ER Φ Γ o (ρ.set i<|B' d) S (σ.set i<|B' v) H where
 len:=by rw[Yy,Yy];exact er.len
 wa:=er.wa
 da:=er.da
 al:=er.al
 val:=λj e P=>by
  by_cases F:j=i
  ·subst F;rw[Yq]at P;simp only[Zo]at P;split at P
   ·rename_i p;cases P;refine#[v,by rw[XW (by rw[er.len];exact p)],?_];rw[(jH J).1,Zm (by simp)];exact h
   ·cases P
  ·rw[Xn (Y6 F)]at P;obtain⟨w,Z,Y⟩:=er.val j e P;exact#[w,by rw[Xn (Y6 F)];exact Z,Y]
 inj:=λa b c e f t M Z Y u Q=>by
  have na:a≠i:=λz=>by rw[z,(jH J).1]at t;cases t
  have k:b≠i:=λz=>by rw[z,(jH J).1]at M;cases M
  rw[Xn (Y6 na)]at Z u;rw[Xn (Y6 k)]at Y Q;exact er.inj a b c e f t M Z Y u Q
 dk:=Dk.set er.dk h.nd
 drw:=er.drw
 drn:=er.drn
 drs:=λj a F t=>by rw[Xn (λz=>(jH J).2<|by rw[z];exact F)];exact er.drs j a F t
 dr0:=er.dr0
 ent:=er.ent
theorem rg:∀{is:List Nat}{ds:List Dt}{xs:List V}{ρ ρ1:aj}{O:L2.St},ER Φ Γ o ρ S O H->(∀i∈is,plainS Γ i=J')->aq Φ.K o.A H xs ds->gj is ds ρ= .ok ρ1->(∀K,ER Φ Γ o ρ1 S K H->(∀k,k∉is->K[k]?=O[k]?/\ρ1[k]?=ρ[k]?)->Q K H)->Dz is xs O H Q/\xs.length=is.length
 |[],ds,xs,ρ,ρ1,O,er,_,L,h,q=>by
  cases ds with
  |nil=>cases h;rw[L.nil_inv];exact#[#[rfl,q O er λ_ _=>#[rfl,rfl]],rfl]
  |cons=>cases h
 |i::is,ds,xs,ρ,ρ1,O,er,J,L,h,q=>by
  cases ds with
  |nil=>cases h
  |cons d ds=>
   obtain⟨x,r,rfl,Z,Y⟩:=L.cons_inv;obtain⟨k1,k2⟩:=rg (er.set (J i Xc) Z) (λj F=>J j<|W9 _ F) Y h λK s g=>q K s λk a=>by
    have w:k≠i:=λz=>a (by rw[z];exact Xc)
    obtain⟨E,a2⟩:=g k λz=>a (W9 _ z)
    rw[Xn (Y6 w)]at E a2;exact#[E,a2]
   exact#[#[x,r,rfl,k1],by simp[k2]]
theorem Dy(er:ER Φ Γ o ρ S σ H)(J:∀i∈cq t,plainS Γ i=J')(L:RV Φ.K o.A H x d)(h:dS t d ρ= .ok ρ1)(q:∀K,ER Φ Γ o ρ1 S K H->(∀k,k∉cq t->K[k]?=σ[k]?/\ρ1[k]?=ρ[k]?)->Q K H):L7 Φ.K t x σ H Q:=by
 cases t with
 |nm i=>
  cases h;exact q _ (er.set (J i<|by simp[cq]) L) λk g=>by
   have w:k≠i:=λz=>g (by simp[cq,z])
   rw[Xn (Y6 w),Xn (Y6 w)];exact#[rfl,rfl]
 |tp is=>
  cases d with
  |tup ds=>obtain⟨a,xs,rfl,Z,Y⟩:=L.ao;obtain⟨k1,k2⟩:=rg er J Y h q;exact#[a,xs,rfl,.inl<|fL.of Z,k2,k1]
  |lst ds=>obtain⟨a,xs,rfl,Z,_,Y⟩:=L.lst_inv;obtain⟨k1,k2⟩:=rg er J Y h q;exact#[a,xs,rfl,.inr<|d8.of Z,k2,k1]
  |_=>cases h
theorem mQ:∀(is:List Nat)(ds:List Dt)(ρ:aj)(k:Nat),gj is ds ρ≠ .ex k
 |[],[],_,_=>λz=>by cases z
 |[],_::_,_,_=>λz=>by cases z
 |_::_,[],_,_=>λz=>by cases z
 |_::is,_::ds,ρ,k=>mQ is ds _ k
theorem tU(t)(d)(ρ):∀k,dS t d ρ≠ .ex k:=by
 intro k;cases t with
 |nm i=>intro z;cases z
 |tp is=>
  cases d with
  |tup ds=>exact mQ is ds ρ k
  |lst ds=>exact mQ is ds ρ k
  |_=>intro z;cases z
theorem sS{r:R α}{P:α->Prop}(j:∀k,r≠ .ex k)(h:mR Ek r P):∃d,r= .ok d/\P d:=by
 cases r with
 |ok a=>exact#[a,rfl,h]
 |ex k=>exact absurd rfl<|j k
 |bad=>exact h.elim
theorem AN(l:GX g Γ X)(hk:sc.kind= .function)(M:Ej sc.names Γ.names (bU Γ sc).1.N Γ.N (bU Γ sc).2=J'):gA X sc (bU Γ sc).1.N (bU Γ sc).2:=by
 unfold Ej at M;rw[W5,W5]at M;obtain⟨⟨Z,Y⟩,u⟩:=M;rw[XI]at Z u;refine#[hk,λy m=>?_,λy m e=>?_,λj i F=>?_,by simpa using Y]
 ·have:=Z y m;rw[W5]at this;exact Xt this.1
 ·have:=Z y m;rw[W5,e]at this;have h:=this.2;simp at h;exact l.fre y.1 h
 ·have p:=(W8.mp F).1;have:=u j<|XX.mpr p;rw[F]at this;cases L:(bU Γ sc).1.N[j]? with
  |none=>rw[L]at this;cases this
  |some x=>rw[L]at this;simp only[W5]at this;exact#[x,rfl,by rw[l.N];exact Xt this.1,Xt this.2]
theorem qg{C:Addr}(l:GX g Γ X)(B:gA X sc (bU Γ sc).1.N (bU Γ sc).2)(y:(bU Γ sc).1.N.Nodup):GX g (bU Γ sc).1 (j4 X sc (bU Γ sc).1.N C s H fp xe) where
 N:=rfl
 nd:=y
 vis:=λx h=>by
  have P:(bU Γ sc).1.names=sc.names:=rfl;rw[P]at h;cases W:sc.names.lookup x with
  |none=>rw[W]at h;cases h
  |some Z=>
   have q:=ba (env:=X.env) W;have t:=q;by_cases K:(Z==NameKind.free&&X.env.scope.kind== .function&&X.env.kindOf x==B' .cell)=J'
   ·rw[Zn K]at t;exact .inr<|.inl t
   ·rw[Zm K]at t;rw[W]at h;cases Z with
    |«local»=>exact .inl t
    |cell=>exact .inr<|.inl t
    |free=>exact .inr<|.inr t
    |globalExplicit=>cases h
    |globalImplicit=>cases h
 loc:=λx h=>by
  have P:(bU Γ sc).1.names=sc.names:=rfl;rw[P]at h;cases W:sc.names.lookup x with
  |none=>rw[W]at h;cases h
  |some Z=>
   have q:=ba (env:=X.env) W;have t:=q;rw[W]at h;cases Z with
   |«local»=>exact#[.inl t,.inr t]
   |cell=>exact#[.inr t,.inl<|by show (sc.names.lookup x==B' .cell)=J';rw[W];rfl]
   |free=>cases h
   |globalExplicit=>cases h
   |globalImplicit=>cases h
 gl:=λx h=>by
  have P:(bU Γ sc).1.names=sc.names:=rfl;rw[P]at h;cases W:sc.names.lookup x with
  |none=>rw[W]at h;cases h
  |some Z=>
   have q:=ba (env:=X.env) W;have t:=q;rw[W]at h;cases Z with
   |globalImplicit=>exact t
   |«local»=>cases h
   |cell=>cases h
   |free=>cases h
   |globalExplicit=>cases h
 fre:=λx h=>by
  have P:(bU Γ sc).1.names=sc.names:=rfl;rcases h with W|W
  ·have q:=ba (env:=X.env) W;have t:=q;exact .inl t
  ·have q:=ba (env:=X.env) W;have t:=q;by_cases K:(NameKind.free==NameKind.free&&X.env.scope.kind== .function&&X.env.kindOf x==B' .cell)=J'
   ·rw[Zn K]at t;exact .inl t
   ·rw[Zm K]at t;exact .inr t
 calm:=l.calm
 un:=l.un
 con:=l.con
 bl:=l.bl
end
theorem join_some{α:Type}{o:Option (Option α)}{a:α}(h:o.join=B' a):o=B' (B' a):=by
 cases o with
 |none=>cases h
 |some x=>cases x with
  |none=>cases h
  |some y=>simp at h;rw[h]
theorem gF{j:Nat}(h:(iM cap ρ)[j]?=B' (B' d)):∃i,cap[j]?=B' (B' i)/\ρ[i]?=B' (B' d):=by
 unfold iM at h;rw[Xp]at h;cases K:cap[j]? with
 |none=>rw[K]at h;cases h
 |some o=>
  rw[K]at h;cases o with
  |none=>cases h
  |some i=>refine#[i,rfl,join_some ?_];simpa using h
theorem fh{i j:Nat}(K:cap[j]?=B' (B' i))(h:σ[i]?=B' (B' v)):(dC cap σ)[j]?=B' (B' v):=by unfold dC;rw[Xp,K];simp[h]
theorem xB:∀{cap:List (Option Nat)}{j:Nat},Fk δ cap=B' j->∃i,δ=B' i/\cap[j]?=B' (B' i)
 |[],j,h=>by simp[Fk]at h
 |o::r,j,h=>by
  unfold Fk at h;split at h
  ·rename_i c;rw[W5]at c;cases h;cases δ with
   |none=>simp at c
   |some i=>exact#[i,rfl,by simp[Xt c.2]]
  ·obtain⟨k,Z,rfl⟩:=Xl.mp h;obtain⟨i,Y,u⟩:=xB Z;exact#[i,Y,by simpa using u]
section
variable{X:Cx}{Φ:Fm}{Γ:Gm}{F:FT}{g:G}{k:Nat}{K:Frag}
def Ow.plus(o:Ow)(D:Addr):Ow:=#[o.W,λb=>o.A b\/b=D,o.dr]
theorem lg(K:(bU Γ sc).2[j]?=B' (B' i)):cL (bU Γ sc).1 j=cL Γ i:=by have e:(bU Γ sc).1.M=IG (bU Γ sc).2 Γ.M:=rfl;unfold cL;rw[e];unfold IG;rw[Xp,K];simp
theorem sQ:∀{cap:List (Option Nat)}{j:Nat},cap[j]?=B' (B' i)->∃W,Fk (B' i) cap=B' W/\cap[W]?=B' (B' i)
 |[],j,h=>by cases h
 |o::r,j,h=>by
  unfold Fk;by_cases e:o=B' i
  ·refine#[0,?_,by rw[e];rfl];rw[e];simp
  ·rw[Zm (by simp[e])];cases j with
   |zero=>cases h;exact absurd rfl e
   |succ j=>obtain⟨W,Z,Y⟩:=sQ (j:=j) h;exact#[W+1,by rw[Z];rfl,Y]
theorem ER.bU(er:ER Φ Γ o ρ S σ H)(B:gA X sc (bU Γ sc).1.N (bU Γ sc).2)(y:(Rx.bU Γ sc).1.N.Nodup)(hD:H D=G'):
  ER Φ (Rx.bU Γ sc).1 (o.plus D) (iM (Rx.bU Γ sc).2 ρ) S (dC (Rx.bU Γ sc).2 σ) (upd H D<|.lst []):=by
 have s:=Mx.cA hD<|.lst [];have av:∀b,(o.A b\/b=D)->o.A b\/H b=G':=λb z=>z.elim .inl λe=>.inr (by rw[e];exact hD)
 refine#[?_,λa h=>.inl<|er.wa a h,λa h=>.inl<|er.da a h,λa h=>?_,λj d h=>?_,λj O c h=>?_,λj W a d e A hm' Z Y u Q=>?_,λa h=>?_,er.drn,λj a F t=>?_,er.dr0,er.ent.trans<|aZ.of_same s]
 ·unfold dC iM;rw[Xf,Xf]
 ·rcases h with h|h
  ·obtain⟨x,L⟩:=er.al a h;exact#[x,s _ _ L]
  ·subst h;exact#[_,aB]
 ·obtain⟨i,K,I⟩:=gF h;obtain⟨v,Z,Y⟩:=er.val i d I;refine#[v,fh K Z,?_];rw[lg K];by_cases A:cL Γ i=J'
  ·rw[Zn A]at Y ⊢;cases d with
   |lst ds=>obtain⟨a,xs,e1,E,J,n,e5,r,k⟩:=Y;exact#[a,xs,e1,s _ _ E,.inl J,n,e5,r,(k.bF av).same s]
   |c8 O c=>obtain⟨a,xs,e1,E,J,n,e5,r,l,p,k⟩:=Y;exact#[a,xs,e1,s _ _ E,.inl J,n,e5,r,dI.tups l λb ys z=>s _ _ z,p,(k.bF av).same s]
   |_=>exact RV.same (RV.bF av Y) s
  ·rw[Zm A]at Y ⊢;exact(Y.bF av).same s
 ·obtain⟨i,K,I⟩:=gF h;have g:=er.dk i O c I;obtain⟨W,k1,k2⟩:=sQ K;obtain⟨x,w,P,_⟩:=B.yX j i K;obtain⟨m,NZ,q,_⟩:=B.yX W i k2;rw[P]at q;cases q;show Fk Γ.κ (Rx.bU Γ sc).2=B' j;rw[g,k1,jD y w NZ]
 ·obtain⟨i,K,I⟩:=gF Z;obtain⟨i',M,Nr⟩:=gF Y;rw[lg K]at A;rw[lg M]at hm';obtain⟨v,k1,_⟩:=er.val i _ I;obtain⟨v',Uo,_⟩:=er.val i' _ Nr;rw[fh K k1]at u;rw[fh M Uo]at Q;cases u;cases Q;have:=er.inj i i' a d e A hm' I Nr k1 Uo;subst this;obtain⟨x,w,P,_⟩:=B.yX j i K;obtain⟨m,NZ,q,_⟩:=B.yX W i M;rw[P]at q;cases q;exact jD y w NZ
 ·obtain⟨ns,e1,E⟩:=er.drw a h;exact#[ns,e1,s _ _ E]
 ·obtain⟨i,Z,Y⟩:=xB<|F;exact fh Y<|er.drs i a Z t
theorem AW(B:gA X sc (bU Γ sc).1.N (bU Γ sc).2)(h:fD (bU Γ sc).1 x=B' i):(bU Γ sc).2[i]?=B' G':=by
 obtain⟨a,b,c⟩:=eE h;have p:i<(bU Γ sc).2.length:=by rw[B.len];exact(W8.mp c).1
 cases K:(bU Γ sc).2[i]? with
 |none=>rw[List.getElem?_eq_none_iff]at K;lia
 |some o=>
  cases o with
  |none=>rfl
  |some j=>obtain⟨y,w,_,s⟩:=B.yX i j K;rw[c]at w;cases w;have P:(bU Γ sc).1.names=sc.names:=rfl;rw[P,s]at a;cases a
theorem uW{i:Nat}(h:cap[i]?=B' G'):(dC cap σ)[i]?=B' G':=by unfold dC;rw[Xp,h];rfl
theorem BC(h:∀i∈cq t,σ0[i]?=B' G'):GL σ0 (L7 K t):=by
 have b:∀{is:List Nat},(∀i∈is,σ0[i]?=B' G')->Pv σ0 (Dz is):=by
  intro is
  induction is with
  |nil=>intro _;exact EW
  |cons i is ih=>intro w;exact BD (w i Xc) (ih λj F=>w j<|W9 _ F)
 cases t with
 |nm i=>exact EV<|h i<|by simp[cq]
 |tp is=>intro x O H Q p q;obtain⟨a,xs,e,Z,Y,q⟩:=q;exact#[a,xs,e,Z,Y,b h xs O H Q p q]
theorem GT(B:gA X sc (bU Γ sc).1.N (bU Γ sc).2)(h:Er (bU Γ sc).1 e=B' t):∀i∈cq t,(dC (bU Γ sc).2 σ)[i]?=B' G':=λi hi=>by obtain⟨_,x,L⟩:=nz h i hi;exact uW<|AW B L
def Ij(v:Gm)(ρ:aj)(O:L2.St)(D:Addr):Prop:=∀(j:Nat)(d:List Dt),cL v j=J'->ρ[j]?=B' (B'<|.lst d)->O[j]?≠B' (B'<|.ref D)
theorem yJ(F:H D=B' (.lst acc)):aZ (λb=>b=D) H (upd H D<|.lst iz):=#[λb o h n=>by rw[ax n];exact h,Mx.ua F]
theorem ER.emit(er:ER Φ Γ o ρ S σ H)(F:H D=B' (.lst acc))(P:Ij Γ ρ σ D)(oD:o.A D)(nd:o.dr≠B' D)(h0:∀x,Φ.H0 D=B' x->Φ.d0=B' D):ER Φ Γ o ρ S σ (upd H D<|.lst iz):=by
 have up:aZ (λb=>b=D) H (upd H D<|.lst iz):=yJ F;have s:∀b,b=D->o.A b:=λb z=>by rw[z];exact oD
 refine#[er.len,er.wa,er.da,λa t=>?_,λj dd h=>?_,er.dk,er.inj,λa t=>?_,er.drn,er.drs,er.dr0,?_]
 ·obtain⟨x,L⟩:=er.al a t;exact up.al L λz=>#[_,by rw[z];exact aB]
 ·obtain⟨w,Z,Y⟩:=er.val j dd h;refine#[w,Z,?_];by_cases A:cL Γ j=J'
  ·rw[Zn A]at Y ⊢;cases dd with
   |lst ds=>
    obtain⟨a,xs,B,E,J,e4,X,r,k⟩:=Y;have g:a≠D:=λz=>P j ds A h (by rw[Z,B,z])
    exact#[a,xs,B,up.kp _ _ E g,J,e4,X,r,k.mono up s λ_ z=>z]
   |c8 O c=>
    obtain⟨a,xs,B,E,J,e4,X,r,l,p,k⟩:=Y;have g:a≠D:=λz=>by rw[z,F]at E;cases E
    exact#[a,xs,B,up.kp _ _ E g,J,e4,X,r,dI.tups l up.tp,p,k.mono up s λ_ z=>z]
   |_=>exact RV.mono up s (λ_ z=>z) Y
  ·rw[Zm A]at Y ⊢;exact Y.mono up s λ_ z=>z
 ·obtain⟨ns,B,E⟩:=er.drw a t;exact#[ns,B,up.kp _ _ E λz=>nd<|by rw[<-z];exact t]
 ·refine#[λb x h n=>up.kp _ _ (er.ent.kp b x h n) λz=>?_,λb xs h=>up.tp _ _<|er.ent.tp b xs h];subst z;exact n<|h0 x h
theorem Wk.less(w:Wk K A Y J H ds)(h:∀b,Y' b->Y b):Wk K A Y' J H ds:=#[λi j hi e=>w.go i j hi<|e.mono h,λj e=>w.stop j<|e.mono h,λi x j n hi e y=>w.yld i x j n hi (e.mono h) y]
theorem IO.Wy(A:IO Φ.K o it nl H ds J H1)(er:ER Φ Γ o ρ S σ H1)(h:(decide (uI it<=1)||nl)=J'):Wk Φ.K o.A o.d J H1 ds:=by
 rcases X6.mp h with h|h
 ·exact A.w1<|W7 h
 ·exact(A.w2 h).less er.da
theorem Wk.plus(w:Wk K A Y J H ds)(F:H D=G'):Wk K (λb=>A b\/b=D) (λb=>Y b\/b=D) J (upd H D<|.lst []) ds:=by
 have ex:∀j,aZ (λb=>Y b\/b=D) (upd H D<|.lst []) j->aZ Y H j:=λj e=>#[λb o h n=>by
   have k:b≠D:=λz=>by rw[z,F]at h;cases h
   exact e.kp b o (by rw[ax k];exact h) λz=>z.elim n k,λb xs h=>by
   have k:b≠D:=λz=>by rw[z,F]at h;cases h
   exact e.tp b xs<|by rw[ax k];exact h]
 refine#[λi j hi e=>w.go i j hi<|ex j e,λj e=>w.stop j<|ex j e,λi x j H2 hi e y=>?_];obtain⟨s,d,hd,hv⟩:=w.yld i x j H2 hi (ex j e) y;refine#[s,d,hd,λB g=>hv B λb M=>?_];rcases g b M with (z|z)|z
 ·exact .inl z
 ·exact .inr (by rw[z];exact F)
 ·by_cases k:b=D
  ·exact .inr (by rw[k];exact F)
  ·rw[ax k]at z;exact .inr z
structure D8(Φ:Fm)(Γ:Gm)(o:Ow)(D:Addr)(ρ:aj)(σ:L2.St)(S:Sx)(acc:List V)(es:List Dt)(H:Hp):Prop where
 at':H D=B' (.lst acc)
 rv:aq Φ.K o.A H acc es
 er:ER Φ Γ o ρ S σ H
structure Pu(Φ:Fm)(o:Ow)(D:Addr):Prop where
 oD:o.A D
 nd:o.dr≠B' D
 h0:∀x,Φ.H0 D=B' x->Φ.d0=B' D
def Yd(o:Ow)(D:Addr):Addr->Prop:=λb=>o.d b\/b=D
theorem ER.back(fx:Pu Φ o D)(P:Ij Γ ρ σ D)(er:ER Φ Γ o ρ S σ H)(i:ER Φ Γ o ρ' S' σ' H')(e:aZ (Yd o D) H H')(m:∃W,H D=B' (.lst W)):ER Φ Γ o ρ S' σ H':=by
 have s:∀b,Yd o D b->o.A b:=λb z=>z.elim (er.da b) λq=>by rw[q];exact fx.oD
 refine#[er.len,er.wa,er.da,i.al,λj dd h=>?_,er.dk,er.inj,i.drw,i.drn,er.drs,er.dr0,i.ent];obtain⟨w,Z,Y⟩:=er.val j dd h;refine#[w,Z,?_];by_cases A:cL Γ j=J'
 ·rw[Zn A]at Y ⊢;cases dd with
  |lst ds=>
   obtain⟨a,xs,B,E,J,n,X,r,k⟩:=Y;have g:a≠D:=λz=>P j ds A h (by rw[Z,B,z])
   exact#[a,xs,B,e.kp _ _ E λz=>z.elim X g,J,n,X,r,k.mono e s λ_ z=>z]
  |c8 O c=>
   obtain⟨a,xs,B,E,J,n,X,r,l,p,k⟩:=Y;obtain⟨W,m⟩:=m;have g:a≠D:=λz=>by rw[z,m]at E;cases E
   exact#[a,xs,B,e.kp _ _ E λz=>z.elim X g,J,n,X,r,dI.tups l e.tp,p,k.mono e s λ_ z=>z]
  |_=>exact RV.mono e s (λ_ z=>z) Y
 ·rw[Zm A]at Y ⊢;exact Y.mono e s λ_ z=>z
theorem Ll(fx:Pu Φ o D)(hp:∀i∈cq tg,plainS Γ i=J')(wk:Wk Φ.K o.A (Yd o D) J H1 ds)(hn:Ij Γ ρ σ D)
  (M:∀(ρ1:aj)(K:L2.St)(S:Sx)(W:List V)(es:List Dt)(n:Hp)(P:List Dt×Sx->Prop),Ij Γ ρ1 K D->(∀k,k∉cq tg->K[k]?=σ[k]?/\ρ1[k]?=ρ[k]?)->D8 Φ Γ o D ρ1 K S W es n->aZ (Yd o D) H1 n->W.length+m<=a0+ds.length*m->0<ds.length->mR Φ.Ek (fb ρ1 S) P->
   ∀Q:Hp->Prop,(∀a r l,P r->D8 Φ Γ o D ρ1 K r.2 l (es++r.1) a->aZ (Yd o D) n a->l.length<=W.length+m->Q a)->tb K n Q)
      (c:D8 Φ Γ o D ρ σ S W es H1) (t:W.length<=a0) (q:mR Φ.Ek (aP (aU tg (bM F ts) fb ρ) ds S) P) {Fn:Hp->Prop}
  (h:∀a r l,P r->D8 Φ Γ o D ρ σ r.2 l (es++r.1) a->aZ (Yd o D) H1 a->l.length<=a0+ds.length*m->Fn a):wA J (L7 Φ.K tg) (yG Φ Γ F ts) tb σ Fn H1:=by
 refine#[λi mm n=>mm=ds.length-i/\i<=ds.length/\∃S2 yR v,D8 Φ Γ o D ρ σ S2 yR (es++v) n/\aZ (Yd o D) H1 n/\yR.length<=a0+i*m/\mR Φ.Ek (aP (aU tg (bM F ts) fb ρ) (ds.drop i) S2) λr=>P (v++r.1,r.2),
  #[_,rfl,Y5 _,S,W,[],by rw[XO];exact c,aZ.refl,⋯,q],?_]
 rintro i mm n ⟨rfl,hi,S2,yR,v,H,O,kP,q⟩;by_cases p:i<ds.length
 ·refine .inr #[wk.go i n p O,λx H3 y=>?_];obtain⟨w,d,hd,L⟩:=wk.yld i x n H3 p O y;have I:=L o.A λb z=>.inl z
  have PY:=H.er.grow w;have Q1:ds.drop i=d::ds.drop (i+1):=by rw[Yl p];congr 1;exact(W8.mp hd).2
  rw[Q1]at q;unfold aP at q;rw[ae]at q;unfold aU at q;rw[ae]at q;obtain⟨ρ1,B,q⟩:=sS (tU _ _ _) q;refine Dy PY hp I B λK Q4 g=>?_
  rw[ae]at q;refine#[o,ρ1,S2,Q4,ag q λb _ q H4 e4 PZ=>?_];have PV:aZ (Yd o D) H3 H4:=e4.mono λb z=>.inl z
  have Wg:Ij Γ ρ1 K D:=λj dd A Z Y=>by
   have nj:j∉cq tg:=λz=>by rw[(jH<|hp j z).1]at A;cases A
   obtain⟨k1,k2⟩:=g j nj;rw[k1]at Y;rw[k2]at Z;exact hn j dd A Z Y
  have s:∀b,Yd o D b->o.A b:=λb z=>z.elim (PY.da b) λq=>by rw[q];exact fx.oD
  have TN:=e4.kp _ _ (w _ _ H.at') fx.nd;have Ue:=(H.rv.same w).mono PV s λ_ z=>z
  have MK:=(aZ.of_same w).trans PV;have hmul:ds.length*m=(ds.length-(i+1))*m+(i*m+m):=by
   rw[<-Y4 i m,<-Nat.add_mul];congr 1
   lia
  have Uc:(i+1)*m=i*m+m:=Y4 i m;cases u:b.1 with
  |false=>rw[u]at q;refine NM ?_;refine#[ds.length-(i+1),⋯,rfl,p,b.2,yR,v,#[TN,Ue,H.er.back fx hn PZ MK #[_,H.at']],O.trans MK,⋯,?_];have q:mR Φ.Ek ((aP (aU tg (bM F ts) fb ρ) (ds.drop<|i+1) b.2).bind λq=>R.ok (([]:List Dt)++q.1,q.2)) _:=q;rw[ae]at q;exact ag q λr _ q=>q
  |true=>
   rw[u]at q;refine NN ?_;refine M ρ1 K b.2 yR (es++v) H4 _ Wg g #[TN,Ue,PZ] (O.trans MK) ⋯ ⋯ q _ λa r l q E X l5=>?_
   rw[ae]at q;refine#[ds.length-(i+1),⋯,rfl,p,r.2,l,v++r.1,#[E.at',by rw[<-Xk];exact E.rv,H.er.back fx hn E.er (MK.trans X) #[_,H.at']],(O.trans MK).trans X,⋯,ag q λr' _ q=>?_];rw[Xk];exact q
 ·have e:i=ds.length:=⋯
  subst e;refine .inl #[wk.stop n O,?_];rw[List.drop_length]at q;have q:P (v++[],S2):=q;rw[XO]at q;exact h n (v,S2) yR q H O kP
theorem IT(fx:Pu Φ o D)(hn:Ij Γ ρ σ D)(cs:D8 Φ Γ o D ρ σ S acc es H)(W:acc.length<sizeLine)
  (q:mR Φ.Ek ((ev F c ρ S).bind λy=>af (bP c y.1)<|.ok ([y.1],y.2)) P) (Q) (h:∀a r l,P r->D8 Φ Γ o D ρ σ r.2 l (es++r.1) a->aZ (Yd o D) H a->l.length<=acc.length+1->Q a):Dv D (bE Φ Γ F g.fr c) σ H Q:=by
 rw[ae]at q;refine#[o,ρ,S,cs.er,ag q λy _ q v a i k=>?_];obtain⟨t,q⟩:=ay q;have X:aZ (Yd o D) H a:=i.ext.mono λb z=>.inl z
 have j:=i.ext.kp _ _ cs.at' fx.nd;have s:∀b,Yd o D b->o.A b:=λb z=>z.elim (cs.er.da b) λq=>by rw[q];exact fx.oD
 have n:RV Φ.K o.A a v y.1:=by
  unfold bP at t;rw[XQ]at t;rcases t with t|t
  ·exact i.mX<|W7 t
  ·exact i.val.lx t
 have up:aZ (λb=>b=D) a (upd a D<|.lst<|acc++[v]):=yJ j;refine#[acc,j,W,h _ ([y.1],y.2) (acc++[v]) q #[aB,?_,k.emit j hn fx.oD fx.nd fx.h0] (X.trans<|up.mono λb z=>.inr z)<|by simp];exact((cs.rv.mono X s λ_ z=>z).append<|aq.cons n aq.nil).mono up (λb z=>by rw[z];exact fx.oD) λ_ z=>z
theorem G1:2*lim<sizeLine:=by rw[Zu];decide
theorem yS(er:ER Φ Γ o ρ S σ H)(B:gA X sc (bU Γ sc).1.N (bU Γ sc).2)(kQ:(Rx.bU Γ sc).1.N.Nodup)(F:H D=G'):
  Pu Φ (o.plus D) D/\Ij (bU Γ sc).1 (iM (bU Γ sc).2 ρ) (dC (bU Γ sc).2 σ) D/\D8 Φ (bU Γ sc).1 (o.plus D) D (iM (bU Γ sc).2 ρ) (dC (bU Γ sc).2 σ) S [] [] (upd H D<|.lst []):=by
 refine#[#[.inr rfl,λz=>?_,λx L=>?_],λj d A Z Y=>?_,#[aB,aq.nil,er.bU B kQ F]]
 ·obtain⟨y,m⟩:=er.al D<|er.da D z;rw[F]at m;cases m
 ·by_cases k:Φ.d0=B' D
  ·exact k
  ·have:=er.ent.kp D x L k;rw[F]at this;cases this
 ·obtain⟨a,K,c⟩:=gF Z;obtain⟨p,k1,k2⟩:=er.val a _ c;rw[<-lg K,Zn A]at k2;obtain⟨E,J,b,W,_⟩:=k2;rw[fh K k1]at Y;cases Y;cases b;rw[F]at W;cases W
theorem El(K:lk c=0)(A:aZ o.d H H1)(s:ER Φ Γ o ρ S σ H1)(F:H1 D=G')(cs:D8 Φ (bU Γ sc).1 (o.plus D) D ρ2 σ2 S2 acc ds H2)(ex:aZ (Yd (o.plus D) D) (upd H1 D<|.lst []) H2):
  EO Φ.K g.fr o c H (.lst ds) (.ref D) H2/\ER Φ Γ o ρ S2 σ H2:=by
 have O:aZ o.d H1 H2:=#[λb x h n=>by
   have k:b≠D:=λz=>by rw[z,F]at h;cases h
   exact ex.kp b x (by rw[ax k];exact h) λz=>z.elim n k,λb xs h=>by
   have k:b≠D:=λz=>by rw[z,F]at h;cases h
   exact ex.tp b xs<|by rw[ax k];exact h]
 have v:¬o.A D:=λz=>by obtain⟨y,m⟩:=s.al D z;rw[F]at m;cases m
 have a:=s.d4 A F;have Z:=RV.fT cs.at' v<|cs.rv.weak λb z=>.inl z;refine#[#[A.trans O,Z.weak s.gv,λ_=>Z,λ_=>Z.one,λ_ r B=>?_],s.step O cs.er.drw cs.er.drn];cases B;exact#[D,acc,rfl,a,cs.at',cs.rv.weak λb z=>z.elim (λz=>.inl<|s.gv b z) .inr,λ_=>cs.rv]
theorem C7(K:Φ.K=X.K)(B:gA X sc (bU Γ sc).1.N (bU Γ sc).2)(y:(bU Γ sc).1.N.Nodup)(h:Er (bU Γ sc).1 tg=B' t)
  (q:bE Φ Γ F g.fr (.comp (bU Γ sc).2 it t ts c) σ H Q):v8 (bU Γ sc).2 (rf Φ Γ F it) (L7 X.K t) (yG Φ (bU Γ sc).1 F ts) (λD=>Dv D<|bE Φ (bU Γ sc).1 F g.fr c) σ H Q:=by
 obtain⟨o,ρ,S,er,q⟩:=q;rw[jK,ae]at q;refine#[o,ρ,S,er,ag q λp _ q J j A s D hD=>#[BC<|GT B h,?_]];obtain⟨I,q⟩:=ay q;rw[W5]at I;have eQ:=W7 I.1;have wk:=(A.Wy s I.2).plus hD;rw[ae]at q;have m:=G1;obtain⟨fx,hn,cs⟩:=yS s B y hD;rw[<-K];refine Ll (a0:=0) fx (λi hi=>(nz h i hi).1) wk hn (λρ1 σ1 S1 acc es n P w hk u e1 W _ q Q fin=>IT fx w u ⋯ q Q fin) cs (Y5 _) q λa r l q E e5 b=>?_
 obtain⟨k1,k2⟩:=El (c:=.comp (bU Γ sc).2 it t ts c) rfl A.ext s hD E e5;exact q _ _ k1 k2
end
section
variable{X:Cx}{Φ:Fm}{Γ:Gm}{F:FT}{g:G}{o:Ow}{ρ:aj}{S:Sx}{σ:L2.St}{H:Hp}
def Wp(W:V->Hp->Prop)(r:V->List V->Hp->VK->Prop)(k:TE)(t:TA):TE:=λO H Q=>k O H λx j=>W x j/\t O j λc n=>r x c n Q
theorem Cz{id:String}(hW:∀{S:List (Addr×Obj)}{s:Shared}{O:L2.St}{H:Hp}{x:V},Inv X S O H s->W x H->∃p,x= .ref p/\s.TypeIs (.ref p) "dict"/\∀a,Value.ref p= .ref a->∃m,s.heap.get? a=B' m/\m.dict=G')(slot:Slot "dict" name id)(q:typeOf (.builtin id)=pure (.type "method_descriptor"))(A:Md X id r)(B:PE X oe to)(ha:PA X (e::es) t)
  (b:attributeBase oe name X.env (eval oe X.env)=eval oe X.env)
  (y:((backTo c7<|starEach (e::es) X.env).all (λx=> !x.1)&&(backToKw c7<|keywordEach [] X.env).all (λx=>x.1.isSome)
   &&decide ((e::es).length+([]:List Keyword).length+(if ([]:List Keyword).isEmpty then 0 else 1)<30))=J')
  (k:(apos.endLine==c7.line)=J') (w:starEach (e::es) X.env=(K',eval e X.env)::starEach es X.env) (u:(backTo c7<|starEach es X.env).any (·.1)=K'):
  PE X (.Call (.Attribute oe name apos) (e::es) [] c7) (Wp W r to t):=by
 intro S s O H Q I h;refine wpAny_Call_method_late b y k rfl<|bS (B S s O H _ I h) λv s1#[x,j,g,F,P,l]=>?_;obtain⟨p,rfl,Z,Y⟩:=hW g P;cases F;refine#["dict",id,PySem.F.plainAttrs_dict,slot,q,Z,Y,?_];have hA:=ha c7 S s1 O j _ g l;rw[w]at hA ⊢;refine Calls.callWith_builtin (by show (K'||(backTo c7<|starEach es X.env).any (·.1))=K';rw[u]<;>rfl)<|Calls.evalArgs_plain ?_;exact bS hA λi s2#[c,n,I2,r2,K]=>A S s2 O n (.ref p) c _ i Q I2 rfl r2 K
theorem vD(y){K:Frag}:∀{O:List Str}{c:List Dt}{j:List (Key×V)},j.map (·.1)=O.map Sum.inr->aq K A H (j.map (·.2)) c->
  (Mx.GU y j=G'/\FM y O c=G')\/∃v e,Mx.GU y j=B' v/\FM y O c=B' e/\RV K A H v e
 |[],c,j,h,r=>by
  cases j with
  |nil=>exact .inl #[rfl,by unfold FM;rfl]
  |cons=>cases h
 |k::O,c,[],h,r=>by cases h
 |k::O,c,p::j,h,r=>by
  rw[XT,XT]at h;injection h with h1 h2;obtain⟨e,er,rfl,F,r2⟩:=r.oC;unfold Mx.GU FM;by_cases z:k=y
  ·rw[Zn (h1.trans<|Zj _ z),Zn z];exact .inr #[_,_,rfl,rfl,F]
  ·rw[Zm λw=>z<|Sum.inr.inj<|h1.symm.trans w,Zm z];exact vD y h2 r2
theorem OA(K:Φ.K=X.K)(B:PE X oe (bE Φ Γ F g.fr o'))(hk:PE X k (bE Φ Γ F g.fr k'))(P:PE X e (bE Φ Γ F g.fr e'))(jt:attributeBase oe ("get":Str) X.env (eval oe X.env)=eval oe X.env)
  (w:starEach [k,e] X.env=[(K',eval k X.env),(K',eval e X.env)]) (i:starEach [e] X.env=[(K',eval e X.env)]) (fv:(apos.endLine==pos.line)=J'):
  PE X (.Call (.Attribute oe "get" apos) [k,e] [] pos) (bE Φ Γ F g.fr<|.gtO o' k' e'):=by
 refine bb (Cz (W:=λx H=>∃p a9,x= .ref p/\H p=B' (.dK a9)) (λI h=>by obtain⟨p,a9,e,J⟩:=h;exact#[p,e,Mx.J8 I J]) PySem.F.slot_dict_get PySem.F.type_dict_get Mx.FE B (bf hk (bf P dN<|by rw[i];rfl)<|by rw[w,i]) jt (by rw[w];rfl) fv (by rw[w,i])<|by rw[i];rfl) λO H Q q=>?_
 obtain⟨o,ρ,S,er,q⟩:=q;rw[yl,ae]at q;refine#[o,ρ,S,er,ag q λz hz q x0 H0 eo0 Tu=>?_];obtain⟨gd,q⟩:=ay q;rw[ae]at q;obtain⟨z1,z2⟩:=z;cases z1 with
 |obj ks c=>
  obtain⟨a,a9,rfl,Z,Y,h3,h4⟩:=eo0.val.ib;refine#[#[a,a9,rfl,Z],o,ρ,z2,Tu,ag q λp J q x j m s=>?_];rw[ae]at q;refine#[o,ρ,p.2,s,ag q λp2 l8 q v n r ec=>?_];rw[ae]at q;have t:=m.ext.trans r.ext;have hd:∀b,o.d b->o.wd b:=λb z=>.inr z
  unfold xR at q;dsimp only at q;cases hk:p.1 with
  |str y=>
   rw[hk]at q;dsimp only at q;have L:=m.val;rw[hk]at L;have:=L.str_inv;subst this;refine#[a,a9,y,v,rfl,rfl,t.kp _ _ Z λz=>Y<|hd _ z,?_];have w0:lk o'=0->aq Φ.K o.A n (a9.map (·.2)) c:=λl=>by obtain⟨E,Wb,e,f1,f2,A,f4⟩:=(eo0.mX l).ib;cases e;rw[Z]at f1;cases f1;exact f4.mono t Tu.da λ_ z=>z
   have w1:aq Φ.K o.wd n (a9.map (·.2)) c:=h4.mono t hd λ_ z=>z
   rcases vD y h3 w1 with ⟨g1,g2⟩|⟨u,d,g1,g2,M⟩
   ·rw[g1];rw[g2]at q;refine q v n #[eo0.ext.trans t,r.val,λl=>r.mX ?_,λl=>r.yB ?_,λf=>by cases f] ec
    ·have l:(if lk o'=0 then lk e' else 2)=0:=l;split at l
     ·exact l
     ·cases l
    ·have l:(if lk o'=0 then lk e' else 2)<=1:=l;split at l
     ·exact l
     ·lia
   ·rw[g1];rw[g2]at q;have w2:lk o'=0->RV Φ.K o.A n u d:=λl=>by
     rcases vD y h3 (w0 l)with ⟨k1,k2⟩|⟨u',d',k1,k2,k3⟩
     ·rw[g1]at k1;cases k1
     ·rw[g1]at k1;cases k1;rw[g2]at k2;cases k2;exact k3
    have z0:lk (.gtO o' k' e')<=1->lk o'=0:=λl=>by
     have l:(if lk o'=0 then lk e' else 2)<=1:=l;split at l
     ·assumption
     ·lia
    exact q u n #[eo0.ext.trans t,M,λl=>w2<|z0 ⋯,λl=>(w2<|z0 l).one,λf=>by cases f] ec
  |_=>rw[hk]at q;exact q.elim
 |_=>cases gd
end
theorem xG(h:zy k=B' d):k=ofD d/\Mx.D.dep d<=8:=by
 unfold zy at h;split at h
 ·rename_i ds g;split at h
  ·rename_i hd;cases h;exact#[vC g,hd]
  ·cases h
 ·rename_i x g;cases h;exact#[vC g,Y5 _]
 ·cases h
theorem wV(h:(xs.map λx=>ofD x.1).all isTup=J'):Mx.D9 xs:=λx L=>by
 have h:=XI.mp h _<|XH.mpr #[x,L,rfl];cases e:x.1 with
 |tup ds=>exact#[ds,rfl]
 |int i=>rw[e]at h;simp[ofD,isTup]at h
 |str i=>rw[e]at h;simp[ofD,isTup]at h
theorem wU(h:(xs.map λx=>ofD x.1).all isStr=J'):Mx.yN xs:=λx L=>by
 have h:=XI.mp h _<|XH.mpr #[x,L,rfl];cases e:x.1 with
 |str t=>exact#[t,rfl]
 |int i=>rw[e]at h;simp[ofD,isStr]at h
 |tup i=>rw[e]at h;simp[ofD,isStr]at h
theorem p5{K:Frag}(d):∀{xs:Mx.Ent}{c:List Dt},aq K A H (xs.map (·.2.2)) c->
  (Mx.rm xs d=G'/\Bd d (xs.map λx=>ofD x.1) c=G')\/∃v e,Mx.rm xs d=B' v/\Bd d (xs.map λx=>ofD x.1) c=B' e/\RV K A H v e
 |[],c,_=>.inl #[rfl,by cases c<;>rfl]
 |x::xs,[],h=>by unfold aq at h;exact h.elim
 |x::xs,v::c,h=>by
  unfold aq at h;unfold Mx.rm Bd;rw[XT,List.find?_cons];simp only[v9,Option.some.injEq];by_cases e:x.1=d
  ·rw[Xz e,Zn e];exact .inr #[_,_,rfl,rfl,h.1]
  ·rw[Xv e,Zm e];exact p5 d h.2
section
variable{X:Cx}{Φ:Fm}{Γ:Gm}{F:FT}{g:G}{o:Ow}{ρ:aj}{S:Sx}{σ:L2.St}{H:Hp}
theorem gX(er:ER Φ Γ o ρ S σ H)(A:cL Γ i=J')(I:ρ[i]?=B' (B'<|.c8 ks vs)):
  ∃(a:Addr)(xs:Mx.Ent),σ[i]?=B' (B'<|.ref a)/\H a=B' (Mx.dg Φ.P Φ.w a xs)/\Mx.dI H xs/\ks=xs.map (λx=>ofD x.1)/\aq Φ.K o.A H (xs.map (·.2.2)) vs:=by
 obtain⟨v,Z,Y⟩:=er.val i _ I;rw[Zn A]at Y;obtain⟨a,xs,rfl,E,_,_,_,_,k,l,p⟩:=Y;exact#[a,xs,Z,E,k,l,p]
theorem Bc(I:Inv X M' σ H s)(h:H p=B' (Mx.dg X.prog X.w p xs)):s.TypeIs (.ref p) "dict"/\∀a,Value.ref p= .ref a->∃m,s.heap.get? a=B' m/\m.dict=G':=by obtain⟨⟨_,o,_,_,Z,Y,_⟩,_⟩:=I.hok p _ h;exact#[#[o,Z,Y.1],λa e=>by cases e;exact#[o,Z,Y.2.1]]
def R3(X:Cx)(x:V)(H:Hp):Prop:=∃p,x= .ref p/\∃xs,H p=B' (Mx.dg X.prog X.w p xs)
theorem lb(h:jx ρ i=J'):∃O c,ρ[i]?=B' (B'<|.c8 O c):=by
 unfold jx at h;split at h
 ·exact#[_,_,by assumption]
 ·cases h
theorem fO(h:ρ[i]?=B' (B' d)):bZ ρ i= .ok d:=by unfold bZ;rw[h]
theorem KQ(K:Φ.K=X.K)(hP:Φ.P=X.prog)(hw:Φ.w=X.w)(hu:X.A.units+150<cLine)(A:cL Γ i=J')(m:PE X (.Name y yp) (eU i))(hk:PE X k (bE Φ Γ F g.fr k'))(P:PE X e (bE Φ Γ F g.fr e'))
  (w:starEach [k,e] X.env=[(K',eval k X.env),(K',eval e X.env)]) (E9:starEach [e] X.env=[(K',eval e X.env)]) (fv:(apos.endLine==pos.line)=J'):
  PE X (.Call (.Attribute (.Name y yp) "get" apos) [k,e] [] pos) (bE Φ Γ F g.fr<|.BB i k' e'):=by
 refine bb (Cz (W:=R3 X) (λI h=>by obtain⟨p,e,xs,J⟩:=h;exact#[p,e,Bc I J]) PySem.F.slot_dict_get PySem.F.type_dict_get (Mx.FD ⋯) m (bf hk (bf P dN<|by rw[E9];rfl)<|by rw[w,E9]) rfl (by rw[w];rfl) fv (by rw[w,E9])<|by rw[E9];rfl) λO H Q q=>?_
 obtain⟨o,ρ,S,er,q⟩:=q;rw[CY]at q;obtain⟨B,q⟩:=ay q;obtain⟨ks,c,hr⟩:=lb B;obtain⟨a,xs,Z,Y,u,h4,h5⟩:=gX er A hr;rw[hP,hw]at Y;rw[ae]at q;refine#[.ref a,Z,#[a,rfl,xs,Y],o,ρ,S,er,ag q λp J q x j a8 s=>?_];rw[ae]at q;refine#[o,ρ,p.2,s,ag q λp2 l8 q z n r ec=>?_];rw[fO hr,R.ah,ae]at q;obtain⟨E,kr,iI,l0,rq,MQ,U7⟩:=gX ec A hr;rw[Z]at iI;cases iI;rw[hP,hw]at l0;unfold A6 at q;simp only at q;split at q
 ·rename_i dd Hu;obtain⟨gt,q⟩:=ay q;obtain⟨ek,kO⟩:=xG Hu;have L:Mx.DV j x (.tup dd):=by have:=a8.val;rw[ek]at this;exact this.dv
  obtain⟨b,us,rfl,_,_⟩:=L.ao;refine#[a,kr,.tup dd,b,z,rfl,rfl,l0,rq,L.mono r.ext.tp,kO,wV<|by rw[<-MQ];exact gt,?_];have t:=a8.ext.trans r.ext;rw[MQ]at q;rcases p5 (.tup dd) U7 with ⟨g1,g2⟩|⟨v,e,g1,g2,M⟩
  ·rw[g1];rw[g2]at q;exact q z n #[t,r.val,λl=>r.mX l,λl=>r.yB l,λf=>by cases f] ec
  ·rw[g1];rw[g2]at q;exact q v n #[t,M.weak ec.gv,λ_=>M,λ_=>M.one,λf=>by cases f] ec
 ·exact q.elim
theorem xV(l:Φ.P=X.prog)(hw:Φ.w=X.w)(A:cL Γ i=J')(m:PE X (.Name y yp) (eU i))(hk:PE X k (bE Φ Γ F g.fr k')):
  PC X .NotIn k (.Name y yp) (λO H Q=>bE Φ Γ F g.fr k' O H λx j=>∃a xs t,O[i]?=B' (B'<|.ref a)/\x= .str t/\j a=B' (Mx.dg X.prog X.w a xs)/\Mx.dI j xs/\Mx.yN xs/\Q (.bl<|!(Mx.rm xs<|.str t).isSome) j):=by
 intro S s O H Q I h;refine bS (hk S s O H _ I h) λv s1#[x,j,I1,r1,a,xs,t,Z,e,Y,h3,h4,q]=>?_
 subst e;obtain⟨tk,rfl⟩:=r1;refine bS (m S s1 O j (λz n=>z= .ref a/\n=j) I1 #[.ref a,Z,rfl,rfl]) λu s2#[z,n,I2,r2,B,E]=>?_
 subst B E;cases r2;exact Mx.J6 I2 Y h3 h4 #[.bl _,n,I2.kept λ_ _ e=>e,rfl,q]
theorem xP(l:Φ.P=X.prog)(y:Φ.w=X.w)(er:ER Φ Γ o ρ S σ H1)(A:cL Γ i=J')(I:ρ[i]?=B' (B'<|.c8 ks vs))(L:RV Φ.K o.wd H1 x d)(M:kG (.c8 ks vs) d= .ok b):
  ∃a xs t,σ[i]?=B' (B'<|.ref a)/\x= .str t/\H1 a=B' (Mx.dg X.prog X.w a xs)/\Mx.dI H1 xs/\Mx.yN xs/\b= !(Mx.rm xs<|.str t).isSome:=by
 obtain⟨a,xs,Z,Y,u,Q,n⟩:=gX er A I;unfold kG at M;split at M
 ·rename_i H J t B;cases B;obtain⟨c,E⟩:=aS M;cases E;refine#[a,xs,t,Z,L.str_inv,by rw[<-l,<-y];exact Y,u,wU<|by rw[<-Q];exact c,?_];rw[Q];rcases p5 (.str t) n with ⟨g1,r⟩|⟨v,e,g1,r,_⟩
  ·rw[g1,r];rfl
  ·rw[g1,r];rfl
 ·cases M
theorem rW(z d):∀k,kG z d≠ .ex k:=λk h=>by
 unfold kG at h;split at h
 ·unfold af at h;split at h<;>cases h
 ·cases h
theorem KS(l:Φ.P=X.prog)(hw:Φ.w=X.w)(A:cL Γ i=J')(m:PE X (.Name y yp) (eU i))(hk:PE X k (bE Φ Γ F g.fr k'))(M:behindInMarks .NotIn (.Name y yp)=K'):
  PE X (.Compare k [.NotIn] [.Name y yp] pos) (bE Φ Γ F g.fr<|.ninK i k'):=bb (Km (xV (g:=g) l hw A m hk) M) λO H Q q=>by
 obtain⟨o,ρ,S,er,q⟩:=q;rw[CZ]at q;obtain⟨B,q⟩:=ay q;obtain⟨ks,vs,I⟩:=lb B;rw[ae]at q;refine#[o,ρ,S,er,ag q λp _ q x j L s=>?_];rw[fO I,R.ah,ae]at q;obtain⟨b,M,q⟩:=fz (rW _ _) q;obtain⟨a,xs,t,k1,k2,k3,k4,k5,rfl⟩:=xP l hw s A I L.val M;refine#[a,xs,t,k1,k2,k3,k4,k5,q _ _ ?_ s];have:=EO.sc (Φ:=Φ) (fr:=g.fr) (o:=o) (H:=j) (c:=.ninK i k') (d:=.bl<|!(Mx.rm xs<|.str t).isSome) rfl;exact this.sf L.ext λf=>by cases f
theorem GE(l:Φ.P=X.prog)(hw:Φ.w=X.w)(A:cL Γ i=J')(m:PE X (.Name y yp) (eU i))(hk:PE X k (bE Φ Γ F g.fr k'))(M:behindInMarks .NotIn (.Name y yp)=K'):
  PT X (.Compare k [.NotIn] [.Name y yp] pos) (fE Φ Γ F<|.ninK i k'):=qM (Ky (xV (g:=g) l hw A m hk) M) λO H Q q=>by
 obtain⟨o,ρ,S,er,q⟩:=q;rw[oY]at q;obtain⟨B,q⟩:=ay q;obtain⟨ks,c,I⟩:=lb B;rw[ae]at q;refine#[o,ρ,S,er,ag q λp _ q x j L s=>?_];rw[fO I,R.ah,ae]at q;obtain⟨b,M,q⟩:=fz (rW _ _) q;obtain⟨a,xs,t,k1,k2,k3,k4,k5,rfl⟩:=xP l hw s A I L.val M;exact#[a,xs,t,k1,k2,k3,k4,k5,_,rfl,q _ L.ext s]
theorem zI(h:aa a=aa b):a=b:=by have:=Zj dP h;rw[aW,aW]at this;exact Y7 this
theorem K1{y:Str}{i:Nat}{p yp M B3 pos:Pos}(hK:Φ.K=X.K)(hP:Φ.P=X.prog)(hw:Φ.w=X.w)(K:X.calm=J')(hu:X.A.units+150<cLine)(hG:Gl X "sorted")(hmg:X.mg "sorted"=G')(hm:cL Γ i=J')(m:PE X (.Name y yp) (eU i))
  (fv:(M.endLine==B3.line)=J') (J:starEach [.Call (.Attribute (.Name y yp) "items" M) [] [] B3] X.env=[(K',eval (.Call (.Attribute (.Name y yp) "items" M) [] [] B3) X.env)]:=by rfl):
  PE X (.Call (.Name "sorted" p) [.Call (.Attribute (.Name y yp) "items" M) [] [] B3] [] pos) (bE Φ Γ F g.fr (.srtI i)):=by
 intro M' s O H Q I h;obtain⟨o,ρ,S,er,q⟩:=h;rw[tN]at q;rw[ae]at q;obtain⟨d,hr,q⟩:=jq q;rw[ae]at q;unfold wR at q;split at q
 ·rename_i ks vs;split at q
  ·rename_i ms ns P uD;obtain⟨gc,q⟩:=ay q;obtain⟨a,xs,Z,Y,u,h4,n⟩:=gX er hm hr;rw[hP,hw]at Y;have ek:=fU P;have ev:=fU uD;have em:ms=xs.map (·.1):=zI (by rw[<-ek,h4,aQ,YC];rfl);subst ev;have nI:=n.u7;have LQ:ns.length=xs.length:=by have:=nI.length;rw[Xf]at this;exact this.symm
   have LS:gP ms ns=(xs.zip ns).map λz=>.tup [z.1.1,z.2]:=by unfold gP;rw[em,List.zip_map_left,YC];rfl
   refine Zv (fQ I hG hmg PyProof.Rows.boot_sorted ?_ (by decide) (by decide));refine PyProof.Rows.callWith_builtin1 ?_ (by rw[J];rfl) (by rfl);rw[J];show wpAny _ _ (spliced ((K',eval (.Call (.Attribute (.Name y yp) "items" M) [] [] B3) X.env)::backTo pos [])) _ _ s;refine Calls.spliced_cons ?_;refine wpAny_Call_method0_late rfl fv (bS (m M' s O H (λx H1=>x= .ref a/\H1=H) I #[.ref a,Z,rfl,rfl]) λv s1#[x,H1,I1,r1,B,E]=>?_);subst B E;cases r1;obtain⟨t1,t2⟩:=Bc I1 Y;obtain⟨⟨sm,_⟩,_⟩:=I1.hok a _ Y;refine#["dict","dict.items",PySem.F.plainAttrs_dict,PySem.F.slot_dict_items,PySem.F.type_dict_items,t1,t2,Calls.callWith_builtin rfl (PySem.evalArgs_none ?_)];refine call_meetsIn PySem.F.slot_dict_items t1 PySem.F.entry_dict_items (PySem.F.args_dict_items_1 _) (Mx.sP a sm) #[t1,?_];refine Calls.spliced_nil ?_;have I2:Inv X M' O H1 {s1 with heap:=s1.heap.push {cls:=.type "dict_items",data:=.fields #[.ref a]},toks:=s1.toks}:=I1.kept λb o q=>W3 _ q
   refine Mx.qX hu K I2 #[_,Xd _ rfl,rfl,rfl] Y u LQ (λj x e g1 r=>?_) (by rw[<-LS];exact wJ gc) λL l zs es t W k uF=>?_
   ·refine .cons (u.key x (YJ g1)).1 (.cons ?_ .nil);obtain⟨x',k1,k2⟩:=nI.getD r;rw[Xp,g1]at k1;cases k1;exact k2
   ·rw[<-LS]at uF;have MF:=mU uF;have pr:PR Φ.K J' [] [] L (.lst (aa es)) (.ref l) (upd L l (.lst zs)):=PR.qB W λA w=>aq.my k
    obtain⟨B,E⟩:=EO.pr (fr:=g.fr) (H:=H1) (c:=.srtI i) (er.grow t) (aZ.of_same t) aq.nil (λ_=>trivial) (.inl rfl) pr λf=>by cases f
    rw[MF]at B;exact q _ _ B E
  ·exact q.elim
 ·exact q.elim
end
def Aj:Expr->Bool
 |.Starred ..=>K'
 |.Slice ..=>K'
 |.Set ..=>K'
 |.Call (.Name _ _) [] _ _=>K'
 |_=>J'
theorem Fg(h:JC Γ e=J'):∃x p i,e= .Name x p/\slot Γ x=B' i/\Γ.δ=B' i:=by
 unfold JC at h;split at h
 ·rename_i x L;split at h
  ·rename_i i hi;exact#[x.1,x.2,i,gN L,hi,Xt h]
  ·cases h
 ·cases h
theorem bu(h:Aj e=J')(es)(env):starEach (e::es) env=(K',eval e env)::starEach es env:=by cases e<;>first|rfl|(cases h)
theorem M8(h:Aj e=J'):pA e:=by intro o i;cases e<;>first|rfl|(cases h)
theorem E4(h:Aj e=J')(p):behindInMarks p e=K':=by cases e<;>first|rfl|(cases h)
theorem vi(h:Aj e=J')(env):∀x,foldedSetIterable e env x=pure x:=by intro x;cases e<;>first|rfl|(cases h)
theorem E3(h:Aj e=J')(f)(env)(w):attributeBase e f env w=w:=by
 cases e with
 |Call fn args b pos=>
  cases args with
  |nil=>cases fn<;>first|rfl|(cases h)
  |cons a as=>cases fn<;>rfl
 |_=>rfl
theorem cc(h:∀ρ S,cz F c ρ S= .bad):PT X e (fE Φ Γ F c):=λM' s O H Q I q=>by obtain⟨o,ρ,S,er,q⟩:=q;rw[h]at q;exact q.elim
section
variable{g:G}{xv:Nat->Value}{CX:nK}{k:Nat}{F:FT}
structure UK(g:G)(F:FT)(n:Nat)(Γ:Gm)(X:Cx)(Φ:Fm):Prop where
 e:∀e c,cE n g Γ e=B' c->PE X e (bE Φ Γ F g.fr c)/\PT X e (fE Φ Γ F c)/\Aj e=J'
 es:∀es cs,lJ n g Γ es=B' cs->PA X es (ny Φ Γ F cs)/\cs.len=es.length/\∀e∈es,Aj e=J'
 ts:∀es cs,Hd n g Γ es=B' cs->Io X es (yG Φ Γ F cs)
 b:∀o es c pos,cB n g Γ o es=B' c->PE X (.BoolOp o es pos) (bE Φ Γ F g.fr c)/\PW X (.BoolOp o es pos) (fE Φ Γ F c)
 i:∀tg e it,cI n g Γ tg e=B' it->PI X tg e (rf Φ Γ F it)/\Aj e=J'
 c:∀f a as c p pos,oA n g Γ f a as=B' c->PE X (.Call (.Name f p) (a::as) [] pos) (bE Φ Γ F g.fr c)/\PT X (.Call (.Name f p) (a::as) [] pos) (fE Φ Γ F c)
theorem lI(h:∀e∈es,Aj e=J'):(backTo pos<|starEach es env).any (·.1)=K':=by
 induction es with
 |nil=>rfl
 |cons e es ih=>rw[bu (h e Xc)];show (K'||(backTo pos<|starEach es env).any (·.1))=K';rw[ih λK z=>h K<|W9 _ z];rfl
theorem mw{x y:Str}(h:(x==y)=K'):x≠y:=λe=>by subst e;rw[Zh]at h;cases h
theorem aT(h:du x=J'):(x==("__debug__":Str))=K'/\(x==("__classdict__":Str))=K'/\x≠"__name__":=by unfold du at h;rw[W5,W5]at h;have Z:=h.1.1;have Y:=h.1.2;have u:=h.2;rw[X4]at Z Y u;exact#[Z,Y,mw u]
def S6:C->Bool
 |.nt _|.and ..|.or ..|.cmp ..|.ch ..|.var _|.mvr _|.call ..|.callD ..|.bi ..|.idx ..|.ninK ..=>J'
 |_=>K'
theorem bC(h:S6 c=K'):cz F c ρ S= .bad:=by cases c<;>first|rfl|cases h
theorem boot_dict:bootBuiltins "dict"=B' (.type "dict"):=by decide +kernel
theorem AK:∀t∈AJ,KI t.2.2=J'/\bootBuiltins t.1=B' (LH t.2.2):=by
 intro t O;simp only[AJ,Xi,Xj,Zs]at O;rcases O with rfl|rfl|rfl|rfl|rfl|rfl|rfl|rfl
 ·exact#[rfl,PySem.boot_len]
 ·exact#[rfl,PyProof.Rows.boot_min]
 ·exact#[rfl,PyProof.Rows.boot_max]
 ·exact#[rfl,PyProof.Rows.boot_sum]
 ·exact#[rfl,PyProof.Rows.boot_sorted]
 ·exact#[rfl,PyProof.Rows.boot_tuple]
 ·exact#[rfl,PyProof.Rows.boot_list]
 ·exact#[rfl,boot_dict]
theorem Eh(h:Eg x n=B' b):KI b=J'/\bootBuiltins x=B' (LH b):=by unfold Eg at h;obtain⟨t,Z,rfl⟩:=Xl.mp h;have A:=List.mem_of_find?_eq_some Z;have J:=List.find?_some Z;rw[W5]at J;rw[<-Xt J.1];exact AK t A
theorem ID(h:KI b=J'):(∃id,LH b= .builtin id)\/∃T,LH b= .type T:=by cases b<;>first|exact .inl #[_,rfl]|exact .inr #[_,rfl]|cases h
theorem gE(h:g.bls.contains x=J'):x∈g.bls:=by simpa using h
theorem SD(hK:Φ.K=X.K)(l:GX g Γ X)(h:Gl X x)(A:X.mg x=G')(L:du x=J')(M:Eg x n=B' b)(w:starEach (a::as) X.env=(K',eval a X.env)::starEach as X.env)(J:(backTo pos<|starEach as X.env).any (·.1)=K')
  (t:PA X (a::as) (ny Φ Γ F cs)):PE X (.Call (.Name x p) (a::as) [] pos) (bE Φ Γ F g.fr<|.bi b cs):=by
 obtain⟨Z,Y⟩:=Eh M;obtain⟨n1,P,s⟩:=aT L;have K:=Ei (X:=X) b Z l.calm l.un;rcases ID Z with ⟨id,e⟩|⟨T,e⟩
 ·rw[e]at Y K;exact bb (jG K h A Y t s n1 w J) λO H Q q=>Br hK q
 ·rw[e]at Y K;exact bb (zL K h A Y t s n1 w J) λO H Q q=>Br hK q
theorem B1{C:Addr}(r:HX g xv CX k F Φ X):HX g xv CX k F Φ (j4 X sc N' C s H fp<|Ie X sc N' (Af Φ xv) C s H fp) where
 K:=r.K
 P:=r.P
 w:=r.w
 fx:=r.fx
 room:=r.room
 cx:=r.cx
 st:=yD r.st
 xgx:=λe l h=>Lw h
 xk:=r.xk
theorem jM(n):∀(v:Gm)(X:Cx)(Φ:Fm),GX g v X->HX g xv CX k F Φ X->UK g F n v X Φ:=by
 induction n with
 |zero=>intro v X Φ l hX;exact#[λe c h=>by simp[cE]at h,λe c h=>by simp[lJ]at h,λe c h=>by simp[Hd]at h,λo e c p h=>by simp[cB]at h,λo e c h=>by simp[cI]at h,λf a as c p q h=>by simp[oA]at h]
 |succ n ih=>
  intro v X Φ l hX;have I:=ih v X Φ l hX;have K:=hX.K;have hu:=l.un;refine#[λe c h=>?_,λes cs h=>?_,λes cs h=>?_,λo es c pos h=>?_,λtg e it h=>?_,λf a as c p pos h=>?_]
  ·
   unfold cE at h;cases e<;>first|(cases h;done)|dsimp only at h
   ·obtain⟨k1,k2⟩:=I.b _ _ _ _ h;exact#[k1,k2.pt,rfl]
   ·refine uU c h λa' Z b' Y=>?_
    exact#[Oy K (I.e _ _ Z).1 (I.e _ _ Y).1,cc λρ S=>bC rfl,rfl]
   ·refine bx h λa' Z h9=>?_
    clear h;split at h9
    ·cases h9;exact#[OF (I.e _ _ Z).1,cc λρ S=>bC rfl,rfl]
    ·cases h9;exact#[SE (I.e _ _ Z).1,OH (I.e _ _ Z).2.1,rfl]
    ·cases h9
   ·
    unfold PL at h
    (try dsimp only at h)
    rename_i elt gens sc pos;split at h
    ·rename_i hk;split at h
     ·rename_i tg it ifs;refine bx h λiR Z h=>?_
      refine bx h λDx Y h=>?_
      refine bx h λD6 h3 h=>?_
      refine bx h λe' h4 h=>?_
      split at h
      ·rename_i M;cases h;rw[W5]at M;have Jn:sc.kind= .function:=Xt hk;have B:=AN l Jn M.1;have kQ:(bU v sc).1.N.Nodup:=W7 M.2;have J:=λC s H fp=>ih (bU v sc).1 (j4 X sc (bU v sc).1.N C s H fp<|Ie X sc (bU v sc).1.N (Af Φ xv) C s H fp) Φ (qg l B kQ) (B1 hX)
       refine#[bb (CA (xb:=Ie X sc (bU v sc).1.N<|Af Φ xv) (body:=λacc env=>u9 elt acc env) l.calm B (yL hX.st hX.xgx) (I.i _ _ _ Z).1 (λvp acc env=>ub ..) (λC s H fp=>K3 (qg l B kQ) Y) (λC s H fp=>(J C s H fp).ts _ _ h3) (λC s H fp D=>xU ((J C s H fp).e _ _ h4).1)<|vi (I.i _ _ _ Z).2 _) λO H Q q=>C7 K B kQ Y q,cc λρ S=>bC rfl,rfl]
      ·cases h
     ·cases h
    ·cases h
   ·unfold Mt at h
    (try dsimp only at h)
    split at h
    ·split at h
     ·rename_i i hn;refine wH c h λa' Z=>?_
      obtain⟨x,e1,E,e3,e4⟩:=Ep hn;subst e1;subst E;obtain⟨v1,v2,v3⟩:=dz e3;obtain⟨w,n2,n3⟩:=aT v2;have hy:=fX (pos:=x.2) (by rw[l.N];exact v3) (l.vis _ v1) w n2;exact#[KS hX.P hX.w e4 hy (I.e _ _ Z).1 rfl,GE hX.P hX.w e4 hy (I.e _ _ Z).1 rfl,rfl]
     refine uU c h λa' Z b' Y=>?_
     have A:=E4 (I.e _ _ Y).2.2;exact#[Oz K hu (A _) (I.e _ _ Z).1 (I.e _ _ Y).1,KO K hu (A _) (I.e _ _ Z).1 (I.e _ _ Y).1,rfl]
    ·cases h
   ·unfold To at h
    (try dsimp only at h)
    split at h
    ·split at h
     ·rename_i hf;obtain rfl:=iO hf rfl;split at h
      ·obtain⟨k1,k2⟩:=I.c _ _ _ _ _ _ h;exact#[k1,k2,rfl]
      ·cases h
     ·rename_i o m ap hf;obtain rfl:=iO hf rfl;unfold Tn at h;split at h
      ·
       split at h
       ·rename_i A;rw[W5]at A;have em:=Xt A.1;subst em;refine bx h ?_;clear h;intro x L h;obtain rfl:=gN L;split at h
        ·rename_i i hi;split at h
         ·rename_i hδ;cases h;obtain⟨v1,v2,v3⟩:=dz hi;obtain⟨w,n2,n3⟩:=aT v2;exact#[KU K (Xt hδ) (fX (by rw[l.N];exact v3) (l.vis _ v1) w n2) A.2,cc λρ S=>bC rfl,rfl]
         ·cases h
        ·cases h
       ·cases h
      ·
       split at h
       ·rename_i A;rw[W5]at A;have em:=Xt A.1;subst em;have TC:∀{oe a b:Expr}{ap pos:Pos}{c:C},(ap.endLine==pos.line)=J'->((cE n g v oe).bind λo'=>(cE n g v a).bind λa'=>(cE n g v b).bind λb'=>B'<|C.gtO o' a' b')=B' c->PE X (.Call (.Attribute oe "get" ap) [a,b] [] pos) (bE Φ v F g.fr c)/\PT X (.Call (.Attribute oe "get" ap) [a,b] [] pos) (fE Φ v F c)/\Aj (.Call (.Attribute oe "get" ap) [a,b] [] pos)=J':=λ {oe a b ap pos c} W h=>by
         refine QR c h λo' h0 a' Z b' Y=>?_
         have E:=bu (I.e _ _ Y).2.2 [] X.env;exact#[OA K (I.e _ _ h0).1 (I.e _ _ Z).1 (I.e _ _ Y).1 (E3 (I.e _ _ h0).2.2 _ _ _) (by rw[bu (I.e _ _ Z).2.2,E];rfl) E W,cc λρ S=>bC rfl,rfl]
        split at h
        ·rename_i x L;obtain rfl:=gN L;split at h
         ·rename_i i hi;split at h
          ·rename_i hκ;rw[W5]at hκ;refine uU c h λa' Z b' Y=>?_
           obtain⟨v1,v2,v3⟩:=dz hi;obtain⟨w,n2,n3⟩:=aT v2;have E:=bu (I.e _ _ Y).2.2 [] X.env;exact#[KQ K hX.P hX.w l.un hκ.2 (fX (by rw[l.N];exact v3) (l.vis _ v1) w n2) (I.e _ _ Z).1 (I.e _ _ Y).1 (by rw[bu (I.e _ _ Z).2.2,E];rfl) E A.2,cc λρ S=>bC rfl,rfl]
          ·exact TC A.2 h
         ·cases h
        ·exact TC A.2 h
       ·cases h
      ·cases h
     ·cases h
    ·cases h
   ·split at h
    ·cases h;exact#[tT rfl Kn,cc λρ S=>bC rfl,rfl]
    ·cases h;exact#[tT rfl Kp,cc λρ S=>bC rfl,rfl]
    ·cases h;exact#[tT rfl HH,cc λρ S=>bC rfl,rfl]
    ·cases h;exact#[tT rfl Ko,cc λρ S=>bC rfl,rfl]
    ·cases h
   ·unfold MA at h
    (try dsimp only at h)
    split at h
    ·refine uU c h λa' Z b' Y=>?_
     exact#[K0 K (I.e _ _ Z).1 (I.e _ _ Y).1,cc λρ S=>bC rfl,rfl]
    ·refine uU c h λa' Z b' Y=>?_
     exact#[KZ K (I.e _ _ Z).1 (I.e _ _ Y).1,cc λρ S=>bC rfl,rfl]
    ·refine uU c h λa' Z b' Y=>?_
     have k1:=λpos=>OB (pos:=pos) K (M8 (I.e _ _ Y).2.2) (I.e _ _ Z).1 (I.e _ _ Y).1
     refine#[k1 _,ly K (k1 _) (λ_=>rfl) λρ S=>?_,rfl];rw[CV,ym];cases ev F a' ρ S with
     |ok x=>
      simp only[R.ah];cases ev F b' ρ x.2 with
      |ok y=>simp only[R.ah];cases cD x.1 y.1<;>rfl
      |ex k=>rfl
      |bad=>rfl
     |ex k=>rfl
     |bad=>rfl
   ·
    unfold Tp at h;rename_i x p;split at h
    ·rename_i i hi;obtain⟨v1,v2,v3⟩:=dz hi;obtain⟨w,n2,n3⟩:=aT v2;have hv:PE X (.Name x p) (eU i):=fX (by rw[l.N];exact v3) (l.vis x v1) w n2;split at h
     ·cases h
     rename_i hδκ;split at h
     ·rename_i A;cases h;have:=OE (Φ:=Φ) (F:=F) (fr:=g.fr) hv A λz=>hδκ (by simp[z])
      exact#[this,ly K this (λ_=>rfl) λρ S=>by rw[tK,qO];cases bZ ρ i<;>rfl,rfl]
     ·rename_i A;cases h;have:=OM (Φ:=Φ) (F:=F) (fr:=g.fr) hv (by simpa using A);exact#[this,ly K this (λ_=>rfl) λρ S=>by rw[CW,yn];cases bZ ρ i<;>rfl,rfl]
    ·split at h
     ·rename_i j;rw[W5]at j;obtain⟨d,Z,rfl⟩:=Xl.mp h;obtain⟨u,k1,k2,k3⟩:=l.con x d Z;exact#[tT k1<|xZ (l.gl x j.1) k2 k3 (aT j.2).1,cc λρ S=>bC rfl,rfl]
     ·cases h
   ·refine wH c h λeJ Z=>?_
    exact#[OD (I.es _ _ Z).1,cc λρ S=>bC rfl,rfl]
   ·refine wH c h λeJ Z=>?_
    exact#[OL (I.es _ _ Z).1,cc λρ S=>bC rfl,rfl]
  ·
   unfold lJ at h;split at h
   ·cases h;exact#[OG,rfl,λe z=>by cases z]
   ·refine uU cs h λe' Z eJ Y=>?_
    obtain⟨k1,k2,k3⟩:=I.es _ _ Y;refine#[KP (bu (I.e _ _ Z).2.2 _ _) (I.e _ _ Z).1 k1,by simp[Cs.len,k2],λe z=>?_];rcases Xi.mp z with rfl|z
    ·exact(I.e _ _ Z).2.2
    ·exact k3 e z
  ·
   unfold Hd at h;split at h
   ·cases h;exact λM' s O H Q I q=>Gd M' s O H Q I (by obtain⟨o,ρ,S,er,q⟩:=q;rw[kc]at q;exact q _ aZ.refl er)
   ·refine wH cs h λe' Z=>?_
    refine λM' s O H Q I' q=>Ge (I.e _ _ Z).2.1 M' s O H Q I' ?_
    obtain⟨o,ρ,S,er,q⟩:=q;rw[tL]at q;exact#[o,ρ,S,er,q]
   ·cases h
  ·
   unfold cB at h;split at h
   ·rename_i e;have k1:=(I.e _ _ h).1;have k2:=(I.e _ _ h).2.1;refine#[CF k1,?_];cases o with
    |And=>exact Gh k2
    |Or=>exact KB k2
   ·rename_i e es rA;refine uU c h λe' Z eJ Y=>?_
    cases es with
    |nil=>exact(rA rfl).elim
    |cons b rest=>
     obtain⟨k1,k2⟩:=I.b o _ _ pos Y;cases o with
     |And=>exact#[Ox (I.e _ _ Z).1 k1,KN (I.e _ _ Z).2.1 k2]
     |Or=>exact#[SF (I.e _ _ Z).1 k1,OJ (I.e _ _ Z).2.1 k2]
   ·cases h
  ·
   unfold cI at h;have sq:∀{it},((cE n g v e).bind λc=>B'<|nL.seq c)=B' it->_:=λ {it} h=>wH (P:=λit=>PI X tg e (rf Φ v F it)/\Aj e=J') it h λc Z=>#[OK K (I.e _ _ Z).1,(I.e _ _ Z).2.2]
   split at h
   ·rename_i h0 as q sG;obtain rfl:=AY sG;split at h
    ·rename_i x L;obtain rfl:=gN L;obtain⟨f,p⟩:=x;dsimp only at h;unfold Mz at h;split at h
     ·split at h
      ·rename_i hf;have ef:=Xt hf;subst ef;split at h
       ·rename_i j;rw[W5]at j;refine wH it h λa' Z=>?_
        exact#[KW (l.gl _ j.1) (l.bl _<|gE j.2) (bu (I.e _ _ Z).2.2 [] _) (I.e _ _ Z).1,rfl]
       ·cases h
      ·exact sq h
     ·split at h
      ·rename_i hf;have ef:=Xt hf;subst ef;split at h
       ·cases h
       ·cases h
      split at h
      ·rename_i hf;have ef:=Xt hf;subst ef;split at h
       ·rename_i j;rw[W5,W5]at j;obtain⟨⟨Vx,j⟩,Vy⟩:=j;obtain⟨_,_,_,rfl⟩:=Fh Vx
        replace j:=And.intro j Vy
        ·refine uU it h λa' Z b' Y=>?_
         have E:=bu (I.e _ _ Y).2.2 [] X.env;exact#[ON K (l.gl _ j.1) (l.bl _<|gE j.2) (by rw[bu (I.e _ _ Z).2.2,E];rfl) E (I.e _ _ Z).1 (I.e _ _ Y).1,rfl]
       ·cases h
      ·exact sq h
     ·exact sq h
    ·exact sq h
   ·exact sq h
  ·
   have tr:∀{c:C},(∀ρ S,cz F c ρ S=(ev F c ρ S).bind λx=>(cK x.1).bind λb=>.ok (b,x.2))->PE X (.Call (.Name f p) (a::as) [] pos) (bE Φ v F g.fr c)->PE X (.Call (.Name f p) (a::as) [] pos) (bE Φ v F g.fr c)/\PT X (.Call (.Name f p) (a::as) [] pos) (fE Φ v F c):=λhe h=>#[h,ly K h (λ_=>rfl) he]
   have QZ:∀(b:BI)(cs:Cs)ρ S,cz F (.bi b cs) ρ S=(ev F (.bi b cs) ρ S).bind λx=>(cK x.1).bind λb=>.ok (b,x.2):=λb cs ρ S=>by
    rw[Gi,qN];cases gq F cs ρ S with
    |ok x=>simp only[R.ah];cases dU b x.1<;>rfl
    |ex k=>rfl
    |bad=>rfl
   have UU:∀(f:Nat)(cs:Cs)(ds:List Dt)ρ S,cz F (.call f cs ds) ρ S=(ev F (.call f cs ds) ρ S).bind λx=>(cK x.1).bind λb=>.ok (b,x.2):=λf cs ds ρ S=>by
    rw[zT,tM];cases gq F cs ρ S with
    |ok x=>simp only[R.ah];cases F f (x.1++ds) G'<;>rfl
    |ex k=>rfl
    |bad=>rfl
   have UT:∀(f:Nat)(cs:Cs)ρ S,cz F (.callD f cs) ρ S=(ev F (.callD f cs) ρ S).bind λx=>(cK x.1).bind λb=>.ok (b,x.2):=λf cs ρ S=>by
    rw[vR,oZ];cases S.isSome with
    |false=>rfl
    |true=>
     simp only[guard_true];cases gq F cs ρ S with
     |ok x=>
      simp only[R.ah];cases x.2 with
      |none=>rfl
      |some s=>rfl
     |ex k=>rfl
     |bad=>rfl
   unfold oA at h;split at h
   ·rename_i j;rw[W5]at j;have Ji:=l.gl f j.1;obtain⟨w,n2,n3⟩:=aT j.2;split at h
    ·rename_i kk np fN bA Al;split at h
     ·
      rename_i kO;have:bA=J':=kO;subst this;unfold Mu at h;refine bx h ?_;clear h;intro y hy h;obtain rfl:=gN hy;refine bx h λi hi h=>?_
      split at h
      ·rename_i hδ;rw[W5]at hδ;refine bx h λes Z h=>?_
       split at h
       ·rename_i Am;cases h;obtain⟨v1,v2,v3⟩:=dz hi;obtain⟨m1,m2,m3⟩:=aT v2;obtain⟨k1,k2,k3⟩:=I.es _ _ Z;exact tr (UT _ _)<|GD hX Ji w Al (Xt hδ.1) (by rw[k2];exact Xt hδ.2) (Xt Am) (fX (by rw[l.N];exact v3) (l.vis _ v1) m1 m2) rfl (lI k3) k1
       ·cases h
      ·cases h
     ·rename_i kO;have:bA=K':=by simpa using kO
      subst this;split at h
      ·rename_i hn;rw[W5]at hn;have a1:=W7 hn.1;have a2:=W7 hn.2;refine wH c h λes Z=>?_
       obtain⟨k1,k2,k3⟩:=I.es _ _ Z;refine tr (UU _ _ _)<|s_call hX Ji w Al (Nat.sub_le _ _) ?_ (bu (k3 a Xc) _ _) (lI λe z=>k3 e<|W9 _ z) k1;rw[k2,Yu,Xo];omega
      ·cases h
    ·split at h
     ·rename_i hbl;have A:=l.bl f<|gE hbl;split at h
      ·rename_i hlen;rw[W5,W5]at hlen;have ef:=Xt hlen.1.1;subst ef;obtain⟨y,yp,i,rfl,hi,hδ⟩:=Fg hlen.1.2;have UR:as=[]:=by simpa using hlen.2
       subst UR;cases h;obtain⟨v1,v2,v3⟩:=dz hi;obtain⟨m1,m2,m3⟩:=aT v2;exact#[KR hδ Ji A<|fX (by rw[l.N];exact v3) (l.vis y v1) m1 m2,cc λρ S=>bC rfl]
      split at h
      ·rename_i hisi;have ef:=Xt hisi;subst ef;unfold Mw at h
       (try dsimp only at h)
       split at h
       ·refine bx h ?_;clear h;intro t ht h;obtain rfl:=gN ht;obtain⟨t,tp⟩:=t;dsimp only at h;split at h
        ·rename_i zl;rw[W5]at zl;refine uU c h λT Z a' Y=>?_
         have tn:t≠"__name__"/\(t==("__debug__":Str))=K':=by
          unfold wj at Z;split at Z
          ·rename_i e;rw[Xt e];exact#[by decide,by decide]
          split at Z
          ·rename_i e;rw[Xt e];exact#[by decide,by decide]
          split at Z
          ·rename_i e;rw[Xt e];exact#[by decide,by decide]
          split at Z
          ·rename_i e;rw[Xt e];exact#[by decide,by decide]
          split at Z
          ·rename_i e;rw[Xt e];exact#[by decide,by decide]
          ·cases Z
         exact tr (QZ _ _)<|OC K Ji A (l.gl t zl.1) (l.bl t<|gE zl.2) Z tn.1 tn.2 (bu (I.e _ _ Y).2.2 _ _) (I.e _ _ Y).1
        ·cases h
       ·cases h
      ·have regular:∀{c:C},pN (λ_=>lJ n) n g v f a as=B' c->PE X (.Call (.Name f p) (a::as) [] pos) (bE Φ v F g.fr c)/\PT X (.Call (.Name f p) (a::as) [] pos) (fE Φ v F c):=λ {c} h=>by
        refine uU c h λb Z es Y=>?_
        obtain⟨k1,k2,k3⟩:=I.es _ _ Y;exact tr (QZ _ _) (SD K l Ji A j.2 Z (bu (k3 a Xc) _ _) (lI λe z=>k3 e<|W9 _ z) k1)
       unfold My at h
       (try dsimp only at h)
       split at h
       ·split at h
        ·rename_i h0 xs ip sG;obtain rfl:=AY sG;split at h
         ·rename_i r rp hf;obtain rfl:=iO hf rfl;split at h
          ·split at h
           ·cases h
           split at h
           ·rename_i hr;have er:=Xt hr;subst er;split at h
            ·rename_i zl;rw[W5,W5]at zl;have ef:=Xt zl.2;subst ef;refine wH c h λb' Z=>?_
             exact tr (QZ _ _)<|K2 K l.calm l.un Ji A (l.gl _ zl.1.1) (l.bl _<|gE zl.1.2) (bu (I.e _ _ Z).2.2 [] _) (I.e _ _ Z).1
            ·cases h
           ·exact regular h
          ·split at h
           ·cases h
           ·exact regular h
          ·exact regular h
         ·rename_i y m ap hf;obtain rfl:=iO hf rfl;split at h
          ·split at h
           ·rename_i oG;have em:=Xt oG;subst em;split at h
            ·rename_i hfl;rw[W5]at hfl;have ef:=Xt hfl.1;subst ef;refine bx h ?_;clear h;intro x L h;obtain rfl:=gN L;refine bx h λi hi h=>?_
             split at h
             ·rename_i hκ;rw[W5]at hκ;cases h;obtain⟨v1,v2,v3⟩:=dz hi;obtain⟨q1,q2,q3⟩:=aT v2;exact#[K1 K hX.P hX.w l.calm l.un Ji A hκ.2 (fX (by rw[l.N];exact v3) (l.vis _ v1) q1 q2) hfl.2,cc λρ S=>bC rfl]
             ·cases h
            ·cases h
           ·exact regular h
          ·exact regular h
         ·exact regular h
        ·exact regular h
       ·exact regular h
     ·cases h
   ·cases h
end
structure OI(Φ:Fm)(W:Addr->Prop)(o:Ow):Prop where
 w:o.W=W
 d:∀a,Φ.d0=B' a->o.dr=B' a
structure SO(Φ:Fm)(Γ:Gm)(W:Addr->Prop)(o:Ow)(H:Hp)(ρ':aj)(S':Sx)(σ':L2.St)(H':Hp):Prop where
 ex:∃o',OI Φ W o'/\ER Φ Γ o' ρ' S' σ' H'/\∀b,o'.A b->o.A b\/H b=G'
 ext:aZ o.A H H'
 al:∀b x,H b=B' x->∃y,H' b=B' y
structure RO(Φ:Fm)(W:Addr->Prop)(fF:Bool)(d:Dt)(S':Sx)(v:V)(H':Hp):Prop where
 val:RV Φ.K W H' v d
 ent:aZ (λb=>Φ.d0=B' b) Φ.H0 H'
 drw:∀a,Φ.d0=B' a->∃ns:List Int,S'=B' ns/\H' a=B' (.lst<|ns.map V.int)
 fH:fF=J'->∀ds,d= .lst ds->∃a xs,v= .ref a/\Φ.H0 a=G'/\H' a=B' (.lst xs)/\aq Φ.K (λb=>W b\/b=a) H' xs ds
def dO(Φ:Fm)(Γ:Gm)(W:Addr->Prop)(fF:Bool)(o:Ow)(H:Hp)(D:Ends)(p:Fl×aj×Sx):Prop:=match p.1 with
 |.next=>∀σ' H',SO Φ Γ W o H p.2.1 p.2.2 σ' H'->D.nx σ' H'
 |.brk=>∀σ' H',SO Φ Γ W o H p.2.1 p.2.2 σ' H'->D.bk σ' H'
 |.cnt=>∀σ' H',SO Φ Γ W o H p.2.1 p.2.2 σ' H'->D.ct σ' H'
 |.ret d=>∀v H',RO Φ W fF d p.2.2 v H'->D.rt v H'
inductive iY(Φ:Fm)(Γ:Gm)(F:FT)(W:Addr->Prop)(fF:Bool)(t:T)(D:Ends)(σ:L2.St)(H:Hp):Prop
 |mk (o:Ow) (ρ:aj) (S:Sx) (i:OI Φ W o) (e:ER Φ Γ o ρ S σ H) (m:mR Φ.Ek (ex F t ρ S) (dO Φ Γ W fF o H D)):iY Φ Γ F W fF t D σ H
inductive k6(Φ:Fm)(Γ:Gm)(F:FT)(W:Addr->Prop)(fF:Bool)(t:Ts)(D:Ends)(σ:L2.St)(H:Hp):Prop
 |mk (o:Ow) (ρ:aj) (S:Sx) (i:OI Φ W o) (e:ER Φ Γ o ρ S σ H) (m:mR Φ.Ek (aO F t ρ S) (dO Φ Γ W fF o H D)):k6 Φ Γ F W fF t D σ H
theorem bB(h:PS X e t)(hi:∀D O H,t' D O H->t D O H):PS X e t':=λS s O H D I q=>h S s O H D I<|hi D O H q
theorem yd(h:rG X e t)(hi:∀D O H,t' D O H->t D O H):rG X e t':=λS s O H D I q=>h S s O H D I<|hi D O H q
section
variable{X:Cx}{Φ:Fm}{Γ:Gm}{F:FT}{g:G}{W:Addr->Prop}{fF:Bool}{o:Ow}{ρ:aj}{S:Sx}{σ:L2.St}{H H':Hp}
theorem ER.dA(er:ER Φ Γ o ρ S σ H)(e:aZ o.d H H1):aZ o.A H H1:=e.mono er.da
theorem ER.A3(s:ER Φ Γ o ρ1 S1 σ1 H1)(e:aZ o.d H H1):∀b x,H b=B' x->∃y,H1 b=B' y:=λb x h=>e.al h λz=>s.al b<|s.da b z
theorem SO.gT(l:OI Φ W o)(er:ER Φ Γ o ρ' S' σ' H')(e:aZ o.d H H'):SO Φ Γ W o H ρ' S' σ' H':=#[#[o,l,er,λb z=>.inl z],e.mono er.da,er.A3 e]
theorem SO.go(e:aZ o.A H H1)(c:∀b,o'.A b->o.A b\/H b=G')(g:∀b x,H b=B' x->∃y,H1 b=B' y)(h:SO Φ Γ W o' H1 ρ2 S2 σ2 H2):SO Φ Γ W o H ρ2 S2 σ2 H2:=by
 obtain⟨⟨Y,i,L,a⟩,E,a2⟩:=h;refine#[#[Y,i,L,λb z=>?_],#[λb x h n=>?_,λb xs h=>E.tp _ _<|e.tp _ _ h],λb x h=>?_]
 ·rcases a b z with q|q
  ·exact c b q
  ·refine .inr ?_;cases M:H b with
   |none=>rfl
   |some x=>obtain⟨y,m⟩:=g b x M;rw[q]at m;cases m
 ·refine E.kp _ _ (e.kp _ _ h n) λz=>?_
  rcases c b z with q|q
  ·exact n q
  ·rw[h]at q;cases q
 ·obtain⟨y,m⟩:=g b x h;exact a2 b y m
theorem qY(h:bP c d=J')(L:EO Φ.K fr o c H d v H1):RV Φ.K o.A H1 v d:=by
 unfold bP at h;rw[XQ]at h;rcases h with h|h
 ·exact L.mX<|W7 h
 ·exact L.val.lx h
theorem Ib{st:Stmt}(J:plainS Γ i=J')(h:PS X st (nu (bE Φ Γ F g.fr c)<|eX i)):PS X st (iY Φ Γ F W fF<|.asg i c):=bB h λD O H q=>by obtain⟨o,ρ,S,l,er,q⟩:=q;rw[lz,ae]at q;refine#[o,ρ,S,er,ag q λp _ q v j L s=>?_];obtain⟨t,q⟩:=ay q;exact q _ _<|SO.gT l (s.set J<|qY t L) L.ext
theorem Lo{st:Stmt}(J:plainS Γ i=J')(r:fresh g.fr c=J')(h:PS X st (nu (bE Φ Γ F g.fr c)<|eX i)):PS X st (iY Φ Γ F W fF<|.asgM i c):=bB h λD O H q=>by
 obtain⟨o,ρ,S,l,er,q⟩:=q;rw[mL,ae]at q;refine#[o,ρ,S,er,ag q λp _ q v j eo s=>?_];obtain⟨t,q⟩:=ay q;have n:RV Φ.K o.A j v p.1:=by
  by_cases hd:∃ds,p.1= .lst ds
  ·obtain⟨ds,hd⟩:=hd;obtain⟨a,xs,rfl,Z,Y,u,Q⟩:=eo.fH r ds hd;have na:¬o.A a:=λz=>by obtain⟨x,L⟩:=er.al a z;rw[Z]at L;cases L
   rw[hd]at t ⊢;refine RV.fT Y na ?_;rcases X6.mp t with z|z
   ·exact(Q<|W7 z).weak λb w=>.inl w
   ·exact u.kU z
  ·refine qY ?_ eo;cases hq:p.1 with
   |lst ds=>exact absurd #[ds,hq] hd
   |_=>rw[hq]at t;exact t
 exact q _ _<|SO.gT l (s.set J n) eo.ext
theorem ER.own(oi:OI Φ W o)(er:ER Φ Γ o ρ S σ H)(s:ER Φ Γ o ρ S1 σ H1)(A:cL Γ i=J')(I:Γ.δ≠B' i)(r:fresh fr c=J')(hl:yC c d=J')(L:EO Φ.K fr o c H d v H1):
  ∃g,OI Φ W g/\ER Φ Γ g (ρ.set i<|B' d) S1 (σ.set i<|B' v) H1/\∀b,g.A b->o.A b\/H b=G':=by
 by_cases hd:∃ds,d= .lst ds
 ·obtain⟨ds,rfl⟩:=hd;obtain⟨a,xs,rfl,Z,Y,u,Q⟩:=L.fH r ds rfl;have Q:aq Φ.K (λb=>o.A b\/b=a) H1 xs ds:=by
   rcases X6.mp hl with l|l
   ·exact Q<|W7 l
   ·exact u.kU l
  have nA:¬o.A a:=λz=>by obtain⟨y,hy⟩:=er.al a z;rw[Z]at hy;cases hy
  have h0:Φ.H0 a=G':=by
   cases q:Φ.H0 a with
   |none=>rfl
   |some x=>
    by_cases rz:Φ.d0=B' a
    ·exact absurd (er.da a<|oi.d a rz) nA
    ·rw[er.ent.kp a x q rz]at Z;cases Z
  have av:∀b,(o.A b\/b=a)->o.A b\/H b=G':=λb z=>z.elim .inl λe=>.inr (by rw[e];exact Z)
  have dA:∀b,o.d b->(o.A b\/b=a):=λb z=>.inl (er.da b z)
  refine#[#[o.W,λb=>o.A b\/b=a,o.dr],#[oi.w,oi.d],#[?_,λb z=>.inl<|er.wa b z,λb z=>.inl<|er.da b z,λb z=>?_,λj e P=>?_,Dk.set er.dk rfl,λj j' b e K m t k1 k2 k3 k4=>?_,s.drw,s.drn,λj b F M=>?_,s.dr0,s.ent],av]
  ·rw[Yy,Yy];exact er.len
  ·rcases z with z|z
   ·exact s.al b z
   ·rw[z];exact#[_,Y]
  ·by_cases F:j=i
   ·subst F;rw[Yq]at P;simp only[Zo]at P;split at P
    ·rename_i p;cases P;refine#[.ref a,by rw[XW (by rw[er.len];exact p)],?_];rw[Zn A];exact#[a,xs,rfl,Y,.inr rfl,λz=>nA<|er.wa a z,λz=>nA<|er.da a z,h0,Q]
    ·cases P
   ·rw[Xn (Y6 F)]at P;obtain⟨w,k1,k2⟩:=er.val j e P;refine#[w,by rw[Xn (Y6 F)];exact k1,?_];by_cases hmj:cL Γ j=J'
    ·rw[Zn hmj]at k2 ⊢;cases e with
     |lst es=>obtain⟨b,ys,B,E,J,e4,X,e6,e7⟩:=k2;exact#[b,ys,B,L.ext.kp _ _ E X,.inl J,e4,X,e6,(e7.bF av).mono L.ext dA λ_ z=>z]
     |c8 O vs=>obtain⟨b,ys,B,E,J,e4,X,e6,e8,e9,e7⟩:=k2;exact#[b,ys,B,L.ext.kp _ _ E X,.inl J,e4,X,e6,dI.tups e8 L.ext.tp,e9,(e7.bF av).mono L.ext dA λ_ z=>z]
     |_=>exact(RV.bF av k2).mono L.ext dA λ_ z=>z
    ·rw[Zm hmj]at k2 ⊢;exact(k2.bF av).mono L.ext dA λ_ z=>z
  ·
   have k:∀{j:Nat}{e:List Dt}{b:Addr},j≠i->cL Γ j=J'->(ρ.set i<|B'<|.lst ds)[j]?=B' (B'<|.lst e)->(σ.set i<|B'<|.ref a)[j]?=B' (B'<|.ref b)->b≠a/\ρ[j]?=B' (B'<|.lst e)/\σ[j]?=B' (B'<|.ref b):=λ {j e b} F m k1 k3=>by rw[Xn (Y6 F)]at k1 k3;obtain⟨w,n1,n2⟩:=er.val j _ k1;rw[Zn m]at n2;obtain⟨h,ys,B,E,_⟩:=n2;rw[k3]at n1;cases n1;cases B;refine#[λz=>?_,k1,k3];rw[z,Z]at E;cases E
   by_cases F:j=i
   ·by_cases hj':j'=i
    ·rw[F,hj']
    ·obtain⟨n,_,_⟩:=k hj' t k2 k4;subst F;have p:j<σ.length:=by have:=(W8.mp k3).1;rw[Yy]at this;exact this
     rw[XW p]at k3;cases k3;exact absurd rfl n
   ·obtain⟨n,p1,p2⟩:=k F m k1 k3;by_cases hj':j'=i
    ·subst hj';have p:j'<σ.length:=by have:=(W8.mp k4).1;rw[Yy]at this;exact this
     rw[XW p]at k4;cases k4;exact absurd rfl n
    ·obtain⟨_,p3,p4⟩:=k hj' t k2 k4;exact er.inj j j' b e K m t p1 p3 p2 p4
  ·rw[Xn (λz=>I<|by rw[z];exact F)];exact s.drs j b F M
 ·
  have nl:∀e,d≠ .lst e:=λe z=>hd #[e,z]
  have hv:RV Φ.K o.A H1 v d:=by
   rcases X6.mp hl with l|l
   ·exact L.mX<|W7 l
   ·cases d with
    |lst ds=>exact absurd rfl<|nl ds
    |_=>exact L.val.lx l
  refine#[o,oi,#[?_,s.wa,s.da,s.al,λj e P=>?_,Dk.set s.dk hv.nd,λj j' b e K m t k1 k2 k3 k4=>?_,s.drw,s.drn,λj b F M=>?_,s.dr0,s.ent],λb z=>.inl z]
  ·rw[Yy,Yy];exact er.len
  ·by_cases F:j=i
   ·subst F;rw[Yq]at P;simp only[Zo]at P;split at P
    ·rename_i p;cases P;refine#[v,by rw[XW (by rw[er.len];exact p)],?_];rw[Zn A];cases d with
     |lst ds=>exact absurd rfl<|nl ds
     |c8=>cases hv.nd
     |_=>exact hv
    ·cases P
   ·rw[Xn (Y6 F)]at P;obtain⟨w,k1,k2⟩:=s.val j e P;exact#[w,by rw[Xn (Y6 F)];exact k1,k2]
  ·have k:∀{j:Nat}{e:List Dt},(ρ.set i<|B' d)[j]?=B' (B'<|.lst e)->j≠i:=λ {j e} k1 z=>by
    subst z;rw[Yq]at k1;simp only[Zo]at k1;split at k1
    ·cases k1;exact nl e rfl
    ·cases k1
   have n1:=k k1;have n2:=k k2;rw[Xn (Y6 n1)]at k1 k3;rw[Xn (Y6 n2)]at k2 k4;exact s.inj j j' b e K m t k1 k2 k3 k4
  ·rw[Xn (λz=>I<|by rw[z];exact F)];exact s.drs j b F M
theorem Ln{st:Stmt}(A:cL Γ i=J')(I:Γ.δ≠B' i)(r:fresh g.fr c=J')(h:PS X st (nu (bE Φ Γ F g.fr c)<|eX i)):PS X st (iY Φ Γ F W fF<|.asgM i c):=bB h λD O H q=>by obtain⟨o,ρ,S,l,er,q⟩:=q;rw[mL,ae]at q;refine#[o,ρ,S,er,ag q λp _ q v j L s=>?_];obtain⟨t,q⟩:=ay q;exact q _ _ #[ER.own l er s A I r t L,er.dA L.ext,s.A3 L.ext]
theorem Lm{st:Stmt}(rz:Φ.d0=G')(I:Γ.δ=B' i)(A:cL Γ i=K')(r:fresh g.fr c=J')(h:PS X st (nu (bE Φ Γ F g.fr c)<|eX i)):PS X st (iY Φ Γ F W fF<|.asgD i c):=bB h λD O H q=>by
 obtain⟨o,ρ,S,l,er,q⟩:=q;rw[tO,ae]at q;refine#[o,ρ,S,er,ag q λp _ q v H1 L s=>?_];cases hd:p.1 with
 |lst ds=>
  rw[hd]at q L;simp only at q;cases y:intsOf ds with
  |none=>rw[y]at q;exact q.elim
  |some ns=>
   rw[y]at q;obtain⟨gs,q⟩:=ay q;rw[W5]at gs;obtain⟨a,xs,rfl,Z,Y,u,Q⟩:=L.fH r ds rfl;rw[jw u y]at Y;have h0:Φ.H0 a=G':=by
    cases q:Φ.H0 a with
    |none=>rfl
    |some x=>rw[er.ent.kp a x q (by rw[rz];simp)]at Z;cases Z
   have av:∀b,(o.A b\/b=a)->o.A b\/H b=G':=λb z=>z.elim .inl λe=>.inr (by rw[e];exact Z)
   have dA:∀b,o.d b->(o.A b\/b=a):=λb z=>.inl (er.da b z)
   refine q _ _ #[#[#[o.W,λb=>o.A b\/b=a,B' a],#[l.w,λb M=>by rw[rz]at M;cases M],#[?_,λb z=>.inl<|er.wa b z,(λb z=>.inr<|by cases z;rfl),λb z=>?_,λj e P=>?_,Dk.none er.dk,λj j' b e K m t k1 k2 k3 k4=>?_,λb M=>?_,(λz=>by cases z),λj b hj M=>?_,λb M=>?_,s.ent],av],er.dA L.ext,s.A3 L.ext]
   ·rw[Yy,Yy];exact er.len
   ·rcases z with z|z
    ·exact s.al b z
    ·rw[z];exact#[_,Y]
   ·have hj:j≠i:=λz=>by subst z;rw[Yq]at P;simp only[Zo]at P;split at P<;>cases P
    rw[Xn (Y6 hj)]at P;obtain⟨w,k1,k2⟩:=er.val j e P;refine#[w,by rw[Xn (Y6 hj)];exact k1,?_];by_cases hmj:cL Γ j=J'
    ·rw[Zn hmj]at k2 ⊢;cases e with
     |lst es=>obtain⟨b,ys,B,E,J,n,e5,e6,k⟩:=k2;refine#[b,ys,B,L.ext.kp _ _ E e5,.inl J,n,λz=>?_,e6,(k.bF av).mono L.ext dA λ_ z=>z];cases z;rw[Z]at E;cases E
     |c8 ks vs=>obtain⟨b,ys,B,E,J,n,e5,e6,e8,e9,k⟩:=k2;refine#[b,ys,B,L.ext.kp _ _ E e5,.inl J,n,λz=>?_,e6,dI.tups e8 L.ext.tp,e9,(k.bF av).mono L.ext dA λ_ z=>z];cases z;rw[Z]at E;cases E
     |_=>exact(RV.bF av k2).mono L.ext dA λ_ z=>z
    ·rw[Zm hmj]at k2 ⊢;exact(k2.bF av).mono L.ext dA λ_ z=>z
   ·have n1:j≠i:=λz=>by rw[z,A]at m;cases m
    have n2:j'≠i:=λz=>by rw[z,A]at t;cases t
    rw[Xn (Y6 n1)]at k1 k3;rw[Xn (Y6 n2)]at k2 k4;exact er.inj j j' b e K m t k1 k2 k3 k4
   ·cases M;exact#[ns,rfl,Y]
   ·rw[I]at hj;cases hj;cases M;have hi:i<O.length:=by rw[er.len];exact W7 gs.2
    rw[XW hi]
   ·cases M;exact .inr h0
 |_=>rw[hd]at q;exact q.elim
end
section
variable{X:Cx}{Φ:Fm}{Γ:Gm}{F:FT}{g:G}{W:Addr->Prop}{fF:Bool}{o:Ow}{ρ:aj}{S:Sx}{σ:L2.St}{H H':Hp}
theorem jB(h:mR Ek (jA ρ i) P):∃ds,ρ[i]?=B' (B'<|.lst ds)/\P ds:=by
 unfold jA at h;split at h
 ·exact#[_,by assumption,h]
 ·exact h.elim
theorem rh:∀b x,H b=B' x->∃y,upd H a u b=B' y:=λb x h=>by
 by_cases z:b=a
 ·subst z;exact#[_,aB]
 ·exact#[x,by rw[ax z];exact h]
theorem qp(h:isLE ρ i=J'):∃ds,ρ[i]?=B' (B'<|.lst ds):=by
 unfold isLE at h;split at h
 ·exact#[_,by assumption]
 ·cases h
theorem ER.chg(er:ER Φ Γ o ρ S σ H)(A:cL Γ i=J')(I:ρ[i]?=B' (B' (.lst ds)))(hs:σ[i]?=B' (B' (.ref a)))(L:H a=B' (.lst xs))(hy:aq Φ.K o.A H ys es):
  ER Φ Γ o (ρ.set i (B' (.lst es))) S σ (upd H a (.lst ys))/\aZ o.A H (upd H a (.lst ys))/\∀b x,H b=B' x->∃y,upd H a (.lst ys) b=B' y:=by
 obtain⟨v,Z,Y⟩:=er.val i _ I;rw[Zn A]at Y;rw[hs]at Z;cases Z;obtain⟨b,zs,B,E,J,e4,X,r,k⟩:=Y;cases B;have up:aZ (λb=>b=a) H (upd H a (.lst ys)):=#[λb o h n=>by rw[ax n];exact h,Mx.ua L];have sub:∀b,b=a->o.A b:=λb z=>by rw[z];exact J
 refine#[#[by rw[Yy];exact er.len,er.wa,er.da,λb M=>?_,λj d hd=>?_,Dk.set er.dk rfl,λj W b d d' m t k1 k2 k3 g=>?_,λb M=>?_,er.drn,er.drs,er.dr0,?_],up.mono sub,rh]
 ·obtain⟨x,L⟩:=er.al b M;exact rh b x L
 ·by_cases F:j=i
  ·subst F;rw[Yq]at hd;simp only[Zo]at hd;split at hd
   ·cases hd;refine#[.ref a,hs,?_];rw[Zn A];exact#[a,ys,rfl,aB,J,e4,X,r,hy.mono up sub λ_ z=>z]
   ·cases hd
  ·rw[Xn (Y6 F)]at hd;obtain⟨w,k1,k2⟩:=er.val j d hd;refine#[w,k1,?_];by_cases u:cL Γ j=J'
   ·rw[Zn u]at k2 ⊢;cases d with
    |lst dl=>obtain⟨b,Pq,n1,P,s,n4,n5,n6,Q⟩:=k2;refine#[b,Pq,n1,up.kp _ _ P (λz=>?_),s,n4,n5,n6,Q.mono up sub λ_ z=>z];subst n1 z;exact F (er.inj j i b dl ds u A hd I k1 hs)
    |c8 O c=>obtain⟨b,Pq,n1,P,s,n4,n5,n6,n8,n9,Q⟩:=k2;exact#[b,Pq,n1,up.kp _ _ P (λz=>by rw[z,L]at P;cases P),s,n4,n5,n6,dI.tups n8 up.tp,n9,Q.mono up sub λ_ z=>z]
    |_=>exact RV.mono up sub (λ_ z=>z) k2
   ·rw[Zm u]at k2 ⊢;exact k2.mono up sub λ_ z=>z
 ·have same:∀{j:Nat}{d:List Dt},(ρ.set i (B' (.lst es)))[j]?=B' (B' (.lst d))->∃d',ρ[j]?=B' (B' (.lst d')):=λ {j d} q=>by
   by_cases F:j=i
   ·subst F;exact#[ds,I]
   ·rw[Xn (Y6 F)]at q;exact#[d,q]
  obtain⟨p,l⟩:=same k1;obtain⟨d2,K⟩:=same k2;exact er.inj j W b p d2 m t l K k3 g
 ·obtain⟨ns,n1,P⟩:=er.drw b M;exact#[ns,n1,up.kp _ _ P λz=>X (by rw[<-z];exact M)]
 ·refine#[λb x h n=>up.kp _ _ (er.ent.kp b x h n) λz=>?_,λb xs h=>up.tp _ _ (er.ent.tp b xs h)];subst z;rw[h]at r;cases r
theorem gO(er:ER Φ Γ o ρ S σ H)(A:cL Γ i=J')(I:ρ[i]?=B' (B'<|.lst ds)):∃a xs,σ[i]?=B' (B'<|.ref a)/\H a=B' (.lst xs)/\aq Φ.K o.A H xs ds:=by obtain⟨v,Z,Y⟩:=er.val i _ I;rw[Zn A]at Y;obtain⟨a,xs,B,E,J,n,X,r,k⟩:=Y;subst B;exact#[a,xs,Z,E,k]
theorem Pe{st:Stmt}(A:cL Γ i=J')(h:PS X st (pd<|SJ X.K "list" yq (eU i)<|Du (bE Φ Γ F g.fr c) La)):PS X st (iY Φ Γ F W fF<|.app i c):=bB h λD O H q=>by obtain⟨o,ρ,S,l,er,q⟩:=q;obtain⟨gl,q⟩:=ay q;obtain⟨ds,I⟩:=qp gl;obtain⟨a,xs,Z,Y,u⟩:=gO er A I;rw[ae]at q;refine#[.ref a,Z,.inl #[rfl,_,d8.of Y],o,ρ,S,er,ag q λp _ q v j L s=>?_];obtain⟨t,q⟩:=ay q;rw[ae]at q;obtain⟨r,B,q⟩:=jB q;rw[I]at B;cases B;obtain⟨gl,q⟩:=ay q;obtain⟨E,J,K,k,M⟩:=gO s A I;rw[Z]at K;cases K;have x:=Zu;have m:lim=1000000:=rfl;have P:=W7 gl;refine#[a,J,v,rfl,rfl,k,by rw[M.length];lia,?_];obtain⟨k1,k2,k3⟩:=s.chg A I Z k<|M.append<|aq.cons (qY t L) aq.nil;exact q _ _<|SO.go (er.dA L.ext) (λb z=>.inl z) (s.A3 L.ext) #[#[o,l,k1,λb z=>.inl z],k2,k3]
theorem Po{st:Stmt}(A:cL Γ i=J')(h:PS X st (pd<|SJ X.K "list" Mx.HM (eU i)<|Du (bE Φ Γ F g.fr c) La)):PS X st (iY Φ Γ F W fF<|.xtd i c):=bB h λD O H q=>by
 obtain⟨o,ρ,S,l,er,q⟩:=q;rw[qR]at q;obtain⟨gl,q⟩:=ay q;obtain⟨ds,I⟩:=qp gl;obtain⟨a,xs,Z,Y,u⟩:=gO er A I;rw[ae]at q;refine#[.ref a,Z,.inl #[rfl,_,d8.of Y],o,ρ,S,er,ag q λp _ q v j L s=>?_];obtain⟨t,q⟩:=ay q;rw[ae]at q;obtain⟨r,B,q⟩:=jB q;rw[I]at B;cases B;obtain⟨E,J,K,k,M⟩:=gO s A I;rw[Z]at K;cases K;cases hd:p.1 with
 |lst es=>rw[hd]at q L;obtain⟨gl,q⟩:=ay q;obtain⟨b,w,rfl,f1,Q⟩:=L.yB<|W7 t;have m:=cR;have P:=W7 gl;refine#[a,b,J,w,rfl,rfl,k,.inl f1,by rw[M.length,Q.length];lia,?_];obtain⟨k1,k2,k3⟩:=s.chg A I Z k<|M.append Q;exact q _ _<|SO.go (er.dA L.ext) (λb z=>.inl z) (s.A3 L.ext) #[#[o,l,k1,λb z=>.inl z],k2,k3]
 |tup es=>rw[hd]at q L;obtain⟨gl,q⟩:=ay q;obtain⟨b,w,rfl,f1,Q⟩:=RV.ao<|L.yB<|W7 t;have m:=cR;have P:=W7 gl;refine#[a,b,J,w,rfl,rfl,k,.inr f1,by rw[M.length,Q.length];lia,?_];obtain⟨k1,k2,k3⟩:=s.chg A I Z k<|M.append Q;exact q _ _<|SO.go (er.dA L.ext) (λb z=>.inl z) (s.A3 L.ext) #[#[o,l,k1,λb z=>.inl z],k2,k3]
 |_=>rw[hd]at q;exact q.elim
theorem Pi{st:Stmt}(A:cL Γ i=J')(h:PS X st (pd<|K8 X.K "list" C4<|eU i)):PS X st (iY Φ Γ F W fF<|.clr i):=bB h λD O H q=>by obtain⟨o,ρ,S,l,er,q⟩:=q;rw[Gx,ae]at q;obtain⟨ds,I,q⟩:=jB q;obtain⟨a,xs,Z,Y,u⟩:=gO er A I;obtain⟨k1,k2,k3⟩:=er.chg A I Z Y<|aq.nil;exact#[.ref a,Z,.inl #[rfl,_,d8.of Y],a,xs,rfl,rfl,Y,q _ _ #[#[o,l,k1,λb z=>.inl z],k2,k3]]
theorem Pn{st:Stmt}(A:cL Γ i=J')(h:PS X st (pd<|K8 X.K "list" tR<|eU i)):PS X st (iY Φ Γ F W fF<|.rvs i):=bB h λD O H q=>by obtain⟨o,ρ,S,l,er,q⟩:=q;rw[yo,ae]at q;obtain⟨ds,I,q⟩:=jB q;obtain⟨a,xs,Z,Y,u⟩:=gO er A I;obtain⟨k1,k2,k3⟩:=er.chg A I Z Y u.reverse;exact#[.ref a,Z,.inl #[rfl,_,d8.of Y],a,xs,rfl,rfl,Y,q _ _ #[#[o,l,k1,λb z=>.inl z],k2,k3]]
theorem Lv{st:Stmt}(A:cL Γ i=J')(h:PS X st (nu (bE Φ Γ F g.fr v)<|Je (eU i) (bE Φ Γ F g.fr k) HQ)):PS X st (iY Φ Γ F W fF<|.vW i k v):=bB h λD O H q=>by
 obtain⟨o,ρ,S,l,er,q⟩:=q;obtain⟨gl,q⟩:=ay q;obtain⟨ds,I⟩:=qp gl;obtain⟨a,xs,Z,Y,u⟩:=gO er A I;rw[ae]at q;refine#[o,ρ,S,er,ag q λp _ q x H1 eo s=>?_];rw[ae]at q;refine#[.ref a,Z,o,ρ,p.2,s,ag q λP _ q y H2 r ec=>?_];obtain⟨t,q⟩:=ay q;rw[ae]at q;obtain⟨zf,B,q⟩:=jB q;rw[I]at B;cases B;obtain⟨E,J,K,l0,M⟩:=gO ec A I;rw[Z]at K;cases K;cases hd:P.1 with
 |int n=>
  rw[hd]at q r;simp only at q;cases hj:qq ds.length n with
  |none=>rw[hj]at q;exact q.elim
  |some j=>
   rw[hj]at q;have L:RV Φ.K o.A H2 x p.1:=by
    unfold bP at t;rw[XQ]at t;obtain⟨k1,k2,k3⟩:=eo.keep r.ext er.gv;rcases t with t|t
    ·exact k2<|W7 t
    ·exact k1.lx t
   refine#[a,J,n,j,rfl,r.val.int_inv,l0,by rw[M.length];exact hj,?_];obtain⟨k1,k2,k3⟩:=ec.chg A I Z l0<|M.set j L;exact q _ _<|SO.go (er.dA<|eo.ext.trans r.ext) (λb z=>.inl z) (ec.A3<|eo.ext.trans r.ext) #[#[o,l,k1,λb z=>.inl z],k2,k3]
 |_=>rw[hd]at q;exact q.elim
theorem Pk{st:Stmt}(h:PS X st (pd<|bE Φ Γ F g.fr c)):PS X st (iY Φ Γ F W fF<|.LJ c):=bB h λD O H q=>by obtain⟨o,ρ,S,l,er,q⟩:=q;rw[Gy,ae]at q;exact#[o,ρ,S,er,ag q λp _ q v j L s=>q _ _<|SO.gT l s L.ext]
theorem ER.h0(l:OI Φ W o)(er:ER Φ Γ o ρ S σ H)(h:H a=G'):Φ.H0 a=G':=by
 cases q:Φ.H0 a with
 |none=>rfl
 |some x=>
  by_cases u:Φ.d0=B' a
  ·obtain⟨y,m⟩:=er.al a<|er.da a<|l.d a u;rw[h]at m;cases m
  ·rw[er.ent.kp a x q u]at h;cases h
theorem Ic{st:Stmt}(r:fF=J'->fresh g.fr c=J')(h:PS X st (Lc<|bE Φ Γ F g.fr c)):PS X st (iY Φ Γ F W fF<|.ret c):=bB h λD O H q=>by
 obtain⟨o,ρ,S,l,er,q⟩:=q;rw[lA,ae]at q;refine#[o,ρ,S,er,ag q λp i q v j L s=>?_];have y:∀b,W b->o.wd b:=λb z=>.inl (by rw[l.w];exact z)
 refine q _ _ #[L.val.weak y,s.ent,λa t=>s.drw a<|l.d a t,λm ds B=>?_];obtain⟨a,xs,Z,Y,u,Q,_⟩:=L.fH (r m) ds B;exact#[a,xs,Z,er.h0 l Y,u,Q.weak λb z=>z.imp (y b) id]
theorem Ls{st:Stmt}(A:cL Γ i=J')(s:Γ.κ≠B' i)(h:PS X st (Lc<|eU i)):PS X st (iY Φ Γ F W fF<|.ret<|.mvr i):=bB h λD O H q=>by
 obtain⟨o,ρ,S,l,er,q⟩:=q;rw[lA,qO,ae,ae]at q;obtain⟨d,hd,q⟩:=jq q;obtain⟨v,k1,k2⟩:=er.val i d hd;rw[Zn A]at k2;have hw:∀b,W b->o.wd b:=λb z=>.inl (by rw[l.w];exact z)
 have c:∀b,W b->o.A b:=λb z=>er.wa b (by rw[l.w];exact z)
 refine#[v,k1,q _ _ #[(k2.val (er.nd hd s) er.wa er.da).weak hw,er.ent,λa t=>er.drw a<|l.d a t,λm ds ed=>?_]];subst ed;obtain⟨a,xs,B,E,J,n,e5,r,k⟩:=k2;exact#[a,xs,B,r,E,k.weak λb z=>z.elim (c b) λy=>by rw[y];exact J]
theorem Lu{st:Stmt}(h:PS X st HY):PS X st (iY Φ Γ F W fF .retN):=bB h λD O H q=>by obtain⟨o,ρ,S,l,er,q⟩:=q;exact q _ _ #[RV.qy,er.ent,λa t=>er.drw a<|l.d a t,λ_ ds B=>by cases B]
theorem Lr{st:Stmt}(h:PS X st Dw):PS X st (iY Φ Γ F W fF .Kl):=bB h λD O H q=>by obtain⟨o,ρ,S,l,er,q⟩:=q;exact q _ _<|SO.gT l er aZ.refl
theorem Ph{st:Stmt}(h:PS X st Ds):PS X st (iY Φ Γ F W fF .brk):=bB h λD O H q=>by obtain⟨o,ρ,S,l,er,q⟩:=q;exact q _ _<|SO.gT l er aZ.refl
theorem Pj{st:Stmt}(h:PS X st HU):PS X st (iY Φ Γ F W fF .cnt):=bB h λD O H q=>by obtain⟨o,ρ,S,l,er,q⟩:=q;exact q _ _<|SO.gT l er aZ.refl
theorem dO.go(e:aZ o.A H H1)(c:∀b,o'.A b->o.A b\/H b=G')(g:∀b x,H b=B' x->∃y,H1 b=B' y)
  (P:∀a L,D.nx a L->D'.nx a L) (M:∀a L,D.bk a L->D'.bk a L) (K:∀a L,D.ct a L->D'.ct a L) (I:∀v L,D.rt v L->D'.rt v L) (h:dO Φ Γ W fF o H D p):dO Φ Γ W fF o' H1 D' p:=by
 unfold dO at h ⊢;cases J:p.1 with
 |next=>rw[J]at h;exact λa L m=>P _ _<|h a L<|SO.go e c g m
 |brk=>rw[J]at h;exact λa L m=>M _ _<|h a L<|SO.go e c g m
 |cnt=>rw[J]at h;exact λa L m=>K _ _<|h a L<|SO.go e c g m
 |ret d=>rw[J]at h;exact λv L ro=>I _ _<|h v L ro
theorem DP:rG X [] (k6 Φ Γ F W fF .nil):=yd Gb λD O H q=>by obtain⟨o,ρ,S,l,er,q⟩:=q;exact q _ _<|SO.gT l er aZ.refl
theorem G8{st:Stmt}(Z:PS X st (iY Φ Γ F W fF t))(Y:rG X nJ (k6 Φ Γ F W fF ts)):rG X (st::nJ) (k6 Φ Γ F W fF<|.cons t ts):=yd (tI Z Y) λD O H q=>by
 obtain⟨o,ρ,S,l,er,q⟩:=q;rw[bp,ae]at q;refine#[o,ρ,S,l,er,ag q λp _ q=>?_];unfold dO;cases J:p.1 with
 |next=>rw[J]at q;intro K j m;obtain⟨⟨o1,b,s,a⟩,B,E⟩:=m;exact#[o1,p.2.1,p.2.2,b,s,ag q λP _ q=>dO.go B a E (λ_ _ z=>z) (λ_ _ z=>z) (λ_ _ z=>z) (λ_ _ z=>z) q]
 |brk=>rw[J]at q;exact q
 |cnt=>rw[J]at q;exact q
 |ret d=>rw[J]at q;exact q
theorem Pm{st:Stmt}(h:PS X st (OZ (fE Φ Γ F t) (k6 Φ Γ F W fF a)<|k6 Φ Γ F W fF b)):PS X st (iY Φ Γ F W fF<|.ifs t a b):=bB h λD O H q=>by
 obtain⟨o,ρ,S,l,er,q⟩:=q;rw[qQ,ae]at q;refine#[o,ρ,S,er,ag q λp _ q j B s=>?_];have go:∀{ts:Ts},mR Φ.Ek (aO F ts ρ p.2) (dO Φ Γ W fF o H D)->k6 Φ Γ F W fF ts D O j:=λq=>#[o,ρ,p.2,l,s,ag q λP _ q=>dO.go (er.dA B) (λb z=>.inl z) (s.A3 B) (λ_ _ z=>z) (λ_ _ z=>z) (λ_ _ z=>z) (λ_ _ z=>z) q]
 cases J:p.1 with
 |true=>rw[J]at q;exact NN<|go q
 |false=>rw[J]at q;exact NM<|go q
theorem Pl{st:Stmt}(K:Φ.K=X.K)(hp:∀i∈cq tg,plainS Γ i=J')(h:PS X st (OY (rf Φ Γ F it) (L7 X.K tg)<|k6 Φ Γ F W fF b)):PS X st (iY Φ Γ F W fF<|.fr tg it b):=bB h λD O H q=>by
 obtain⟨o,ρ,S,l,er,q⟩:=q;rw[qP,ae]at q;refine#[o,ρ,S,er,ag q λp _ q J j A s=>?_];obtain⟨t,q⟩:=ay q;have r:=(X6.mp t).elim (λz=>A.w0<|W7 z) A.w2;refine#[λi m c n=>m=p.1.length-i/\i<=p.1.length/\∃Y v S2,OI Φ W Y/\ER Φ Γ Y v S2 c n/\aZ o.A j n/\(∀b,Y.A b->o.A b\/j b=G')/\(∀b x,j b=B' x->∃y,n b=B' y)/\mR Φ.Ek (forL tg (aO F b) (p.1.drop i) v S2) (dO Φ Γ W fF o H D),
  #[_,rfl,Y5 _,o,ρ,p.2,l,s,aZ.refl,λb z=>.inl z,λb x L=>#[x,L],q],?_]
 rintro i m c n ⟨rfl,hi,Y,v,S2,Qm,ec,E,MR,Th,q⟩;have eH:=(er.dA A.ext).trans E;have aH:∀b x,H b=B' x->∃y,n b=B' y:=λb x L=>by obtain⟨y,hy⟩:=s.A3 A.ext b x L;exact Th b y hy
 have A1:∀b,Y.A b->o.A b\/H b=G':=λb z=>(MR b z).imp id λq=>by
  cases M:H b with
  |none=>rfl
  |some x=>obtain⟨y,hy⟩:=s.A3 A.ext b x M;rw[q]at hy;cases hy
 by_cases df:i<p.1.length
 ·refine .inr #[r.go i n df E,?_];have hd:∃d,p.1[i]?=B' d:=#[p.1[i],by simp[df]];obtain⟨d0,u⟩:=hd;have Q1:p.1.drop i=d0::p.1.drop (i+1):=by rw[Yl df];congr 1;exact(W8.mp u).2
  rw[Q1]at q;unfold forL at q;rw[ae]at q;obtain⟨g,hρ,q⟩:=sS (tU _ _ _) q;rw[ae]at q;refine#[λσ3 Z=>i+1<=p.1.length/\∃Q g S3,OI Φ W Q/\ER Φ Γ Q g S3 σ3 Z/\aZ o.A j Z/\(∀b,Q.A b->o.A b\/j b=G')/\(∀b x,j b=B' x->∃y,Z b=B' y)/\mR Φ.Ek (forL tg (aO F b) (p.1.drop<|i+1) g S3) (dO Φ Γ W fF o H D),λσ3 Z z=>#[p.1.length-(i+1),by omega,rfl,z],λx Z y=>?_];obtain⟨w,d,hd,L⟩:=r.yld i x n Z df E y;rw[u]at hd;cases hd;have I:=L Y.A MR;rw[<-K];refine Dy (ec.grow w) hp I hρ λσ4 Q4 _=>?_
  refine#[Y,g,S2,Qm,Q4,ag q λP _ q=>?_];have B:∀{k:L2.St}{a:Hp},SO Φ Γ W Y Z P.2.1 P.2.2 k a->mR Φ.Ek (forL tg (aO F b) (p.1.drop<|i+1) P.2.1 P.2.2) (dO Φ Γ W fF o H D)->i+1<=p.1.length/\∃Q g S3,OI Φ W Q/\ER Φ Γ Q g S3 k a/\aZ o.A j a/\(∀b,Q.A b->o.A b\/j b=G')/\(∀b x,j b=B' x->∃y,a b=B' y)/\mR Φ.Ek (forL tg (aO F b) (p.1.drop<|i+1) g S3) (dO Φ Γ W fF o H D):=λ {k a} so q=>by have Wo:=SO.go (E.trans<|aZ.of_same w) MR (λb x L=>by obtain⟨y,hy⟩:=Th b x L;exact#[y,w _ _ hy]) so;obtain⟨⟨o5,Wi,PZ,Va⟩,e5,a5⟩:=Wo;exact#[df,o5,_,_,Wi,PZ,e5,Va,a5,q]
  unfold dO;cases l8:P.1 with
  |next=>rw[l8]at q;exact λk a so=>B so q
  |cnt=>rw[l8]at q;exact λk a so=>B so q
  |brk=>rw[l8]at q;intro k a so;exact q k a<|SO.go (eH.trans<|aZ.of_same w) A1 (λb x L=>by obtain⟨y,hy⟩:=aH b x L;exact#[y,w _ _ hy]) so
  |ret d=>rw[l8]at q;exact q
 ·have e:i=p.1.length:=by omega
  subst e;rw[List.drop_length]at q;exact .inl #[r.stop n E,q _ _ #[#[Y,Qm,ec,A1],eH,aH]]
end
def mP(g:G)(Γ:Gm):Expr->Option (List Nat)
 |.Constant (.str x) _ _=>if x.length<=1000 then B' [] else G'
 |.FormattedValue (.Name x _) (-1) G' _=>if du x then(match slot Γ x with
  |some i=>B' [i]
  |none=>if xc (Γ.names.lookup x) then(match g.cons.lookup x with
   |some (.int n)=>if 0<=n/\n<10^19 then B' [] else G'
   |_=>G') else G') else G'
 |_=>G'
def Sa(g:G)(Γ:Gm):List Expr->Option (List Nat)
 |[]=>B' []
 |e::es=>(mP g Γ e).bind λa=>(Sa g Γ es).bind λb=>B'<|a++b
def mS(g:G)(Γ:Gm):Expr->Option (List Nat)
 |.Constant (.str _) _ _=>B' []
 |.JoinedStr (e1::e2::es) _=>if (e1::e2::es).length<=100 then Sa g Γ (e1::e2::es) else G'
 |_=>G'
def pV(c:List Nat)(O:L2.St):Prop:=∀i∈c,∃n:Nat,O[i]?=B' (B'<|.int n)/\n<10^19
section
variable{g:G}{xv:Nat->Value}{CX:nK}{k:Nat}{F:FT}{X:Cx}{Φ:Fm}{Γ:Gm}{W:Addr->Prop}{fF:Bool}
theorem Fz(h:mS g Γ e=B' vs)(env):starEach [e] env=[(K',eval e env)]:=by unfold mS at h;split at h<;>first|rfl|cases h
theorem Ku(l:GX g Γ X)(h:mP g Γ e=B' c)(w:∀i∈c,i∈us):Me X e (pV us):=by
 unfold mP at h;split at h
 ·split at h
  ·rename_i W;exact F3 W
  ·cases h
 ·split at h
  ·rename_i B;obtain⟨n1,n2,n3⟩:=aT B;split at h
   ·rename_i i hi;cases h;obtain⟨k,Z,a⟩:=dz hi;intro S s O H Q I J q;exact F4 (by rw[l.N];exact a) (l.vis _ k) n1 n2 S s O H Q I (J i<|w i<|by simp) q
   ·split at h
    ·rename_i j;split at h
     ·rename_i n K;split at h
      ·rename_i P;obtain⟨u,_,Y,h3⟩:=l.con _ _ K;obtain⟨m,rfl⟩:=Int.eq_ofNat_of_zero_le P.1;exact CK (l.gl _ j) Y h3 ⋯ n1
      ·cases h
     ·cases h
    ·cases h
  ·cases h
 ·cases h
theorem CM(l:GX g Γ X):∀{es:List Expr}{c:List Nat},Sa g Γ es=B' c->(∀i∈c,i∈us)->Mf X es (pV us)
 |[],c,_,_=>F7
 |e::es,c,h,w=>by obtain⟨a,Z,h⟩:=W2.mp h;obtain⟨b,Y,h⟩:=W2.mp h;cases h;refine CL (Ku l Z λi hi=>w i<|YE _ hi) (CM l Y λi hi=>w i<|XC _ hi) ?_;unfold mP at Z;split at Z<;>first|rfl|cases Z
theorem Og(l:GX g Γ X)(h:mS g Γ e=B' vs):PM X e (pV vs):=by
 unfold mS at h;split at h
 ·exact Kt
 ·split at h
  ·rename_i W;exact zO (CM l h λi hi=>hi) W
  ·cases h
 ·cases h
theorem Ly(h:B7 c (g.xs.map (·.1))=B' k0):∃ts,g.xs[k0]?=B' (c,ts):=by have:=lh h;rw[Xp]at this;obtain⟨⟨a,ts⟩,Z,Y⟩:=Xl.mp this;cases Y;exact#[ts,Z]
theorem Tc(r:HX g xv CX k F Φ X)(l:GX g Γ X)(L:g.xs[k0]?=B' (c,ts))(j:Gl X c)(y:(c==("__debug__":Str))=K')(P:PM X arg (pV vs))(oJ:starEach [arg] X.env=[(K',eval arg X.env)]):
  PS X (.Raise (B'<|.Call (.Name c np) [arg] [] c7) G' pos) (iY Φ Γ F W fF<|.rs k0 vs):=by
 intro M' s O H D I q;obtain⟨o,ρ,S,oi,er,q⟩:=q;obtain⟨A,q⟩:=ay q;obtain⟨C,B,E,J,_⟩:=r.xk _ _ _ L;refine CP (I.ok.hd l.calm) r.st.pn j E J r.xgx P oJ y M' s O H D I #[λi hi=>?_,k0,B.symm,q,er.ent];have:=XI.mp A i hi;unfold FB at this;split at this
 ·rename_i n hn;rw[W5]at this;obtain⟨m,rfl⟩:=Int.eq_ofNat_of_zero_le<|W7 this.1;obtain⟨v,Z,Y⟩:=er.val i _ hn;have u:RV Φ.K o.A H v (.int (m:Int)):=by split at Y<;>exact Y
  rw[u.int_inv]at Z;exact#[m,Z,by have:=W7 this.2;omega]
 ·cases this
end
section
variable{X:Cx}{Φ:Fm}{Γ:Gm}{F:FT}{g:G}{W:Addr->Prop}{fF:Bool}{o:Ow}{ρ:aj}{S:Sx}{σ:L2.St}{H:Hp}
theorem ER.newD(l:OI Φ W o)(er:ER Φ Γ o ρ S σ H)(A:cL Γ i=J')(s:Γ.κ=B' i)(I:Γ.δ≠B' i)(Z:H a=G'):
  SO Φ Γ W o H (ρ.set i<|B'<|.c8 [] []) S (σ.set i<|B'<|.ref a) (upd H a<|Mx.dg Φ.P Φ.w a []):=by
 have sm:=Mx.cA Z<|Mx.dg Φ.P Φ.w a [];have v:¬o.A a:=λz=>by obtain⟨y,hy⟩:=er.al a z;rw[Z]at hy;cases hy
 have h0:Φ.H0 a=G':=by
  cases q:Φ.H0 a with
  |none=>rfl
  |some x=>
   by_cases rz:Φ.d0=B' a
   ·exact absurd (er.da a<|l.d a rz) v
   ·rw[er.ent.kp a x q rz]at Z;cases Z
 have Q:∀b,(o.A b\/b=a)->o.A b\/H b=G':=λb z=>z.elim .inl λe=>.inr (by rw[e];exact Z)
 refine#[#[#[o.W,λb=>o.A b\/b=a,o.dr],#[l.w,l.d],#[?_,λb z=>.inl<|er.wa b z,λb z=>.inl<|er.da b z,λb z=>?_,λj e P=>?_,λj O vs F=>?_,λj j' b e K m t k1 k2 k3 g=>?_,λb M=>?_,er.drn,λj b F M=>?_,er.dr0,er.ent.trans<|aZ.of_same sm],Q],aZ.of_same sm,λb x h=>#[x,sm _ _ h]]
 ·rw[Yy,Yy];exact er.len
 ·rcases z with z|z
  ·obtain⟨x,L⟩:=er.al b z;exact#[x,sm _ _ L]
  ·rw[z];exact#[_,aB]
 ·by_cases F:j=i
  ·subst F;rw[Yq]at P;simp only[Zo]at P;split at P
   ·rename_i p;cases P;refine#[.ref a,by rw[XW (by rw[er.len];exact p)],?_];rw[Zn A];exact#[a,[],rfl,aB,.inr rfl,λz=>v<|er.wa a z,λz=>v<|er.da a z,h0,#[(λx L=>by cases L),List.nodup_nil,Y5 _],rfl,aq.nil]
   ·cases P
  ·rw[Xn (Y6 F)]at P;obtain⟨w,k1,k2⟩:=er.val j e P;refine#[w,by rw[Xn (Y6 F)];exact k1,?_];by_cases u:cL Γ j=J'
   ·rw[Zn u]at k2 ⊢;cases e with
    |lst es=>obtain⟨b,ys,B,E,J,n,X,r,e7⟩:=k2;exact#[b,ys,B,sm _ _ E,.inl J,n,X,r,(e7.bF Q).same sm]
    |c8 O vs=>obtain⟨b,ys,B,E,J,n,X,r,e8,e9,e7⟩:=k2;exact#[b,ys,B,sm _ _ E,.inl J,n,X,r,dI.tups e8 λc zs z=>sm _ _ z,e9,(e7.bF Q).same sm]
    |_=>exact(RV.bF Q k2).same sm
   ·rw[Zm u]at k2 ⊢;exact(k2.bF Q).same sm
 ·by_cases hj':j=i
  ·rw[hj'];exact s
  ·rw[Xn (Y6 hj')]at F;exact er.dk j O vs F
 ·have k:∀{j:Nat}{e:List Dt},(ρ.set i<|B'<|.c8 [] [])[j]?=B' (B'<|.lst e)->j≠i:=λ {j e} k1 z=>by subst z;rw[Yq]at k1;simp only[Zo]at k1;split at k1<;>cases k1
  have n1:=k k1;have n2:=k k2;rw[Xn (Y6 n1)]at k1 k3;rw[Xn (Y6 n2)]at k2 g;exact er.inj j j' b e K m t k1 k2 k3 g
 ·obtain⟨ns,B,E⟩:=er.drw b M;exact#[ns,B,sm _ _ E]
 ·rw[Xn (λz=>I<|by rw[z];exact F)];exact er.drs j b F M
theorem Lp{st:Stmt}(hP:Φ.P=X.prog)(y:Φ.w=X.w)(A:cL Γ i=J')(s:Γ.κ=B' i)(I:Γ.δ≠B' i)(h:PS X st (nu (Mx.HW X.prog X.w)<|eX i)):PS X st (iY Φ Γ F W fF<|.zc i):=bB h λD O H q=>by obtain⟨o,ρ,S,l,er,q⟩:=q;rw[tP]at q;intro a t;rw[<-hP,<-y];exact q _ _<|ER.newD l er A s I t
theorem ER.QU(er:ER Φ Γ o ρ S σ H)(A:cL Γ i=J')(I:ρ[i]?=B' (B' (.c8 ks vs)))(hs:σ[i]?=B' (B' (.ref a)))(L:H a=B' (Mx.dg Φ.P Φ.w a xs))(g:Mx.dI H kr)(hy:aq Φ.K o.A H (kr.map (·.2.2)) oh):
  ER Φ Γ o (ρ.set i (B' (.c8 (kr.map λx=>ofD x.1) oh))) S σ (upd H a (Mx.dg Φ.P Φ.w a kr))/\aZ o.A H (upd H a (Mx.dg Φ.P Φ.w a kr))/\∀b x,H b=B' x->∃y,upd H a (Mx.dg Φ.P Φ.w a kr) b=B' y:=by
 obtain⟨v,Z,Y⟩:=er.val i _ I;rw[Zn A]at Y;rw[hs]at Z;cases Z;obtain⟨b,zs,B,E,J,e4,X,r,l,p,e7⟩:=Y;cases B;have s:=er.dk i ks vs I;have up:aZ (λb=>b=a) H (upd H a (Mx.dg Φ.P Φ.w a kr)):=#[λb o h n=>by rw[ax n];exact h,λb zs h=>by rw[ax (λz=>by rw[z,L]at h;cases h)];exact h];have sub:∀b,b=a->o.A b:=λb z=>by rw[z];exact J
 refine#[#[by rw[Yy];exact er.len,er.wa,er.da,λb M=>?_,λj d hd=>?_,λj dM vs'' F=>?_,λj W b d d' m t k1 k2 k3 k4=>?_,λb M=>?_,er.drn,er.drs,er.dr0,?_],up.mono sub,rh]
 ·obtain⟨x,L⟩:=er.al b M;exact rh b x L
 ·by_cases F:j=i
  ·subst F;rw[Yq]at hd;simp only[Zo]at hd;split at hd
   ·cases hd;refine#[.ref a,hs,?_];rw[Zn A];exact#[a,kr,rfl,aB,J,e4,X,r,dI.tups g up.tp,rfl,hy.mono up sub λ_ z=>z]
   ·cases hd
  ·rw[Xn (Y6 F)]at hd;obtain⟨w,k1,k2⟩:=er.val j d hd;refine#[w,k1,?_];by_cases u:cL Γ j=J'
   ·rw[Zn u]at k2 ⊢;cases d with
    |lst dl=>obtain⟨b,Pq,n1,P,n3,K,O,n6,Q⟩:=k2;exact#[b,Pq,n1,up.kp _ _ P (λz=>by rw[z,L]at P;cases P),n3,K,O,n6,Q.mono up sub λ_ z=>z]
    |c8 q vs2=>have:=er.dk j q vs2 hd;rw[s]at this;cases this;exact absurd rfl F
    |_=>exact RV.mono up sub (λ_ z=>z) k2
   ·rw[Zm u]at k2 ⊢;exact k2.mono up sub λ_ z=>z
 ·by_cases c:j=i
  ·rw[c];exact s
  ·rw[Xn (Y6 c)]at F;exact er.dk j _ _ F
 ·have k:∀{j:Nat}{e:List Dt},(ρ.set i (B' (.c8 (kr.map λx=>ofD x.1) oh)))[j]?=B' (B' (.lst e))->j≠i:=λ {j e} k1 z=>by subst z;rw[Yq]at k1;simp only[Zo]at k1;split at k1<;>cases k1
  rw[Xn (Y6 (k k1))]at k1;rw[Xn (Y6 (k k2))]at k2;exact er.inj j W b d d' m t k1 k2 k3 k4
 ·obtain⟨ns,n1,P⟩:=er.drw b M;exact#[ns,n1,up.kp _ _ P λz=>X (by rw[<-z];exact M)]
 ·refine#[λb x h n=>up.kp _ _ (er.ent.kp b x h n) λz=>?_,λb xs h=>up.tp _ _ (er.ent.tp b xs h)];subst z;rw[h]at r;cases r
theorem wO{K:Frag}(X:RV K A H u v):∀{xs:Mx.Ent}{c:List Dt},aq K A H (xs.map (·.2.2)) c->
  aq K A H ((xs.map λx=>if x.1=d then(x.1,x.2.1,u) else x).map (·.2.2)) (ze d v (xs.map λx=>ofD x.1) c)
 |[],c,h=>by cases c<;>exact h
 |x::xs,[],h=>by unfold aq at h;exact h.elim
 |x::xs,y::c,h=>by
  unfold aq at h;have ih:=wO (d:=d) X h.2;simp only[XT,ze,v9,Option.some.injEq];unfold aq;refine#[?_,ih];by_cases e:x.1=d
  ·rw[Zn e,Zn e];exact X
  ·rw[Zm e,Zm e];exact h.1
theorem Gg{K:Frag}(X:RV K A H u v)(n:aq K A H (xs.map (·.2.2)) vs)(g:Mx.dI H xs)(hd:Mx.DV H b d)(E:Mx.D.dep d<=8)(W:xs.length<lim):
  ∃J,(if (Bd d (xs.map λx=>ofD x.1) vs).isSome then Dt.c8 (xs.map λx=>ofD x.1) (ze d v (xs.map λx=>ofD x.1) vs) else .c8 ((xs.map λx=>ofD x.1)++[ofD d]) (vs++[v]))= .c8 ((Mx.mI xs d b u).map λx=>ofD x.1) J/\
   aq K A H ((Mx.mI xs d b u).map (·.2.2)) J/\Mx.dI H (Mx.mI xs d b u):=by
 unfold Mx.mI;rcases p5 d n with ⟨I,r⟩|⟨w,e,I,r,g3⟩
 ·rw[I,r];refine#[vs++[v],?_,?_,#[λx L=>?_,?_,?_]]
  ·simp
  ·simp only[Option.isSome_none,X2,Zl,XU];exact n.append<|aq.cons X aq.nil
  ·simp only[Option.isSome_none,X2,Zl,Xs,XF]at L;rcases L with L|rfl
   ·exact g.key x L
   ·exact#[hd,E]
  ·simp only[Option.isSome_none,X2,Zl,XU,XT,YD];refine List.nodup_append.mpr #[g.nd,by simp,λa t h M=>?_];cases XF.mp M;obtain⟨x,L,rfl⟩:=XH.mp t;intro z;unfold Mx.rm at I;rw[Option.map_eq_none_iff,List.find?_eq_none]at I;exact I x L (by simpa using z)
  ·simp only[Option.isSome_none,X2,Zl,Xm,Yz];have:=Zu;unfold lim at W
   lia
 ·rw[I,r];simp only[Option.isSome_some,Zo];have c:∀x:Mx.D×V×V,(if x.1=d then(x.1,x.2.1,u) else x).1=x.1/\(if x.1=d then(x.1,x.2.1,u) else x).2.1=x.2.1:=λx=>by split<;>exact#[rfl,rfl]
  refine#[_,?_,wO X n,#[λx L=>?_,?_,?_]]
  ·rw[YC];congr 1;exact YB λx _=>by show ofD x.1=ofD _;rw[(c x).1]
  ·obtain⟨y,m,rfl⟩:=XH.mp L;rw[(c y).1,(c y).2];exact g.key y m
  ·rw[YC];have:xs.map ((λx=>x.1) ∘ λx=>if x.1=d then(x.1,x.2.1,u) else x)=xs.map (·.1):=YB λx _=>(c x).1
   rw[this];exact g.nd
  ·rw[Xf];exact g.len
theorem Lq{st:Stmt}(hP:Φ.P=X.prog)(hw:Φ.w=X.w)(A:cL Γ i=J')(h:PS X st (nu (bE Φ Γ F g.fr v)<|Je (eU i) (bE Φ Γ F g.fr k)<|Mx.HP X.prog X.w)):PS X st (iY Φ Γ F W fF<|.dset i k v):=bB h λD O H q=>by
 obtain⟨o,ρ,S,l,er,q⟩:=q;rw[tQ]at q;obtain⟨gd,q⟩:=ay q;obtain⟨ks,c,I⟩:=lb gd;obtain⟨a,W0,Z,_⟩:=gX er A I;rw[ae]at q;refine#[o,ρ,S,er,ag q λp _ q x j eo s=>?_];rw[ae]at q;refine#[.ref a,Z,o,ρ,p.2,s,ag q λP _ q y n r ec=>?_];rw[fO I,R.ah]at q;obtain⟨gl,q⟩:=ay q;rw[ae]at q;obtain⟨a',xs,K,Y,u,Q,h5⟩:=gX ec A I;rw[Z]at K;cases K;unfold wQ at q;simp only at q;cases Hu:zy P.1 with
 |none=>rw[Hu]at q;exact q.elim
 |some d=>
  rw[Hu]at q;dsimp only at q;obtain⟨gn,q⟩:=ay q;rw[W5]at gn;obtain⟨gs,gn⟩:=gn;obtain⟨ek,kO⟩:=xG Hu;have m:Mx.DV n y d:=by have:=r.val;rw[ek]at this;exact this.dv
  have uF:Mx.Mc d xs:=by
   rw[Q]at gs;cases d with
   |tup ds=>exact .inl #[#[ds,rfl],wV gs]
   |str t=>exact .inr #[#[t,rfl],wU gs]
   |int i=>cases gs
  have L:RV Φ.K o.A n x p.1:=(eo.mX<|W7 gl).mono r.ext er.da λ_ z=>z
  rw[Q]at q gn;rw[Xf]at gn;obtain⟨oh,B,E,J⟩:=Gg (b:=y) L h5 u m kO<|W7 gn;rw[ek,B]at q;have Nr:ρ[i]?=B' (B'<|.c8 ks c):=I;obtain⟨c1,c2,w⟩:=ER.QU ec A I Z Y J E;refine#[a,xs,d,rfl,by rw[<-hP,<-hw];exact Y,u,m,kO,uF,?_];rw[<-hP,<-hw];have ee:=eo.ext.trans r.ext;exact q _ _ #[#[o,l,c1,λb z=>.inl z],(ee.mono er.da).trans c2,λb' x' M=>by
   obtain⟨y',RY⟩:=ec.A3 ee b' x' M;exact w _ _ RY]
end
def ma:Expr->Bool
 |.ListComp ..=>J'
 |.SetComp ..=>J'
 |.DictComp ..=>J'
 |_=>K'
def IJ(n:Nat)(g:G)(Γ:Gm)(i:Nat)(e:Expr):Option T:=match e with
 |.Name y p=>match slot Γ y with
  |some j=>if cL Γ j then G' else(cE n g Γ<|.Name y p).bind λc=>B'<|.asg i c
  |none=>(cE n g Γ<|.Name y p).bind λc=>B'<|.asg i c
 |e=>(cE n g Γ e).bind λc=>B'<|if fresh g.fr c&&lk c != 0 then .asgM i c else .asg i c
def IM(n:Nat)(g:G)(Γ:Gm)(fF:Bool)(e:Expr):Option T:=match e with
 |.Name y p=>match slot Γ y with
  |some j=>if cL Γ j then(if Γ.δ==B' j||Γ.κ==B' j then G' else B' (.ret<|.mvr j)) else(cE n g Γ<|.Name y p).bind λc=>if fF then G' else B' (.ret c)
  |none=>(cE n g Γ<|.Name y p).bind λc=>if fF then G' else B' (.ret c)
 |e=>(cE n g Γ e).bind λc=>if !fF||fresh g.fr c then B' (.ret c) else G'
def Ot(n:Nat)(g:G)(Γ:Gm)(dp:Bool)(SZ:List Expr)(e:Expr):Option T:=match SZ with
   |[.Name x _]=>(fD Γ x).bind λi=>
     if Γ.δ==B' i then(if dp then G' else(cE n g Γ e).bind λc=>if fresh g.fr c&& !cL Γ i then B' (.asgD i c) else G')
     else if cL Γ i then(if Γ.κ==B' i then(match e with|.Dict [] [] _=>B' (.zc i)|_=>G') else(cE n g Γ e).bind λc=>if fresh g.fr c then B' (.asgM i c) else G')
     else IJ n g Γ i e
   |[.Subscript (.Name x _) k _]=>(slot Γ x).bind λi=>if cL Γ i then(cE n g Γ e).bind λv'=>(cE n g Γ k).bind λk'=>if Γ.κ==B' i then B' (.dset i k' v') else B' (.vW i k' v') else G'
   |_=>G'
def Ov(n:Nat)(g:G)(Γ:Gm)(ex:Expr):Option T:=match ex with
   |.Call (.Attribute (.Name x _) m ap) [a] [] cp=>(slot Γ x).bind λi=>if cL Γ i&&ap.endLine==cp.line then(cE n g Γ a).bind λa'=>
     (if m==("append":Str) then B' (.app i a') else if m==("extend":Str) then B' (.xtd i a') else G') else G'
   |.Call (.Attribute (.Name x _) m ap) [] [] cp=>(slot Γ x).bind λi=>if cL Γ i&&ap.endLine==cp.line&&m==("clear":Str) then B' (.clr i) else if cL Γ i&&ap.endLine==cp.line&&m==("reverse":Str) then B' (.rvs i) else G'
   |e=>if ma e then G' else(cE n g Γ e).bind λc=>B'<|.LJ c
inductive PJ where
 |ret (v:Option Expr) (p:Pos)|asg (ts:List Expr) (e:Expr) (p:Pos)
 |fr (tg it:Expr) (b ux:List Stmt) (p:Pos)|wh (t:Expr) (b ux:List Stmt) (p:Pos)|ifs (t:Expr) (a b:List Stmt) (p:Pos)
 |rs (a b:Option Expr) (p:Pos)|tr (b:List Stmt) (hs:List ExceptHandler) (ux fin:List Stmt) (p:Pos)|ex (e:Expr) (p:Pos)
 |Kl (p:Pos)|brk (p:Pos)|cnt (p:Pos)|Cr
def PJ.st:PJ->Option Stmt
 |.ret v p=>B'<|.Return v p
 |.asg ts e p=>B'<|.Assign ts e p
 |.fr tg it b ux p=>B'<|.For tg it b ux p
 |.wh t b ux p=>B'<|.While t b ux p
 |.ifs t a b p=>B'<|.If t a b p
 |.rs a b p=>B'<|.Raise a b p
 |.tr b hs ux fin p=>B'<|.Try b hs ux fin p
 |.ex e p=>B'<|.Expr e p
 |.Kl p=>B'<|.Pass p
 |.brk p=>B'<|.Break p
 |.cnt p=>B'<|.Continue p
 |.Cr=>G'
def GP:Stmt->PJ
 |.Return v p=>.ret v p
 |.Assign ts e p=>.asg ts e p
 |.For tg it b ux p=>.fr tg it b ux p
 |.While t b ux p=>.wh t b ux p
 |.If t a b p=>.ifs t a b p
 |.Raise a b p=>.rs a b p
 |.Try b hs ux fin p=>.tr b hs ux fin p
 |.Expr e p=>.ex e p
 |.Pass p=>.Kl p
 |.Break p=>.brk p
 |.Continue p=>.cnt p
 |_=>.Cr
theorem K7(st):(GP st).st=G'\/(GP st).st=B' st:=by cases st<;>first|exact .inr rfl|exact .inl rfl
theorem mY{st s:Stmt}(h:GP st=v)(e:v.st=B' s):st=s:=by rw[<-h]at e;exact(K7 st).elim (λk=>by rw[k]at e;cases e) λk=>Y7<|k.symm.trans e
mutual
noncomputable def cS:Nat->G->Gm->Bool->Bool->Stmt->Option T
 |0,_,_,_,_,_=>G'
 |n+1,g,Γ,dp,fF,st=>match GP st with
  |.asg SZ e _=>Ot n g Γ dp SZ e
  |.ex ex _=>Ov n g Γ ex
  |.ret v _=>match v with
   |some e=>IM n g Γ fF e
   |none=>B' .retN
  |.ifs t a b _=>(cE n g Γ t).bind λt'=>(Hc n g Γ dp fF a).bind λa'=>(Hc n g Γ dp fF b).bind λb'=>B'<|.ifs t' a' b'
  |.fr tg it b ux _=>match ux with
   |[]=>(cI n g Γ tg it).bind λiR=>(Er Γ tg).bind λDx=>(Hc n g Γ dp fF b).bind λb'=>B'<|.fr Dx iR b'
   |_=>G'
  |.wh _ _ _ _=>G'
  |.rs ra rb _=>match ra,rb with
   |some (.Call (.Name c _) [arg] [] _),G'=>if xc (Γ.names.lookup c)&&du c then(B7 c (g.xs.map (·.1))).bind λk=>(mS g Γ arg).bind λvs=>B' (.rs k vs) else G'
   |_,_=>G'
  |.brk _=>B' .brk
  |.cnt _=>B' .cnt
  |.Kl _=>B' .Kl
  |.tr _ _ _ _ _=>G'
  |.Cr=>G'
noncomputable def Hc:Nat->G->Gm->Bool->Bool->List Stmt->Option Ts
 |0,_,_,_,_,_=>G'
 |n+1,g,Γ,dp,fF,nJ=>match nJ with
  |[]=>B' .nil
  |st::nJ=>(cS n g Γ dp fF st).bind λt=>(Hc n g Γ dp fF nJ).bind λts=>B'<|.cons t ts
end
section
variable{g:G}{xv:Nat->Value}{CX:nK}{k:Nat}{F:FT}{X:Cx}{Φ:Fm}{Γ:Gm}{W:Addr->Prop}
theorem nh(h:ma e=K')(t)(l)(env):swapsWith e t l env=pure K':=by cases e<;>first|rfl|(cases h)
theorem pb(O:∀x p,t≠ .Name x p)(l)(env):swapsWith e (B' t) l env=pure K':=by cases e<;>first|rfl|(cases t<;>first|rfl|exact absurd rfl<|O _ _)
theorem AZ(h:cE (n+1) g Γ (.ListComp elt gens sc c7)=B' c):sc.kind= .function/\Ej sc.names Γ.names (bU Γ sc).1.N Γ.N (bU Γ sc).2=J'/\(bU Γ sc).1.N.Nodup/\
  ((∃tg it a v m b K,gens=[#[tg,it,a,0]]/\cI n g Γ tg it=B' v/\Er (bU Γ sc).1 tg=B' m/\Hd n g (bU Γ sc).1 a=B' b/\cE n g (bU Γ sc).1 elt=B' K/\c= .comp (bU Γ sc).2 v m b K)):=by
 replace h:PL (λ_=>cE n) (λ_=>cI n) (λ_=>Hd n) n g Γ elt gens sc=B' c:=h
 unfold PL at h
 (try dsimp only at h)
 split at h
 ·rename_i hk;split at h
  ·rename_i tg it a;refine bx h λv Z h=>?_
   refine bx h λm Y h=>?_
   refine bx h λb u h=>?_
   refine bx h λK Q h=>?_
   split at h
   ·rename_i M;cases h;rw[W5]at M;exact#[Xt hk,M.1,W7 M.2,#[tg,it,a,v,m,b,K,rfl,Z,Y,u,Q,rfl]]
   ·cases h
  ·cases h
 ·cases h
theorem gQ(l:GX g Γ X)(r:HX g xv CX k F Φ X)(w:fD Γ x=B' i)(h:cE n g Γ e=B' c):PS X (.Assign [.Name x pos'] e pos) (nu (bE Φ Γ F g.fr c)<|eX i):=by
 have S:=jM n Γ X Φ l r;obtain⟨E,L,j⟩:=eE w;obtain⟨l1,l2⟩:=l.loc x E;have hN:=l.N▸l.nd;have hi:X.N[i]?=B' x:=by rw[l.N];exact j
 by_cases K:ma e=J'
 ·cases n with
  |zero=>simp[cE]at h
  |succ n=>
   cases e with
   |ListComp elt gens sc p=>
    have z:=(S.e _ _ h).1;obtain⟨hk,M,y,t⟩:=AZ h;cases o:(X.env.blockKind== .function&&X.env.kindOf x==B' .local&&pos'.line==(Expr.ListComp elt gens sc p).pos.line&& !(sc.names.any λ(n,k)=>n==x&&(k== .local||k== .cell))) with
    |false=>exact qL hN hi l1 z (by show pure (X.env.blockKind== .function&&X.env.kindOf x==B' .local&&pos'.line==(Expr.ListComp elt gens sc p).pos.line&& !(sc.names.any λ(n,k)=>n==x&&(k== .local||k== .cell)))=_;rw[o]) l2
    |true=>
     have W:X.env.kindOf x=B' .local:=by rw[W5,W5,W5]at o;exact Xt o.1.1.2
     have B:=AN l hk M;have S1:=jM n Γ X Φ l r;have J:=λC s H fp=>jM n (bU Γ sc).1 (j4 X sc (bU Γ sc).1.N C s H fp<|Ie X sc (bU Γ sc).1.N (Af Φ xv) C s H fp) Φ (qg l B y) (B1 r)
     obtain⟨tg,it,a,v,m,b,e',rfl,Z,Y,u,Q,rfl⟩:=t
     ·refine bB (tF l.calm hN hi W B (yL r.st r.xgx) (S1.i _ _ _ Z).1 (λA acc env=>ub ..) (λC s H fp=>K3 (qg l B y) Y) (λC s H fp=>(J C s H fp).ts _ _ u) (λC s H fp D=>xU ((J C s H fp).e _ _ Q).1) (vi (S1.i _ _ _ Z).2 _) ?_) λD O H q=>C7 r.K B y Y q
      show pure (X.env.blockKind== .function&&X.env.kindOf x==B' .local&&pos'.line==(Expr.ListComp elt [#[tg,it,a,0]] sc p).pos.line&& !(sc.names.any λ(n,k)=>n==x&&(k== .local||k== .cell)))=_;rw[o]
   |SetComp=>cases n<;>cases h
   |DictComp=>cases n<;>cases h
   |_=>cases K
 ·exact qL hN hi l1 (S.e _ _ h).1 (nh (by simpa using K) _ _ _) l2
structure QG(g:G)(F:FT)(n:Nat)(Γ:Gm)(X:Cx)(Φ:Fm)(W:Addr->Prop)(dp fF:Bool):Prop where
 s:∀st t,cS n g Γ dp fF st=B' t->PS X st (iY Φ Γ F W fF t)
 ss:∀nJ ts,Hc n g Γ dp fF nJ=B' ts->rG X nJ (k6 Φ Γ F W fF ts)
theorem iZ(l:GX g Γ X)(h:slot Γ x=B' i):PE X (.Name x p) (eU i):=by obtain⟨k,Z,a⟩:=dz h;obtain⟨w,P,s⟩:=aT Z;exact fX (by rw[l.N];exact a) (l.vis x k) w P
theorem Iu(l:GX g Γ X)(hX:HX g xv CX k F Φ X)(w:fD Γ x=B' i)(J:plainS Γ i=J')(h:IJ n g Γ i e=B' t):PS X (.Assign [.Name x pos'] e pos) (iY Φ Γ F W fF t):=by
 have KI:∀{e:Expr}{t:T},((cE n g Γ e).bind λc=>B'<|T.asg i c)=B' t->PS X (.Assign [.Name x pos'] e pos) (iY Φ Γ F W fF t):=λ {e t} h=>by
  refine wH t h λc Z=>?_
  exact Ib J (gQ l hX w Z)
 unfold IJ at h;split at h
 ·rename_i y p;split at h
  ·rename_i j hj;split at h
   ·cases h
   ·exact KI h
  ·exact KI h
 ·refine wH t h λc Z=>?_
  split
  ·rename_i r;rw[W5]at r;exact Lo J r.1<|gQ l hX w Z
  ·exact Ib J<|gQ l hX w Z
theorem KJ(l:GX g Γ X)(hX:HX g xv CX k F Φ X)(h:IM n g Γ fF e=B' t):PS X (.Return (B' e) pos) (iY Φ Γ F W fF t):=by
 have S:=jM n Γ X Φ l hX;have a:∀{e:Expr}{t:T},((cE n g Γ e).bind λc=>if fF then G' else B' (T.ret c))=B' t->PS X (.Return (B' e) pos) (iY Φ Γ F W fF t):=λ {e t} h=>by
  refine bx h λc Z h=>?_
  split at h
  ·cases h
  ·rename_i r;cases h;exact Ic (λz=>absurd z r) (mH (S.e _ _ Z).1)
 unfold IM at h;split at h
 ·rename_i y p;split at h
  ·rename_i j hj;split at h
   ·rename_i A;split at h
    ·cases h
    ·rename_i hk;cases h;exact Ls A (λz=>hk<|by simp[z])<|mH<|iZ l hj
   ·exact a h
  ·exact a h
 ·refine bx h λc Z h=>?_
  split at h
  ·rename_i r;cases h;refine Ic (λz=>?_)<|mH (S.e _ _ Z).1;rw[z]at r;simpa using r
  ·cases h
theorem tV{dp H:Bool}(n):∀(Γ:Gm)(X:Cx)(Φ:Fm),GX g Γ X->HX g xv CX k F Φ X->(dp=K'->Φ.d0=G')->PassesOwn (model X.prog X.w) X.A X.env X.xe->QG g F n Γ X Φ W dp H:=by
 induction n with
 |zero=>intro Γ X Φ l hX hd B;exact#[λst t h=>by simp[cS]at h,λst t h=>by simp[Hc]at h]
 |succ n ih=>
  intro Γ X Φ l hX hd B;have I:=ih Γ X Φ l hX hd B;have S:=jM n Γ X Φ l hX;have hK:=hX.K;refine#[λst t h=>?_,λnJ ts h=>?_]
  ·unfold cS at h;generalize hv:GP st=v at h;cases v<;>first|(cases h;done)|(obtain rfl:=mY hv rfl;clear hv;dsimp only at h)
   ·split at h
    ·exact KJ l hX h
    ·cases h;exact Lu F9
   ·unfold Ot at h;split at h
    ·rename_i e pos x xp;refine bx h λi w h=>?_
     split at h
     ·rename_i hδ;split at h
      ·cases h
      ·rename_i kO;refine bx h λc Z h=>?_
       split at h
       ·rename_i r;rw[W5]at r;cases h;exact Lm (hd<|by simpa using kO) (Xt hδ) (by simpa using r.2) r.1<|gQ l hX w Z
       ·cases h
     ·rename_i hδ;have y:Γ.δ≠B' i:=λz=>hδ (by rw[z];exact Zh _)
      split at h
      ·rename_i A;split at h
       ·rename_i s;split at h
        ·cases h;obtain⟨E,L,a3⟩:=eE w;obtain⟨Q,l2⟩:=l.loc x E;exact Lp hX.P hX.w A (Xt s) y<|qL (l.N▸l.nd) (by rw[l.N];exact a3) Q Mx.FV rfl l2
        ·cases h
       refine bx h λc Z h=>?_
       split at h
       ·rename_i r;cases h;exact Ln A y r<|gQ l hX w Z
       ·cases h
      ·rename_i A;refine Iu l hX w ?_ h;unfold plainS;rw[W5];exact#[by simpa using A,by simpa using y]
    ·rename_i v pos tg0 x xp kx sp;refine bx h λi w h=>?_
     split at h
     ·rename_i A;refine bx h λv' Z h=>?_
      refine bx h λk' Y h=>?_
      have Hu:=(S.e _ _ Y).2.2;split at h
      ·cases h;refine Lq hX.P hX.w A<|CN (S.e _ _ Z).1 (CG (iZ l w) (S.e _ _ Y).1 (Mx.GF<|by have:=l.un;lia)<|by intro _;cases kx<;>first|rfl|(cases Hu)) (pb (t:=Expr.Subscript (Expr.Name x xp) kx sp) (λx p z=>by cases z) pos.line X.env) ?_;cases v<;>rfl
      ·cases h;refine Lv A<|CN (S.e _ _ Z).1 (CG (iZ l w) (S.e _ _ Y).1 set_list<|by intro _;cases kx<;>first|rfl|(cases Hu)) (pb (t:=Expr.Subscript (Expr.Name x xp) kx sp) (λx p z=>by cases z) pos.line X.env) ?_;cases v<;>rfl
     ·cases h
    ·cases h
   ·split at h
    ·refine bx h λiR Z h=>?_
     refine bx h λDx Y h=>?_
     refine wH t h λb' u=>?_
     exact Pl hK (λi hi=>(nz Y i hi).1)<|Kx B l.calm (S.i _ _ _ Z).1 (K3 l Y) (I.ss _ _ u)<|vi (S.i _ _ _ Z).2 _
    ·cases h
   ·refine QR t h λt' Z a' Y b' u=>?_
    exact Pm<|Oh (S.e _ _ Z).2.1 (I.ss _ _ Y)<|I.ss _ _ u
   ·split at h
    ·split at h
     ·rename_i j;rw[W5]at j;refine uU t h λk0 Z vs Y=>?_
      obtain⟨ts,u⟩:=Ly Z;obtain⟨n1,P,n3⟩:=aT j.2;exact Tc hX l u (l.gl _ j.1) n1 (Og l Y)<|Fz Y _
     ·cases h
    ·cases h
   ·unfold Ov at h;split at h
    ·rename_i pos x xp m b a cp;refine bx h λi w h=>?_
     split at h
     ·rename_i A;rw[W5]at A;refine bx h λa' Z M=>?_
      have q:=bu (S.e _ _ Z).2.2 [] X.env;split at M
      ·rename_i hma;have O:=Xt hma;subst O;cases M;exact Pe A.1 (jI<|HI PySem.F.plainAttrs_list PySem.F.slot_list_append PySem.F.type_list_append oU (iZ l w) (bf (S.e _ _ Z).1 dN q) rfl (by rw[q];rfl) A.2 q rfl)
      split at M
      ·rename_i hma;have O:=Xt hma;subst O;cases M;exact Po A.1<|jI<|HI PySem.F.plainAttrs_list PySem.F.slot_list_extend PySem.F.type_list_extend Mx.FC (iZ l w) (bf (S.e _ _ Z).1 dN q) rfl (by rw[q];rfl) A.2 q rfl
      ·cases M
     ·cases h
    ·rename_i pos x xp m b cp;refine bx h λi w M=>?_
     split at M
     ·rename_i A;rw[W5,W5]at A;have O:=Xt A.2;subst O;cases M;exact Pi A.1.1 (jI<|vI PySem.F.plainAttrs_list PySem.F.slot_list_clear PySem.F.type_list_clear Ci (iZ l w) rfl A.1.2)
     split at M
     ·rename_i A;rw[W5,W5]at A;have O:=Xt A.2;subst O;cases M;exact Pn A.1.1<|jI<|vI PySem.F.plainAttrs_list PySem.F.slot_list_reverse PySem.F.type_list_reverse vA (iZ l w) rfl A.1.2
     ·cases M
    ·split at h
     ·cases h
     ·rename_i K;refine wH t h λc Z=>?_
      exact Pk<|jI (S.e _ _ Z).1<|nh (by simpa using K) _ _ _
   ·cases h;exact Lr F8
   ·cases h;exact Ph CO
   ·cases h;exact Pj tE
  ·unfold Hc at h;split at h
   ·cases h;exact DP
   ·refine uU ts h λt Z D6 Y=>?_
    exact G8 (I.s _ _ Z)<|I.ss _ _ Y
end
inductive HV where
 |b (x:Bool)|l (xs:List Bool)
def HV.Lf:HV->Option Bool
 |.b x=>B' x
 |.l _=>G'
def HV.NT:HV->Option (List Bool)
 |.l x=>B' x
 |.b _=>G'
mutual
noncomputable def hE:Nat->G->Gm->Nat->List (Str×Bool)->Option (Nat×HV)->Expr->Option HV
 |0,_,_,_,_,_,_=>G'
 |n+1,g,Γ,i,ts,vb,e=>match e with
  |.Call fe as ks _=>match fe,as,ks with
   |.Name f _,[.Name x _,.Name t _],[]=>if f==("isinstance":Str)&&xc (Γ.names.lookup f)&&g.bls.contains f&&slot Γ x==B' i&&xc (Γ.names.lookup t)&&du t then(ts.lookup t).map .b else G'
   |_,_,_=>G'
  |.Name x _=>vb.bind λv=>if slot Γ x==B' v.1 then B' v.2 else G'
  |.Constant c _ _=>match c with
   |.bool b=>B'<|.b b
   |_=>G'
  |.List es _=>if es.length<=1000 then(MU n g Γ i ts vb es).map .l else G'
  |.BinOp a o b _=>match o with
   |.Add=>((hE n g Γ i ts vb a).bind HV.NT).bind λx=>((hE n g Γ i ts vb b).bind HV.NT).bind λy=>if x.length+y.length<=1000 then B' (.l<|x++y) else G'
   |_=>G'
  |.Compare a os bs _=>match os,bs with
   |[.Eq],[b]=>((hE n g Γ i ts vb a).bind HV.NT).bind λx=>((hE n g Γ i ts vb b).bind HV.NT).bind λy=>match cZ .Eq (.lst<|x.map Dt.bl) (.lst<|y.map Dt.bl) with
    |.ok z=>B'<|.b z
    |_=>G'
   |_,_=>G'
  |.UnaryOp o a _=>match o with
   |.Not=>((hE n g Γ i ts vb a).bind HV.Lf).bind λb=>B'<|.b !b
   |_=>G'
  |.BoolOp o es p=>match es with
   |[a]=>hE n g Γ i ts vb a
   |a::b::es=>((hE n g Γ i ts vb a).bind HV.Lf).bind λx=>((hE n g Γ i ts vb<|.BoolOp o (b::es) p).bind HV.Lf).bind λy=>B'<|.b<|match o with|.And=>x&&y|.Or=>x||y
   |[]=>G'
  |_=>G'
noncomputable def MU:Nat->G->Gm->Nat->List (Str×Bool)->Option (Nat×HV)->List Expr->Option (List Bool)
 |0,_,_,_,_,_,_=>G'
 |n+1,g,Γ,i,ts,vb,es=>match es with
  |[]=>B' []
  |e::es=>if Aj e then((hE n g Γ i ts vb e).bind HV.Lf).bind λx=>(MU n g Γ i ts vb es).map (x:: ·) else G'
end
def J4:Expr->Option Str
 |.Name x _=>B' x
 |_=>G'
theorem xQ(h:J4 e=B' x):∃p,e= .Name x p:=by cases e<;>first|(cases h;done)|(cases h;exact#[_,rfl])
def hS(n:Nat)(g:G)(Γ:Gm)(i:Nat)(ts:List (Str×Bool)):List Stmt->Option Bool
 |[st]=>match GP st with
  |.ret (B' e) _=>(hE n g Γ i ts G' e).bind HV.Lf
  |_=>G'
 |[s1,s2]=>match GP s1,GP s2 with
  |.asg [t] e _,.ret (B' r) _=>(J4 t).bind λx=>if Γ.names.lookup x==B' .local&& !ma e then(fD Γ x).bind λj=>if j==i then G' else(hE n g Γ i ts G' e).bind λb=>(hE n g Γ i ts (B' (j,b)) r).bind HV.Lf else G'
  |_,_=>G'
 |_=>G'
def Es(n:Nat)(g:G)(Γ:Gm)(dp fF:Bool)(st:Stmt):Option T:=match GP st with
 |.tr body [.ExceptHandler (B' ty) (B' e) (b0::jQ) _] [] [] _=>(J4 ty).bind λt=>
  if Γ.names.lookup e==B' .local&&xc (Γ.names.lookup t)&&du t&& !(t==("ValueError":Str))&&g.xs.any (λx=>x.2.lookup t==B' J') then(fD Γ e).bind λi=>(Hc n g Γ dp fF body).bind λb=>
   B' (.tr b<|g.xs.map λx=>if x.2.lookup t==B' J' then hS n g Γ i x.2 (b0::jQ) else G')
  else G'
 |_=>G'
def IK(n:Nat)(g:G)(Γ:Gm)(dp fF:Bool):List Stmt->Option Ts
 |[]=>B' .nil
 |st::nJ=>((Es n g Γ dp fF st).or<|cS n g Γ dp fF st).bind λt=>(IK n g Γ dp fF nJ).bind λts=>B'<|.cons t ts
section
variable{g:G}{xv:Nat->Value}{CX:nK}{k:Nat}{F:FT}{X:Cx}{Φ:Fm}{Γ:Gm}{W:Addr->Prop}
theorem Em:bootBuiltins "ValueError"=B' (.type "ValueError"):=by decide +kernel
def hV(H:Hp)(v:V):HV->Prop
 |.b x=>v= .bl x
 |.l xs=>∃p,v= .ref p/\H p=B' (.lst<|xs.map V.bl)
theorem hV.same(h:hV H v x)(s:bJ H H'):hV H' v x:=by
 cases x with
 |b x=>exact h
 |l xs=>obtain⟨p,e,h⟩:=h;exact#[p,e,s _ _ h]
def hG(i:Nat)(a:Addr)(b:Option (Nat×HV))(O:L2.St)(H:Hp):Prop:=O[i]?=B' (B'<|.ref a)/\∀j x,b=B' (j,x)->∃v,O[j]?=B' (B' v)/\hV H v x
theorem hG.same(h:hG i a vb σ H)(s:bJ H H'):hG i a vb σ H':=#[h.1,λj x e=>by
 obtain⟨v,Z,Y⟩:=h.2 j x e;exact#[v,Z,Y.same s]]
def tH(i:Nat)(a:Addr)(b:Option (Nat×HV))(x:HV):TE:=λO H Q=>hG i a b O H/\∀v L,bJ H L->hV L v x->Q v L
theorem f7(h:o.bind HV.Lf=B' x):o=B' (.b x):=by
 cases o with
 |none=>cases h
 |some v=>
  cases v with
  |b y=>cases h;rfl
  |l y=>cases h
theorem qu(h:o.bind HV.NT=B' x):o=B' (.l x):=by
 cases o with
 |none=>cases h
 |some v=>
  cases v with
  |b y=>cases h
  |l y=>cases h;rfl
theorem vU{K:Frag}:∀xs:List Bool,aq K A H (xs.map V.bl) (xs.map Dt.bl)
 |[]=>aq.nil
 |_::xs=>aq.cons RV.xM<|vU xs
theorem Pa(n)(h:n<=1000):n<=sizeLine:=by have:=Zu;lia
mutual
theorem sD{C a:Addr}{o:Obj}{i:Nat}{ts:List (Str×Bool)}(gx:GX g Γ X)(xr:pD X C a o)(xk:LG X.K X.mg C ts):∀(n:Nat)(vb:Option (Nat×HV))(e:Expr)(b:HV),hE n g Γ i ts vb e=B' b->PE (X.hand a o) e (tH i a vb b)
 |0,vb,e,b,h=>by simp[hE]at h
 |n+1,vb,e,b,h=>by
  have ih:=sD (i:=i) gx xr xk n vb;have var:∀{x:Str}{j:Nat}{p:Pos},slot Γ x=B' j->PE (X.hand a o) (.Name x p) (eU j):=λ {x j p} hs=>by obtain⟨v1,v2,v3⟩:=dz hs;obtain⟨n1,n2,n3⟩:=aT v2;exact fX (X:=X.hand a o) (by rw[gx.N];exact v3) (gx.vis x v1) n1 n2
  unfold hE at h;split at h
  ·split at h
   ·split at h
    ·rename_i hc;simp only[W5]at hc;obtain⟨⟨⟨⟨⟨h1,h2⟩,h3⟩,h4⟩,h5⟩,h6⟩:=hc;have e1:=Xt h1;subst e1;obtain⟨n1,n2,n3⟩:=aT h6;obtain⟨z,hz,rfl⟩:=Xl.mp h;obtain⟨c,hc,k1,_⟩:=xk.2.2 _ _ hz;rcases hc with ⟨m1,D,rfl⟩|⟨m1,rfl,rfl⟩
     ·intro M' s σ H Q I q;exact CB xr xk.1 xk.2.1 (gx.gl _ h2) (gx.bl _<|gE h3) (var<|Xt h4) (xZ (X:=X.hand a o) (v:=.ref D) (gx.gl _ h5) m1 rfl n1) (λu r=>r) k1 M' s σ H Q I #[q.1.1,q.2 _ _ (bJ.refl _) rfl]
     ·intro M' s σ H Q I q;exact CB xr xk.1 xk.2.1 (gx.gl _ h2) (gx.bl _<|gE h3) (var<|Xt h4) (xW (X:=X.hand a o) (v:=.ty "ValueError") (gx.gl _ h5) m1 Em rfl (by decide) n1) (λu r=>r) k1 M' s σ H Q I #[q.1.1,q.2 _ _ (bJ.refl _) rfl]
    ·cases h
   ·cases h
  ·refine bx h λv h1 h=>?_
   split at h
   ·rename_i hs;cases h;intro M' s σ H Q I q;obtain⟨u,k1,k2⟩:=q.1.2 v.1 v.2 h1;exact var (Xt hs) M' s σ H Q I #[_,k1,q.2 _ _ (bJ.refl _) k2]
   ·cases h
  ·split at h
   ·cases h;intro M' s σ H Q I q;exact HH M' s σ H Q I<|q.2 _ _ (bJ.refl _) rfl
   ·cases h
  ·split at h
   ·rename_i es _ hl;obtain⟨xs,h1,rfl⟩:=Xl.mp h;have he:=BH (i:=i) gx xr xk n vb es xs h1;intro M' s σ H Q I q;refine CC he.1 M' s σ H Q I #[q.1,λvs H' sm ev=>#[?_,λp hp=>?_]]
    ·rw[ev,Xf,he.2];exact Pa _ hl
    ·exact q.2 _ _ (sm.trans<|Mx.cA hp _) #[p,rfl,by rw[aB,ev]]
   ·cases h
  ·split at h
   ·refine bx h λx h1 h=>?_
    refine bx h λy h2 h=>?_
    split at h
    ·rename_i hl;cases h;intro M' s σ H Q I q;refine HJ fV (ih _ _<|qu h1) (ih _ _<|qu h2) M' s σ H Q I #[q.1,λv H1 s1#[p,e1,k1]=>#[q.1.same s1,λv2 H2 s2#[p2,e2,k2]=>?_]];refine#[p,p2,_,_,e1,e2,s2 _ _ k1,k2,by rw[Xf,Xf];exact Pa _ hl,λr hr=>?_];exact q.2 _ _ ((s1.trans s2).trans<|Mx.cA hr _) #[r,rfl,by rw[aB,XU]]
    ·cases h
   ·cases h
  ·split at h
   ·refine bx h λx h1 h=>?_
    refine bx h λy h2 h=>?_
    split at h
    ·rename_i z hz;cases h;intro M' s σ H Q I q;refine xY (vF .Eq<|show (X.hand a o).A.units+150<cLine from gx.un) (ih _ _<|qu h1) (ih _ _<|qu h2) (mx _ (by decide)<|by decide) M' s σ H Q I #[q.1,λv H1 s1#[p,e1,k1]=>#[q.1.same s1,λv2 H2 s2#[p2,e2,k2]=>?_]];subst e1 e2;exact#[_,_,z,RV.fT (s2 _ _ k1) (λz=>z)<|vU x,RV.fT k2 (λz=>z)<|vU y,hz,q.2 _ _ (s1.trans s2) rfl]
    ·cases h
   ·cases h
  ·split at h
   ·refine wH b h λx h1=>?_
    intro M' s σ H Q I q;exact CD (ih _ _<|f7 h1) M' s σ H Q I #[q.1,λv H' sm hv=>#[_,hv,q.2 _ _ sm rfl]]
   ·cases h
  ·split at h
   ·intro M' s σ H Q I q;exact CF (ih _ _ h) M' s σ H Q I q
   ·rename_i op p es0 a1 b1 es;refine uU b h λx h1 y h2=>?_
    have g2:=ih _ _<|f7 h2;intro M' s σ H Q I q;cases op with
    |And=>
     refine Cw (ih _ _<|f7 h1) g2 M' s σ H Q I #[q.1,λv H' sm hv=>#[_,hv,?_]];cases x with
     |true=>exact#[q.1.same sm,λv2 H2 s2 h2=>q.2 _ _ (sm.trans s2) h2]
     |false=>exact q.2 _ _ sm rfl
    |Or=>
     refine HK (ih _ _<|f7 h1) g2 M' s σ H Q I #[q.1,λv H' sm hv=>#[_,hv,?_]];cases x with
     |true=>exact q.2 _ _ sm rfl
     |false=>exact#[q.1.same sm,λv2 H2 s2 h2=>q.2 _ _ (sm.trans s2) h2]
   ·cases h
  ·cases h
theorem BH{C a:Addr}{o:Obj}{i:Nat}{ts:List (Str×Bool)}(gx:GX g Γ X)(xr:pD X C a o)(xk:LG X.K X.mg C ts):∀(n:Nat)(vb:Option (Nat×HV))(es:List Expr)(xs:List Bool),MU n g Γ i ts vb es=B' xs->PA (X.hand a o) es (λσ H Q=>hG i a vb σ H/\∀vs H',bJ H H'->vs=xs.map V.bl->Q vs H')/\xs.length=es.length
 |0,vb,es,xs,h=>by simp[MU]at h
 |n+1,vb,es,xs,h=>by
  unfold MU at h;split at h
  ·cases h;exact#[λpos M' s σ H Q I q=>dN pos M' s σ H Q I<|q.2 _ _ (bJ.refl _) rfl,rfl]
  ·rename_i e es;split at h
   ·rename_i hd;refine bx h λx h1 h=>?_
    obtain⟨ys,h2,rfl⟩:=Xl.mp h;obtain⟨k1,k2⟩:=BH (i:=i) gx xr xk n vb es ys h2;refine#[λpos M' s σ H Q I q=>bf (sD gx xr xk n vb e _<|f7 h1) k1 (bu hd _ _) pos M' s σ H Q I #[q.1,λv H1 s1 hv=>#[q.1.same s1,λvs H2 s2 ev=>q.2 _ _ (s1.trans s2)<|by rw[ev,show v= .bl x from hv];rfl]],by rw[Xo,Xo,k2]]
   ·cases h
end
theorem MW{C a:Addr}(l:GX g Γ X)(m:pD X C a o)(xk:LG X.K X.mg C ts)(h:hS n g Γ i ts nJ=B' b):
  rG (X.hand a o) nJ (λD O H=>O[i]?=B' (B'<|.ref a)/\O.length=X.N.length/\∀H',bJ H H'->D.rt (.bl b) H'):=by
 unfold hS at h;split at h
 ·split at h
  ·rename_i st e p hv;obtain rfl:=mY hv rfl;intro S s O H D I q;exact ye (mH<|sD l m xk n G' _ _<|f7 h) S s O H D I #[#[q.1,λj b z=>by cases z],λv H' sm hv=>by rw[show v= .bl b from hv];exact q.2.2 _ sm]
  ·cases h
 ·split at h
  ·rename_i s1 s2 t e ap r k B0 B;obtain rfl:=mY B0 rfl;obtain rfl:=mY B rfl;obtain⟨x,L,M⟩:=W2.mp h;obtain⟨c,rfl⟩:=xQ L;have h:=M;split at h
   ·rename_i L;rw[W5]at L;refine bx h λj Z h=>?_
    split at h
    ·cases h
    ·rename_i F;obtain⟨v,Y,h3⟩:=W2.mp h;obtain⟨E,a2,a3⟩:=eE Z;obtain⟨Q,l2⟩:=l.loc x E;have A:j≠i:=λz=>F (by rw[z];exact Zh _)
     have hN:(X.hand a o).N[j]?=B' x:=by show X.N[j]?=_;rw[l.N];exact a3
     have J:(X.hand a o).N.Nodup:=by show X.N.Nodup;rw[l.N];exact l.nd
     intro S s O H D I q;refine tI (qL J hN Q (sD l m xk n G' _ v Y) (nh (by simpa using L.2) _ _ _) l2) (ye<|mH<|sD l m xk n (B' (j,v)) _ _<|f7 h3) S s O H D I #[#[q.1,λj b z=>by cases z],λu H1 s1 hu=>#[#[?_,λW b' z=>?_],λw H2 s2 y=>by rw[show w= .bl b from y];exact q.2.2 _<|s1.trans s2]]
     ·rw[Xn A];exact q.1
     ·cases z;have:j<O.length:=by rw[q.2.1];exact(W8.mp hN).1
      exact#[u,by simp[this],hu]
   ·cases h
  ·cases h
 ·cases h
theorem GX.eI(l:GX g Γ X):GX g Γ (X.eI E):=#[l.N,l.nd,l.vis,l.loc,l.gl,l.fre,l.calm,l.un,l.con,l.bl]
theorem gb(h:nG (X.eI E) E' e s'):nG X E' e s':=by obtain⟨O,L,a,cls,B,I,f,q⟩:=h;exact#[O,L,a,cls,B,I.fg,f,q]
theorem uu(h:nG X E' e s'):nG (X.eI E) E' e s':=by obtain⟨O,L,a,cls,B,I,f,q⟩:=h;exact#[O,L,a,cls,B,I.eI E,f,q]
theorem Td{dp fF:Bool}{st:Stmt}(i0:X.env.scope.names=Γ.names)(gx:GX g Γ X)(r:HX g xv CX k F Φ X)(hd:dp=K'->Φ.d0=G')(h:Es n g Γ dp fF st=B' t):PH X st (iY Φ Γ F W fF t):=by
 unfold Es at h;split at h
 ·rename_i body ty e b0 jQ J pos hv;obtain rfl:=mY hv rfl;obtain⟨t,L,M⟩:=W2.mp h;obtain⟨tp,rfl⟩:=xQ L;have h:=M;split at h
  ·rename_i K;simp only[W5]at K;obtain⟨⟨⟨⟨u,c2⟩,c3⟩,c4⟩,c5⟩:=K;obtain⟨i,Z,h⟩:=W2.mp h;obtain⟨b,Y,h⟩:=W2.mp h;cases h;obtain⟨a1,a2,j⟩:=eE Z;obtain⟨Q,l2⟩:=gx.loc e a1;obtain⟨w,n2,n3⟩:=aT c3;intro s O H D I q;obtain⟨o,ρ,S,oi,er,q⟩:=q;obtain⟨hS,q⟩:=ay q;have LM:S=G':=by simpa using hS
   have rz:∀z,Φ.d0≠B' z:=λz hz=>by obtain⟨ns,e1,_⟩:=er.drw z<|oi.d z hz;rw[LM]at e1;cases e1
   generalize htbl:(g.xs.map λx=>if x.2.lookup t==B' J' then Rx.hS n g Γ i x.2 (b0::jQ) else G')=Aq at q
   let Φ':Fm:=#[Φ.K,Φ.H0,Φ.d0,λkk=>∃v,Aq[kk]?=B' (B' v)/\∀H',aZ (λb=>Φ.d0=B' b) Φ.H0 H'->D.rt (.bl v) H',Φ.P,Φ.w]
   have X1:HX g xv CX k F Φ' (X.eI<|nG X<|Af Φ' xv):=#[r.K,r.P,r.w,r.fx,r.room,r.cx,#[r.st.pn,r.st.st],λe l z=>gb z,r.xk];have own:=yM (X:=X.eI<|nG X<|Af Φ' xv) #[r.st.pn,r.st.st] (λe l z=>gb z) λe l z=>uu z
   have B:=(tV (W:=W) n Γ _ Φ' gx.eI X1 hd own).ss _ _ Y;have rA:=mw (by simpa using c4);obtain⟨y,V8,NF⟩:=XJ.mp c5;obtain⟨ky,VG⟩:=YI.mp V8;obtain⟨Cy,_,_,yk⟩:=r.xk ky y.1 y.2 VG;obtain⟨c,K,_⟩:=yk.2.2 t J'<|Xt NF;have xn:=K.elim (λz=>z.1) λz=>absurd z.2.1 rA
   have hle:X.env.scope.names.lookup e=B' .local:=by rw[i0];exact Xt u
   refine GY r.st I.ok.hd (gx.gl _ c2) xn w (gx.N▸gx.nd) (by rw[gx.N];exact j) hle B (λcls H' z=>?_) I #[o,ρ,S,#[oi.w,oi.d],er.re rfl,?_]
   ·obtain⟨kk,rfl,⟨v,hv,VW⟩,Jk⟩:=z;rw[<-htbl,Xp]at hv;obtain⟨⟨x,ts⟩,L,hv⟩:=Xl.mp hv;split at hv
    ·rename_i hl;obtain⟨C,e1,E,xk⟩:=r.xk kk x ts L;obtain⟨A,kJ,_,kx⟩:=xk.2.2 t J'<|Xt hl;have:A=c:=by
      have M:=kJ.elim (λz=>z.1) λz=>absurd z.2.1 rA
      rw[xn]at M;exact(Y7 M).symm
     subst this;exact#[C,e1,kx rfl,λa o xr=>#[_,MW gx xr xk hv,λO s1 s2=>#[s1,s2,λH2 sm=>VW H2<|Jk.trans<|aZ.of_same sm]]]
    ·cases hv
   ·cases P:aO F b ρ S with
    |ok p=>
     rw[P]at q;have q:dO Φ Γ W fF o H D p:=q;show dO Φ' Γ W fF o H D p;unfold dO at q ⊢;cases iQ:p.1 with
     |next=>rw[iQ]at q;intro σ' H' m;exact q σ' H' #[m.ex.imp λo' z=>#[#[z.1.w,z.1.d],ER.re (Φ:=Φ') rfl z.2.1,z.2.2],m.ext,m.al]
     |brk=>rw[iQ]at q;intro σ' H' m;exact q σ' H' #[m.ex.imp λo' z=>#[#[z.1.w,z.1.d],ER.re (Φ:=Φ') rfl z.2.1,z.2.2],m.ext,m.al]
     |cnt=>rw[iQ]at q;intro σ' H' m;exact q σ' H' #[m.ex.imp λo' z=>#[#[z.1.w,z.1.d],ER.re (Φ:=Φ') rfl z.2.1,z.2.2],m.ext,m.al]
     |ret d=>rw[iQ]at q;intro v H' ro;exact q v H' #[ro.val,ro.ent,ro.drw,ro.fH]
    |ex kk=>
     rw[P]at q;simp only at q;split at q
     ·rename_i v hv;exact#[v,hv,λH' Jk=>q _ _ #[RV.xM,Jk,λa ha=>absurd ha<|rz a,λ_ ds z=>by cases z]]
     ·exact q.elim
    |bad=>rw[P]at q;exact q.elim
  ·cases h
 ·cases h
theorem DO{st:Stmt}(Z:PH X st (iY Φ Γ F W fF t))(Y:px X nJ (k6 Φ Γ F W fF ts)):px X (st::nJ) (k6 Φ Γ F W fF<|.cons t ts):=λs O H D I q=>zQ Z Y s O H D I (by
 obtain⟨o,ρ,S,l,er,q⟩:=q;rw[bp,ae]at q;refine#[o,ρ,S,l,er,ag q λp _ q=>?_];unfold dO;cases J:p.1 with
 |next=>rw[J]at q;intro K j m;obtain⟨⟨o1,b,aF,a⟩,B,E⟩:=m;exact#[o1,p.2.1,p.2.2,b,aF,ag q λP _ q=>dO.go B a E (λ_ _ z=>z) (λ_ _ z=>z) (λ_ _ z=>z) (λ_ _ z=>z) q]
 |brk=>rw[J]at q;unfold mR dO at q;exact q
 |cnt=>rw[J]at q;unfold mR dO at q;exact q
 |ret d=>rw[J]at q;unfold mR dO at q;exact q)
theorem AI{dp H:Bool}(A:X.env.scope.names=Γ.names)(l:GX g Γ X)(r:HX g xv CX k F Φ X)(hd:dp=K'->Φ.d0=G')(own:PassesOwn (model X.prog X.w) X.A X.env X.xe):∀{a:List Stmt}{ts:Ts},IK n g Γ dp H a=B' ts->px X a (k6 Φ Γ F W H ts)
 |[],ts,h=>by cases h;exact Ga DP
 |st::a,ts,h=>by
  refine uU ts h λt Z b Y=>?_
  refine DO ?_<|AI A l r hd own Y;cases O:Es n g Γ dp H st with
  |none=>rw[O]at Z;exact Kv<|(tV n Γ X Φ l r hd own).s _ _ Z
  |some t'=>rw[O]at Z;cases Z;exact Td A l r hd O
theorem tG{st:List Stmt}(h:px (X.eI E) st t)(L:∀e l,E e l->X.xe e l):px X st t:=λs O H D I y=>
 ZA (h s O H D (I.eI _) y) (λ_ _ q=>q.fg) λe l z=>L e l z
end
section
variable{P:Program}{w:World}{K:Frag}{mg:Str->Option Value}{base:Heap}{g:G}{xv:Nat->Value}{F:FT}{k:Nat}
structure MG(g:G)(mg:Str->Option Value):Prop where
 con:∀x d,g.cons.lookup x=B' d->∃u,rE d=J'/\mg x=B' u/\RelV (uJ d) u
 bl:∀x∈g.bls,mg x=G'
def XG(g:G)(K:Frag)(mg:Str->Option Value)(a:Nat->Value):Prop:=∀k x ts,g.xs[k]?=B' (x,ts)->∃C,a k= .ref C/\mg x=B' (.ref C)/\LG K mg C ts
def zU(bA:Bool)(args:List Dt)(n ps:Nat):aj:=(if bA then[G'] else[])++args.map B'++List.replicate (n-ps) G'
theorem mO(h:(zU bA args n ps)[i]?=B' (B' d)):∃j,args[j]?=B' d/\i=j+(if bA then 1 else 0):=by
 unfold zU at h;have tail:∀{i:Nat},(args.map B'++List.replicate (n-ps) (G':Option Dt))[i]?=B' (B' d)->args[i]?=B' d:=λ {i} h=>by
  by_cases hi:i<args.length
  ·rw[XR (by simpa using hi),Xp]at h;cases e:args[i]? with
   |none=>rw[e]at h;cases h
   |some a=>rw[e]at h;cases h;rfl
  ·rw[XS (by simpa using hi),Yp]at h;split at h<;>cases h
 cases bA with
 |false=>exact#[i,tail h,rfl]
 |true=>
  cases i with
  |zero=>cases h
  |succ i=>exact#[i,tail h,rfl]
theorem o6{i:Nat}(h:vs[i]?=B' v):(start N vs)[i]?=B' (B' v):=by unfold L2.start;have hi:=(W8.mp h).1;rw[XR (by simpa using hi),Xp,h];rfl
theorem Bm{S:Sx}
  (u:∀i,i<np->M[i]?≠B' J') (I:bA=J'->δ=B' 0) (m:np<=N.length) (hl:c.length=np)
  (hd:if bA=J' then∃(a:Addr)(ns:List Int),c= .ref a::oh/\dr=B' a/\W a/\S=B' ns/\H a=B' (.lst<|ns.map V.int) else c=oh/\dr=G'/\S=G')
  (t:aq K W H oh args) (y:∀a,W a->∃x,H a=B' x):ER #[K,H,dr,Ek,P,w] #[names,N,M,δ,κ] #[W,W,dr] (zU bA args N.length np) S (start N c) H/\args.length+(if bA then 1 else 0)=np:=by
 have n:=t.length;have k:args.length+(if bA then 1 else 0)=np:=by
  cases bA with
  |false=>
   simp only[X2,Zl]at hd ⊢;obtain⟨e,_,_⟩:=hd;subst e
   lia
  |true=>
   simp only[Zo]at hd ⊢;obtain⟨a,ns,e,_⟩:=hd;rw[e]at hl;simp at hl
   lia
 refine#[#[?_,λa z=>z,λa z=>?_,y,λi d h=>?_,λi O c h=>?_,λi j a d e A hm' Z Y _ _=>?_,λa z=>?_,λz=>?_,λi a hi z=>?_,λa z=>.inl z,aZ.refl],k]
 ·unfold L2.start zU;simp only[Xm,Xf];cases bA<;>simp at k ⊢<;>lia
 ·cases bA with
  |false=>simp only[X2]at hd;rw[hd.2.1]at z;cases z
  |true=>simp only[Zo]at hd;obtain⟨b,ns,_,e,hb,_⟩:=hd;rw[e]at z;cases z;exact hb
 ·obtain⟨j,F,rfl⟩:=mO h;obtain⟨v,Z,Y⟩:=t.getD F;have l:=(W8.mp F).1;have A:cL #[names,N,M,δ,κ] (j+if bA=J' then 1 else 0)=K':=by unfold cL;have:=u (j+if bA=J' then 1 else 0) ⋯;simpa using this
  refine#[v,o6 ?_,?_]
  ·cases bA with
   |false=>simp only[X2]at hd ⊢;rw[hd.1];exact Z
   |true=>simp only[Zo]at hd ⊢;obtain⟨b,ns,e,_⟩:=hd;rw[e];simpa using Z
  ·rw[A,Zm (by simp)];exact Y
 ·obtain⟨j,F,rfl⟩:=mO h;obtain⟨v,Z,Y⟩:=t.getD F;cases Y.nd
 ·obtain⟨g,F,rfl⟩:=mO Z;have l:=(W8.mp F).1;exfalso;exact u (g+if bA=J' then 1 else 0) ⋯ (Xt A)
 ·cases bA with
  |false=>simp only[X2]at hd;rw[hd.2.1]at z;cases z
  |true=>simp only[Zo]at hd;obtain⟨b,ns,_,e,_,E,J⟩:=hd;rw[e]at z;cases z;exact#[ns,E,J]
 ·cases bA with
  |false=>simp only[X2]at hd;exact hd.2.2
  |true=>simp only[Zo]at hd;obtain⟨b,ns,_,e,_⟩:=hd;rw[e]at z;cases z
 ·cases bA with
  |false=>simp only[X2]at hd;rw[hd.2.1]at z;cases z
  |true=>obtain⟨b,ns,B,e,_⟩:=hd;rw[e]at z;cases z;rw[I rfl]at hi;cases hi;exact o6 (by rw[B];rfl)
theorem MP(m:MG g mg)(S:fJ N ps sc)(I:jb k (A.deeper<|envOfC qual sc s.heap.objs.size f gz)):
  GX g #[sc.names,N,M,δ,κ] (lM CX P w K mg base N qual sc f gz A outer s H E) where
 N:=rfl
 nd:=S.nd
 vis:=λx h=>by
  show Iq sc x;unfold Iq;cases W:sc.names.lookup x with
  |none=>rw[W]at h;cases h
  |some Z=>
   rw[W]at h;cases Z with
   |«local»=>exact .inl rfl
   |cell=>exact .inr<|.inl rfl
   |free=>exact .inr<|.inr rfl
   |globalExplicit=>cases h
   |globalImplicit=>cases h
 loc:=λx h=>by
  refine#[?_,.inl rfl];show L2.Loc sc x;unfold L2.Loc;cases W:sc.names.lookup x with
  |none=>rw[W]at h;cases h
  |some Z=>
   rw[W]at h;cases Z with
   |«local»=>exact .inl rfl
   |cell=>exact .inr rfl
   |free=>cases h
   |globalExplicit=>cases h
   |globalImplicit=>cases h
 gl:=λx h=>by
  show sc.names.lookup x=_;cases W:sc.names.lookup x with
  |none=>rw[W]at h;cases h
  |some Z=>
   rw[W]at h;cases Z with
   |globalImplicit=>rfl
   |«local»=>cases h
   |cell=>cases h
   |free=>cases h
   |globalExplicit=>cases h
 fre:=λx h=>h
 calm:=rfl
 un:=by have:=I.un;show (A.deeper<|envOfC qual sc s.heap.objs.size f gz).units+150<cLine;lia
 con:=m.con
 bl:=m.bl
theorem oF{dV kV doc pm Y ct oc:Value}
  (lk:K.lookup f=B' #[oc,od,.func<|PySem.W.fnOf name qual params body scope dV kV doc pm an Y ct,xT]) (Ai:PySem.W.codeIn K Y qual=J') (S:fJ N ps scope) (hm:MG g mg) (Fc:XG g K mg xv) (fx:FX g xv (uv P w) P w K mg base m k F)
  (u:∀i,i<ps.length->M[i]?≠B' J') (hδ:bA=J'->δ=B' 0) (hc:IK n g #[scope.names,N,M,δ,κ] bA fF body=B' ts):
  jV P w K mg base (uv P w) (k+1) f (PySem.W.fnOf name qual params body scope dV kV doc pm an Y ct) ps (Uy K xv (gR F #[ps.length,N.length,bA,ts]) ps.length fF bA):=by
 have iD:ps.length<=N.length:=by have:=Zj List.length S.pre;rw[YA]at this;lia
 refine Ja lk Ai S (λc H Q E h=>h.1) λA outer s H c Q E hr h=>?_
 obtain⟨hl,W,dr,args,S0,oh,hd,t,y,h⟩:=h;have er:=Bm (names:=scope.names) (κ:=κ) (P:=P) (w:=w) (Ek:=λZ=>∀L,aZ (λb=>dr=B' b) H L->E (xv Z) G' L) u hδ iD hl hd t y;obtain⟨er,Hr⟩:=er;generalize o:lM (uv P w) P w K mg base N qual scope f Y A outer s H E=X;generalize hΦ:(#[K,H,dr,λZ=>∀L,aZ (λb=>dr=B' b) H L->E (xv Z) G' L,P,w]:Fm)=Φ at er;have hΦE:∀v a L,Af Φ xv v a L->E v G' L:=λv a L z=>by obtain⟨Z,rfl,z1,j⟩:=z;subst hΦ;exact z1 L j
 have Wv:∀e l,nG X (Af Φ xv) e l->X.xe e l:=λe l z=>by subst o;obtain⟨O,L,a,cls,B,I,fl,q⟩:=z;exact Lx #[O,L,a,cls,B,I,fl,hΦE _ _ _ q]
 have st:gf X:=by subst o;exact Dq
 have gx:GX g #[scope.names,N,M,δ,κ] X:=by subst o;exact MP hm S hr
 have UB:gf (X.eI<|nG X<|Af Φ xv):=#[st.pn,st.st];have r:HX g xv (uv P w) k F Φ (X.eI<|nG X<|Af Φ xv):=by
  refine#[?_,?_,?_,#[m,?_],?_,?_,UB,λe l z=>gb z,?_]
  ·subst hΦ o;rfl
  ·subst hΦ o;rfl
  ·subst hΦ o;rfl
  ·subst o;exact fx
  ·subst o;exact hr
  ·subst o;rfl
  ·subst o;exact Fc
 have own:=yM UB (λe l z=>gb z) λe l z=>uu z
 have d0:Φ.d0=dr:=by subst hΦ;rfl
 have SS:=AI (W:=W) (by subst o;rfl) gx.eI r (λz=>by
  rw[d0];subst z;exact hd.2.1) own hc
 refine#[_,tG SS Wv,#[W,W,dr],_,S0,#[rfl,λa z=>by rw[d0]at z;exact z],er,?_];subst hΦ;unfold gR at h;rw[Zn Hr]at h;have h:(match (aO F ts (zU bA args N.length ps.length) S0).bind (λp=>match p.1 with
   |.next=>R.ok (Dt.bX,p.2.2)
   |.ret d=>R.ok (d,p.2.2)
   |_=>R.bad) with
  |.ok p=>∀v L,FO K W dr fF H p.1 p.2 v L->Q v L
  |.ex Z=>∀L,aZ (λb=>dr=B' b) H L->E (xv Z) G' L
  |.bad=>False):=h
 cases he:aO F ts (zU bA args N.length ps.length) S0 with
 |ok p=>
  rw[he]at h;simp only[R.ah]at h;show dO _ _ _ _ _ _ _ p;unfold dO;cases J:p.1 with
  |next=>rw[J]at h;intro σ' L so;obtain⟨o',oi,IU,_⟩:=so.ex;exact h _ _ #[IU.ent,RV.qy,λa z=>IU.drw a<|oi.d a z,λ_ ds e=>by cases e]
  |ret d=>rw[J]at h;intro v L x;exact h _ _ #[x.ent,x.val,x.drw,x.fH]
  |brk=>rw[J]at h;exact h.elim
  |cnt=>rw[J]at h;exact h.elim
 |ex Z=>rw[he]at h;exact h
 |bad=>rw[he]at h;exact h.elim
end
structure As(g:G)(K:Frag)(mg:Str->Option Value)(e:Str×Nat×List Dt×Bool)(idx:Nat)(fn:Fn):Prop where
 ex:∃(fa:Addr)(ps N:List Str)(M:List Bool)(δ κ:Option Nat)(n:Nat)(oc:Value)(od an:Option Addr)(xT:Array (Option Value))(params:Arguments)(body:List Stmt)(scope:Scope)(dV kV doc pm gz ct:Value),
  K.lookup fa=B' #[oc,od,.func<|PySem.W.fnOf e.1 e.1 params body scope dV kV doc pm an gz ct,xT]/\PySem.W.codeIn K gz e.1=J'/\PySem.W.keepIn K (.ref fa)=J'/\mg e.1=B' (.ref fa)/\fJ N ps scope/\(∀i,i<ps.length->M[i]?≠B' J')/\
  (e.2.2.2=J'->δ=B' 0)/\ps.length=e.2.1/\IK n g #[scope.names,N,M,δ,κ] e.2.2.2 (g.fr idx) body=B' fn.body/\fn.ps=ps.length/\fn.n=N.length/\fn.bA=e.2.2.2/\
  (∀j,j<=e.2.2.1.length->∃ds,au ((e.2.2.1.drop j).map uJ) ds/\Binds K (PySem.W.fnOf e.1 e.1 params body scope dV kV doc pm an gz ct) ps ds)/\e.2.2.1.all rE=J'
def rF(g:G)(K:Frag)(mg:Str->Option Value):Nat->List (Str×Nat×List Dt×Bool)->List Fn->Prop
 |_,[],[]=>True
 |i,e::es,f::fs=>As g K mg e i f/\rF g K mg (i+1) es fs
 |_,_,_=>False
section
variable{g:G}{K:Frag}{mg:Str->Option Value}
theorem qc:∀{es:List (Str×Nat×List Dt×Bool)}{fs:List Fn}{i j:Nat}{r:Nat×List Dt×Bool},rF g K mg i es fs->sr x es=B' (j,r)->∃f,As g K mg (x,r) (i+j) f/\fs[j]?=B' f
 |[],fs,i,j,r,_,h=>by simp[sr]at h
 |e::es,[],i,j,r,h,_=>h.elim
 |e::es,f::fs,i,j,r,ok,h=>by
  obtain⟨o1,o2⟩:=ok;unfold sr at h;split at h
  ·rename_i L;cases h;have ex:=Xt L;subst ex;exact#[f,o1,rfl]
  ·obtain⟨p,Z,Y⟩:=Xl.mp h;obtain⟨W,r'⟩:=p;cases Y;obtain⟨l,k1,k2⟩:=qc o2 Z;refine#[l,?_,k2];have:i+(W+1)=i+1+W:=⋯
   rw[this];exact k1
variable{P:Program}{w:World}{base:Heap}{xv:Nat->Value}{fs:List Fn}
theorem mG(hm:MG g mg)(t:XG g K mg xv)(ok:rF g K mg 0 g.fns fs):∀n,FX g xv (uv P w) P w K mg base n n (az fs n)
 |0=>⟨λx f z fN bA h=>by
   obtain⟨fn,⟨y,ps,N,M,δ,κ,n,o,od,O,v,a,body,scope,I,kV,p,pm,gz,ct,Z,Y,u,h4,h5,l,B,k,h9,TJ,TK,TL,Q9,F⟩,r⟩:=qc ok h;refine#[y,_,ps,k,h4,u,#[λc H Q E q=>q.1.trans k.symm,λA outer s H args i c Q E _ _ _ _ q=>?_],Q9,F];obtain⟨_,W,dr,b,S,J,_,_,_,q⟩:=q;exact q.elim⟩
 |n+1=>⟨λx f z fN bA h=>by
   have ih:=mG hm t ok n;obtain⟨fn,⟨y,ps,N,M,δ,κ,m,o,od,O,v,a,body,scope,I,kV,p,pm,gz,ct,Z,Y,u,h4,h5,l,B,k,h9,TJ,TK,TL,Q9,F⟩,r⟩:=qc ok h;rw[Nat.zero_add]at h9;refine#[y,_,ps,k,h4,u,?_,Q9,F];have:=oF Z Y h5 hm t ih l B h9;have e:(az fs<|n+1) f=gR (az fs n) #[ps.length,N.length,bA,fn.body]:=by funext args S;show (match fs[f]? with|some g=>gR (az fs n) g args S|none=>R.bad)=_;rw[r];obtain⟨a1,L,j,X⟩:=fn;subst TJ TK TL;rfl
   have U9:ps.length=z:=k;rw[e,<-U9];exact this⟩
def Dl(K:Frag):Sp:=λc H Q _=>∃(a:Addr)(ns:List Int),c=[.ref a]/\d8 K H a (ns.map V.int)/\ns.length<=63/\∀L,Q (.bl J') L
theorem len0{P:List Value->Prop}(h:P []):∀i:List Value,i.length=0->P i:=λi e=>List.eq_nil_of_length_eq_zero e▸h
theorem lenS{P:List Value->Prop}(h:∀a(i:List Value),i.length=n->P (a::i)):∀i:List Value,i.length=n+1->P i:=λi e=>by
 cases i with
 |nil=>cases e
 |cons a t=>exact h a t<|Nat.succ.inj e
theorem binds0(h:∀i:List Value,i.length=ps.length->bindArgs fd #[i,[]]=pure (ps.zip i)):∀j,j<=([]:List Dt).length->∃ds,au ((([]:List Dt).drop j).map uJ) ds/\Binds K fd ps ds:=λj F=>by
 have:j=0:=by simpa using F
 subst this;exact#[[],.nil,Binds.all h]
def We(names:List (Str×NameKind))(ps:List Str):List Str:=ps++names.filterMap λp=>if Fw (B' p.2)&& !ps.contains p.1 then B' p.1 else G'
def NX(N ms:List Str):List Bool:=N.map λx=>ms.contains x
theorem NW{N ms ps:List Str}(h:((NX N ms).take ps.length).all (λb=> !b)=J'):∀i,i<ps.length->(NX N ms)[i]?≠B' J':=λi hi e=>by have A:=YI.mpr #[i,by rw[Yr hi];exact e];have:=XI.mp h J' A;cases this
end
end Rx
end
section
namespace Rx
open PySem PySem.W PySem.Spec PyProof.Rows L2
section
variable{S:Sx}{ρ:aj}
theorem ej(P:List Dt->aj->Prop)(h0:P [] ρ)
  (g:∀pre x o ρ,ds=pre++x::o->P pre ρ->∃ρ1 v,dS tg x ρ= .ok ρ1/\body ρ1 S= .ok (.next,v,S)/\P (pre++[x]) v):∃i,forL tg body ds ρ S= .ok (.next,i,S)/\P ds i:=by
 have key:∀(o pre:List Dt)(ρ:aj),ds=pre++o->P pre ρ->∃i,forL tg body o ρ S= .ok (.next,i,S)/\P ds i:=by
  intro o
  induction o with
  |nil=>intro pre ρ e h;rw[XO]at e;subst e;exact#[ρ,rfl,h]
  |cons x o ih=>intro pre ρ e h;obtain⟨ρ1,v,Z,Y,u⟩:=g pre x o ρ e h;obtain⟨i,Q,n⟩:=ih (pre++[x]) v (by rw[e];simp) u;refine#[i,?_,n];rw[forL,Z,R.ah,Y];exact Q
 exact key ds [] ρ rfl h0
theorem Bx(P:List Dt->aj->Prop)(T:Dt->Prop)(h0:P [] ρ)
  (g:∀pre x o ρ,ds=pre++x::o->P pre ρ->∃ρ1 v,dS tg x ρ= .ok ρ1/\((body ρ1 S= .ok (.next,v,S)/\P (pre++[x]) v)\/∃d,body ρ1 S= .ok (.ret d,v,S)/\T d)):
  (∃i,forL tg body ds ρ S= .ok (.next,i,S)/\P ds i)\/∃d i,forL tg body ds ρ S= .ok (.ret d,i,S)/\T d:=by
 have key:∀(o pre:List Dt)(ρ:aj),ds=pre++o->P pre ρ->(∃i,forL tg body o ρ S= .ok (.next,i,S)/\P ds i)\/∃d i,forL tg body o ρ S= .ok (.ret d,i,S)/\T d:=by
  intro o
  induction o with
  |nil=>intro pre ρ e h;rw[XO]at e;subst e;exact .inl #[ρ,rfl,h]
  |cons x o ih=>
   intro pre ρ e h;obtain⟨ρ1,v,Z,Y|⟨d,Y,u⟩⟩:=g pre x o ρ e h
   ·rw[forL,Z,R.ah,Y.1];exact ih (pre++[x]) v (by rw[e];simp) Y.2
   ·exact .inr #[d,v,by rw[forL,Z,R.ah,Y,R.ah],u]
 exact key ds [] ρ rfl h0
theorem kI{α p:Type}(f:α->p):∀l:List α,(l.flatMap λx=>[f x])=l.map f
 |[]=>rfl
 |x::l=>by rw[Yn,kI f l];rfl
end
theorem yw(h:fs[k]?=B' g):az fs (n+1) k args S=gR (az fs n) g args S:=by show (match fs[k]? with|some g=>gR (az fs n) g args S|none=>R.bad)=_;rw[h]
def N2(d:Dt)(S:Sx):R (Dt×Sx):=match d with|.int i=>.ok (.int<|-i,S)|_=>.bad
def Uu(d:Dt)(S:Sx):R (Dt×Sx):=match d with|.bl b=>.ok (.bl !b,S)|_=>.bad
def Mq(d:Dt)(S:Sx):R (Dt×Sx):=match d with|.bl c=>.ok (.bl c,S)|_=>.bad
def Ir(f:Sx->R (Dt×Sx))(d:Dt)(S:Sx):R (Dt×Sx):=match d with|.bl J'=>(f S).bind (λy=>Mq y.1 y.2)|.bl K'=>.ok (.bl K',S)|_=>.bad
def Sj(f:Sx->R (Dt×Sx))(d:Dt)(S:Sx):R (Dt×Sx):=match d with|.bl K'=>(f S).bind (λy=>Mq y.1 y.2)|.bl J'=>.ok (.bl J',S)|_=>.bad
def HE(k:List Dt->Dt)(ds:List Dt)(S:Sx):R (Dt×Sx):=af (decide (ds.length<=lim))<|.ok (k ds,S)
def R4(o:Option (List Dt))(S:Sx):R (List Dt×Sx):=match o with|some ds=>.ok (ds,S)|none=>.bad
def OR(d e:Dt)(S:Sx):R (Dt×Sx):=match e with|.int i=>(iE d (B' i) G').bind λd=>.ok (d,S)|_=>.bad
def OQ(d e:Dt)(S:Sx):R (Dt×Sx):=match e with|.int i=>(iE d G'<|B' i).bind λd=>.ok (d,S)|_=>.bad
theorem RX:
  (∀{F:FT}{S:Sx}{ρ:aj}{d:Dt},ev F (.con d) ρ S= .ok (d,S))/\
  (∀{F:FT}{S:Sx}{ρ:aj}{i:Nat},ev F (.var i) ρ S=(bZ ρ i).bind λd=>.ok (d,S))/\
  (∀{F:FT}{S:Sx}{ρ:aj}{i:Nat},ev F (.mvr i) ρ S=(bZ ρ i).bind λd=>.ok (d,S))/\
  (∀{F:FT}{S:Sx}{ρ:aj}{o:Operator}{a b:C},ev F (.bin o a b) ρ S=(ev F a ρ S).bind λx=>(ev F b ρ x.2).bind λy=>(qE o x.1 y.1).bind λd=>.ok (d,y.2))/\
  (∀{F:FT}{S:Sx}{ρ:aj}{o:CmpOp}{a b:C},ev F (.cmp o a b) ρ S=(ev F a ρ S).bind λx=>(ev F b ρ x.2).bind λy=>(cZ o x.1 y.1).bind λd=>.ok (.bl d,y.2))/\
  (∀{F:FT}{S:Sx}{ρ:aj}{a:C},ev F (.neg a) ρ S=(ev F a ρ S).bind λx=>N2 x.1 x.2)/\
  (∀{F:FT}{S:Sx}{ρ:aj}{a:C},ev F (.nt a) ρ S=(ev F a ρ S).bind λx=>Uu x.1 x.2)/\
  (∀{F:FT}{S:Sx}{ρ:aj}{a b:C},ev F (.and a b) ρ S=(ev F a ρ S).bind λx=>Ir (ev F b ρ) x.1 x.2)/\
  (∀{F:FT}{S:Sx}{ρ:aj}{a b:C},ev F (.or a b) ρ S=(ev F a ρ S).bind λx=>Sj (ev F b ρ) x.1 x.2)/\
  (∀{F:FT}{S:Sx}{ρ:aj}{a b c:C},ev F (.ite a b c) ρ S=(cz F a ρ S).bind λx=>if x.1=J' then ev F b ρ x.2 else ev F c ρ x.2)/\
  (∀{F:FT}{S:Sx}{ρ:aj}{a b:C},ev F (.idx a b) ρ S=(ev F a ρ S).bind λx=>(ev F b ρ x.2).bind λy=>(cD x.1 y.1).bind λd=>.ok (d,y.2))/\
  (∀{F:FT}{S:Sx}{ρ:aj}{a b:C},ev F (.sliL a b) ρ S=(ev F a ρ S).bind λx=>(ev F b ρ x.2).bind λy=>OR x.1 y.1 y.2)/\
  (∀{F:FT}{S:Sx}{ρ:aj}{a b:C},ev F (.sliH a b) ρ S=(ev F a ρ S).bind λx=>(ev F b ρ x.2).bind λy=>OQ x.1 y.1 y.2)/\
  (∀{F:FT}{S:Sx}{ρ:aj}{f:Nat}{es:Cs}{ds:List Dt},ev F (.call f es ds) ρ S=(gq F es ρ S).bind λx=>(F f (x.1++ds) G').bind λy=>.ok (y.1,x.2))/\
  (∀{F:FT}{S:Sx}{ρ:aj}{u:BI}{es:Cs},ev F (.bi u es) ρ S=(gq F es ρ S).bind λx=>(dU u x.1).bind λd=>.ok (d,x.2))/\
  (∀{F:FT}{S:Sx}{ρ:aj}{es:Cs},ev F (.tup es) ρ S=(gq F es ρ S).bind λx=>HE .tup x.1 x.2)/\
  (∀{F:FT}{S:Sx}{ρ:aj}{es:Cs},ev F (.lst es) ρ S=(gq F es ρ S).bind λx=>HE .lst x.1 x.2)/\
  (∀{F:FT}{S:Sx}{ρ:aj},gq F .nil ρ S= .ok ([],S))/\
  (∀{F:FT}{S:Sx}{ρ:aj}{a:C}{es:Cs},gq F (.cons a es) ρ S=(ev F a ρ S).bind λx=>(gq F es ρ x.2).bind λy=>.ok (x.1::y.1,y.2))/\
  (∀{F:FT}{S:Sx}{ρ:aj}{o:CmpOp}{a b:C},cz F (.cmp o a b) ρ S=(ev F a ρ S).bind λx=>(ev F b ρ x.2).bind λy=>(cZ o x.1 y.1).bind λd=>.ok (d,y.2))/\
  (∀{F:FT}{S:Sx}{ρ:aj}{a b:C},cz F (.and a b) ρ S=(cz F a ρ S).bind λx=>if x.1=J' then cz F b ρ x.2 else .ok (K',x.2))/\
  (∀{F:FT}{S:Sx}{ρ:aj}{a b:C},cz F (.or a b) ρ S=(cz F a ρ S).bind λx=>if x.1=J' then .ok (J',x.2) else cz F b ρ x.2)/\
  (∀{F:FT}{S:Sx}{ρ:aj}{a:C},cz F (.nt a) ρ S=(cz F a ρ S).bind λx=>.ok (!x.1,x.2))/\
  (∀{F:FT}{S:Sx}{ρ:aj}{f:Nat}{es:Cs}{ds:List Dt},cz F (.call f es ds) ρ S=(gq F es ρ S).bind λx=>(F f (x.1++ds) G').bind λy=>(cK y.1).bind λb=>.ok (b,x.2))/\
  (∀{F:FT}{S:Sx}{ρ:aj}{u:BI}{es:Cs},cz F (.bi u es) ρ S=(gq F es ρ S).bind λx=>(dU u x.1).bind λd=>(cK d).bind λb=>.ok (b,x.2))/\
  (∀{F:FT}{S:Sx}{ρ:aj}{i:Nat},cz F (.var i) ρ S=(bZ ρ i).bind λd=>(cK d).bind λb=>.ok (b,S))/\
  (∀{F:FT}{S:Sx}{ρ:aj}{i:Nat},cz F (.mvr i) ρ S=(bZ ρ i).bind λd=>(cK d).bind λb=>.ok (b,S))/\
  (∀{F:FT}{S:Sx}{ρ:aj}{a b:C},cz F (.idx a b) ρ S=(ev F a ρ S).bind λx=>(ev F b ρ x.2).bind λy=>(cD x.1 y.1).bind λd=>(cK d).bind λb=>.ok (b,y.2))/\
  (∀{F:FT}{S:Sx}{ρ:aj},bM F .nil ρ S= .ok (J',S))/\
  (∀{F:FT}{S:Sx}{ρ:aj}{a:C},bM F (.cons a .nil) ρ S=cz F a ρ S)/\
  (∀{F:FT}{S:Sx}{ρ:aj}{a:C},eO F (.seq a) ρ S=(ev F a ρ S).bind λx=>R4 (gU x.1) x.2)/\
  (∀{F:FT}{S:Sx}{ρ:aj}{a:C},eO F (.enum a) ρ S=(ev F a ρ S).bind λx=>R4 ((cg x.1).map<|wW 0) x.2)/\
  (∀{d:Dt}{ρ:aj},bZ (B' d::ρ) 0= .ok d)/\
  (∀{e:Option Dt}{ρ:aj}{i:Nat},bZ (e::ρ) (i+1)=bZ ρ i)/\
  (∀{S:Sx}{i:Int},N2 (.int i) S= .ok (.int<|-i,S))/\
  (∀{S:Sx}{b:Bool},Uu (.bl b) S= .ok (.bl !b,S))/\
  (∀{S:Sx}{f:Sx->R (Dt×Sx)},Ir f (.bl K') S= .ok (.bl K',S))/\
  (∀{S:Sx}{f:Sx->R (Dt×Sx)},Ir f (.bl J') S=(f S).bind λy=>Mq y.1 y.2)/\
  (∀{S:Sx}{f:Sx->R (Dt×Sx)},Sj f (.bl J') S= .ok (.bl J',S))/\
  (∀{S:Sx}{f:Sx->R (Dt×Sx)},Sj f (.bl K') S=(f S).bind λy=>Mq y.1 y.2)/\
  (∀{S:Sx}{b:Bool},Mq (.bl b) S= .ok (.bl b,S))/\
  (∀{S:Sx}{ds:List Dt},R4 (B' ds) S= .ok (ds,S))/\
  (∀{ds:List Dt}{f:List Dt->List Dt},(B' ds).map f=B' (f ds))/\
  (∀{S:Sx}{k:List Dt->Dt},HE k [] S= .ok (k [],S))/\
  (∀{S:Sx}{k:List Dt->Dt}{a:Dt},HE k [a] S= .ok (k [a],S))/\
  (∀{S:Sx}{k:List Dt->Dt}{a b:Dt},HE k [a,b] S= .ok (k [a,b],S))/\
  (∀{S:Sx}{k:List Dt->Dt}{a b c:Dt},HE k [a,b,c] S= .ok (k [a,b,c],S))/\
  (∀{S:Sx}{k:List Dt->Dt}{a b c d:Dt},HE k [a,b,c,d] S= .ok (k [a,b,c,d],S))/\
  (∀{S:Sx}{k:List Dt->Dt}{a b c d e:Dt},HE k [a,b,c,d,e] S= .ok (k [a,b,c,d,e],S))/\
  (∀{S:Sx}{d:Dt}{i:Int},OR d (.int i) S=(iE d (B' i) G').bind λd=>.ok (d,S))/\
  (∀{S:Sx}{d:Dt}{i:Int},OQ d (.int i) S=(iE d G'<|B' i).bind λd=>.ok (d,S))/\
  (∀{m n:Int},qE .Add (.int m) (.int n)= .ok (.int<|m+n))/\
  (∀{m n:Int},qE .Sub (.int m) (.int n)= .ok (.int<|m-n))/\
  (∀{m n:Int},cZ .Lt (.int m) (.int n)= .ok (decide (m<n)))/\
  (∀{m n:Int},cZ .LtE (.int m) (.int n)= .ok (decide (m<=n)))/\
  (∀{m n:Int},cZ .Gt (.int m) (.int n)= .ok (decide (n<m)))/\
  (∀{m n:Int},cZ .GtE (.int m) (.int n)= .ok (decide (n<=m)))/\
  (∀{m n:Int},cZ .Eq (.int m) (.int n)= .ok (m==n))/\
  (∀{m n:Int},cZ .NotEq (.int m) (.int n)= .ok (!(m==n)))/\
  (∀{m n:Str},cZ .Eq (.str m) (.str n)= .ok (m==n))/\
  (∀{m n:Str},cZ .NotEq (.str m) (.str n)= .ok (!(m==n)))/\
  (∀{ns:List Int},dU .len [.ir ns]= .ok (.int ns.length))/\
  (∀{ds:List Dt},dU .len [.lst ds]= .ok (.int ds.length))/\
  (∀{ds:List Dt},dU .len [.tup ds]= .ok (.int ds.length))/\
  (∀{ds:List Dt},dU .tuple [.lst ds]= .ok (.tup ds))/\
  (∀{ds:List Dt},dU .tuple [.tup ds]= .ok (.tup ds))/\
  (∀{ds:List Dt},dU .list [.lst ds]= .ok (.lst ds))/\
  (∀{ds:List Dt},dU .list [.tup ds]= .ok (.lst ds))/\
  (∀{m n:Int},dU .min2 [.int m,.int n]= .ok (.int<|if n<m then n else m))/\
  (∀{m n:Int},dU .max2 [.int m,.int n]= .ok (.int<|if n>m then n else m))/\
  (∀{t:Bool},cK (.bl t)= .ok t)/\
  (∀{ds:List Dt},cK (.lst ds)= .ok !ds.isEmpty)/\
  (∀{ds:List Dt},cK (.tup ds)= .ok !ds.isEmpty)/\
  (∀{ds:List Dt},itemsOf (.lst ds)=B' ds)/\
  (∀{ds:List Dt},itemsOf (.tup ds)=B' ds)/\
  (∀{ds:List Dt},gU (.lst ds)=B' ds)/\
  (∀{ds:List Dt},gU (.tup ds)=B' ds)/\
  (∀{z:Str},gU (.str z)=B' (z.cps.toList.map λc=>.str ⟨#[c]⟩))/\
  (∀{ds:List Dt},cg (.lst ds)=B' ds)/\
  (∀{ds:List Dt},cg (.tup ds)=B' ds)/\
  (∀{α p:Type}{x:α}{f:α->R p},(R.ok x).bind f=f x)/\
  (∀{α:Type}{r:R α},af J' r=r)/\
  (∀{ds:List Dt},(ds++[]:List Dt)=ds)/\
  (∀{e v:Option Dt}{ρ:aj},(e::ρ).set 0 v=v::ρ)/\
  (∀{e v:Option Dt}{ρ:aj}{i:Nat},(e::ρ).set (i+1) v=e::ρ.set i v)/\
  (∀{d:Dt}{ρ:aj}{i:Nat},dS (.nm i) d ρ= .ok (ρ.set i<|B' d))/\
  (∀{is:List Nat}{ds:List Dt}{ρ:aj},dS (.tp is) (.tup ds) ρ=gj is ds ρ)/\
  (∀{is:List Nat}{ds:List Dt}{ρ:aj},dS (.tp is) (.lst ds) ρ=gj is ds ρ)/\
  (∀{ρ:aj},gj [] [] ρ= .ok ρ)/\
  (∀{i:Nat}{is:List Nat}{d:Dt}{ds:List Dt}{ρ:aj},gj (i::is) (d::ds) ρ=gj is ds (ρ.set i<|B' d))/\
  (∀{d:Dt},cD (.tup [d]) (.int 0)= .ok d)/\
  (∀{d j:Dt},cD (.tup [d,j]) (.int 0)= .ok d)/\
  (∀{d j:Dt},cD (.tup [d,j]) (.int 1)= .ok j)/\
  (∀{d j g:Dt},cD (.tup [d,j,g]) (.int 0)= .ok d)/\
  (∀{d j g:Dt},cD (.tup [d,j,g]) (.int 1)= .ok j)/\
  (∀{d j g:Dt},cD (.tup [d,j,g]) (.int 2)= .ok g):=by
 repeat' apply And.intro
 all_goals
  intros
  first
  |rfl
  |exact XO _
  |(rename_i F S ρ a;rw[vO];cases ev F a ρ S with|ok x=>(simp only[R.ah];cases cg x.1<;>rfl)|ex k=>rfl|bad=>rfl)
section
variable{F:FT}{S:Sx}{ρ:aj}
theorem cC(h:i.natAbs<2^64\/j.natAbs<2^64):qE .Mult (.int i) (.int j)= .ok (.int<|i*j):=by show af (decide (i.natAbs<2^64)||decide (j.natAbs<2^64)) _=_;rw[show (decide (i.natAbs<2^64)||decide (j.natAbs<2^64))=J' by simpa using h];rfl
theorem Cq(h:j≠0):qE .Mod (.int i) (.int j)= .ok (.int<|i.fmod j):=by show af (decide (j≠0)) _=_;rw[Xz h];rfl
theorem fW(h:0<j):qE .Mod (.int i) (.int j)= .ok (.int<|i % j):=by rw[Cq ⋯,Int.fmod_eq_emod_of_nonneg i ⋯]
theorem FQ(h:j≠0)(Y:j.natAbs.log2<9000):qE .FloorDiv (.int i) (.int j)= .ok (.int<|i.fdiv j):=by show af (decide (j≠0)&&decide (j.natAbs.log2<9000)) _=_;rw[Xz h,Xz Y];rfl
theorem qG(h:0<j)(Y:j.natAbs.log2<9000):qE .FloorDiv (.int i) (.int j)= .ok (.int<|i/j):=by rw[FQ ⋯ Y,Int.fdiv_eq_ediv_of_nonneg i ⋯]
def fin(r:RS):R (Dt×Sx):=r.bind λp=>match p.1 with
 |.next=>.ok (.bX,p.2.2)
 |.ret d=>.ok (d,p.2.2)
 |_=>.bad
def Ts.app:Ts->Ts->Ts
 |.nil,b=>b
 |.cons t a,b=>.cons t<|a.app b
theorem qa:∀{a b:Ts}{ρ:aj}{S:Sx},aO F (a.app b) ρ S=(aO F a ρ S).bind λp=>match p.1 with
  |.next=>aO F b p.2.1 p.2.2
  |f=>.ok (f,p.2)
 |.nil,b,ρ,S=>rfl
 |.cons t a,b,ρ,S=>by
  show aO F (.cons t<|a.app b) ρ S=_;rw[bp,bp];cases ex F t ρ S with
  |ok p=>
   obtain⟨f,ρ1,S1⟩:=p;cases f with
   |next=>exact qa
   |brk=>rfl
   |cnt=>rfl
   |ret d=>rfl
  |ex k=>rfl
  |bad=>rfl
section
variable{r:R (Dt×Sx)}{ts:Ts}
theorem fk(h:ex F t ρ S= .ok (.next,ρ1,S1))(k:fin (aO F ts ρ1 S1)=r):fin (aO F (.cons t ts) ρ S)=r:=by rw[bp,h];exact k
theorem qb(h:ex F t ρ S= .ok (.ret d,ρ1,S1)):fin (aO F (.cons t ts) ρ S)= .ok (d,S1):=by rw[bp,h];rfl
theorem aN(h:ev F c ρ S= .ok (d,S1))(w:bP c d=J')(k:fin (aO F ts (ρ.set i<|B' d) S1)=r):fin (aO F (.cons (.asg i c) ts) ρ S)=r:=by refine fk ?_ k;rw[lz,h,R.ah,w];rfl
theorem eh(h:ev F c ρ S= .ok (d,S1))(w:yC c d=J')(k:fin (aO F ts (ρ.set i<|B' d) S1)=r):fin (aO F (.cons (.asgM i c) ts) ρ S)=r:=by refine fk ?_ k;rw[mL,h,R.ah,w];rfl
theorem aA(h:ev F c ρ S= .ok (d,S1)):fin (aO F (.cons (.ret c) ts) ρ S)= .ok (d,S1):=by refine qb (ρ1:=ρ) ?_;rw[lA,h];rfl
theorem Bu(h:cz F t ρ S= .ok (x,S1))(k:fin (aO F ((if x=J' then a else b).app ts) ρ S1)=r):fin (aO F (.cons (.ifs t a b) ts) ρ S)=r:=by rw[<-k,qa,bp,qQ,h];cases x<;>rfl
theorem jj(h:cz F t ρ S= .ok (J',S1))(k:fin (aO F (a.app ts) ρ S1)=r):fin (aO F (.cons (.ifs t a b) ts) ρ S)=r:=Bu h (by rw[Zn rfl];exact k)
theorem dR(h:cz F t ρ S= .ok (K',S1))(k:fin (aO F (b.app ts) ρ S1)=r):fin (aO F (.cons (.ifs t a b) ts) ρ S)=r:=Bu h (by rw[Zm (by simp)];exact k)
theorem cn(h:eO F it ρ S= .ok (ds,S1))(W:uI it=0)(hf:forL tg (aO F b) ds ρ S1= .ok (.next,ρ1,S2))(k:fin (aO F ts ρ1 S2)=r):fin (aO F (.cons (.fr tg it b) ts) ρ S)=r:=by refine fk ?_ k;rw[qP,h,Xz W];exact hf
end
end
theorem bg(h:fs[k]?=B' #[ps,m,K',body])(P:1<=n)(W:args.length=ps)(q:fin (aO (az fs<|n-1) body (args.map B'++List.replicate (m-ps) G') S)=r):az fs n k args S=r:=by obtain⟨n,rfl⟩:∃m,n=m+1:=#[n-1,⋯];rw[yw h];unfold gR;simp only[X2,Zl,Nat.add_zero,W,Zo];exact q
section
variable{F:FT}{S S1 S2:Sx}{ρ ρ1:aj}{ts:Ts}{r:RS}{d:Dt}{ds:List Dt}
theorem nx(h:ex F t ρ S= .ok (.next,ρ1,S1))(k:aO F ts ρ1 S1=r):aO F (.cons t ts) ρ S=r:=by rw[bp,h];exact k
theorem bh(h:ev F c ρ S= .ok (d,S1))(w:bP c d=J')(k:aO F ts (ρ.set i<|B' d) S1=r):aO F (.cons (.asg i c) ts) ρ S=r:=by refine nx ?_ k;rw[lz,h,R.ah,w];rfl
theorem J7(h:ev F c ρ S= .ok (d,S1)):aO F (.cons (.ret c) ts) ρ S= .ok (.ret d,ρ,S1):=by rw[bp,lA,h];rfl
theorem HF(h:cz F t ρ S= .ok (x,S1))(k:aO F ((if x=J' then a else b).app ts) ρ S1=r):aO F (.cons (.ifs t a b) ts) ρ S=r:=by rw[<-k,qa,bp,qQ,h];cases x<;>rfl
theorem qD(h:cz F t ρ S= .ok (J',S1))(k:aO F (a.app ts) ρ S1=r):aO F (.cons (.ifs t a b) ts) ρ S=r:=HF h (by rw[Zn rfl];exact k)
theorem jE(h:cz F t ρ S= .ok (K',S1))(k:aO F (b.app ts) ρ S1=r):aO F (.cons (.ifs t a b) ts) ρ S=r:=HF h (by rw[Zm (by simp)];exact k)
theorem qo(W:ρ[i]?=B' (B'<|.lst ds)):isLE ρ i=J':=by unfold isLE;rw[W]
theorem lq(W:ρ[i]?=B' (B'<|.lst ds)):jA ρ i= .ok ds:=by unfold jA;rw[W]
theorem IX(W:ρ[i]?=B' (B'<|.lst ds))(h:ev F c ρ S= .ok (d,S1))(w:bP c d=J')(k:ds.length<=lim):ex F (.app i c) ρ S= .ok (.next,ρ.set i<|B'<|.lst<|ds++[d],S1):=by rw[Gv,qo W,h,R.ah,w,lq W,R.ah,Xz k];rfl
theorem wY(W:ρ[i]?=B' (B'<|.lst ds))(h:ev F v ρ S= .ok (d,S1))(Y:ev F k ρ S1= .ok (.int n,S2))(w:bP v d=J')(hz:qq ds.length n=B' j):ex F (.vW i k v) ρ S= .ok (.next,ρ.set i<|B'<|.lst<|ds.set j d,S2):=by rw[C3,qo W,h,R.ah,Y,R.ah,w,lq W];show (match qq ds.length n with|some j=>R.ok (Fl.next,ρ.set i<|B'<|.lst<|ds.set j d,S2)|none=>.bad)=_;rw[hz]
theorem IY(W:ρ[i]?=B' (B'<|.lst ds)):ex F (.rvs i) ρ S= .ok (.next,ρ.set i<|B'<|.lst ds.reverse,S):=by rw[yo,lq W];rfl
theorem j8(W:ρ[i]?=B' (B'<|.lst ds))(h:ev F c ρ S= .ok (d,S1))(w:bP c d=J')(hz:ds.length<=lim)(k:aO F ts (ρ.set i<|B'<|.lst<|ds++[d]) S1=r):aO F (.cons (.app i c) ts) ρ S=r:=nx (IX W h w hz) k
theorem rj(hd:itemsOf d=B' ds):gU d=B' ds:=by
 cases d with
 |str=>cases hd
 |_=>exact hd
theorem cQ(h:ev F c ρ S= .ok (d,S1))(hd:itemsOf d=B' ds):eO F (.seq c) ρ S= .ok (ds,S1):=by show (ev F c ρ S).bind (λx=>match gU x.1 with|some ds=>R.ok (ds,x.2)|none=>.bad)=_;rw[h,R.ah];rw[rj hd]
theorem gJ{n:Nat}(h:ev F c ρ S= .ok (.int n,S1))(P:n<=lim):eO F (.rng1 c) ρ S= .ok (bD 0 n,S1):=by show (ev F c ρ S).bind (λx=>match x.1 with|.int j=>af (decide (j<=lim)&&decide (-lim<=j)) (.ok (bD 0 j.toNat,x.2))|_=>.bad)=_;rw[h,R.ah];show af (decide ((n:Int)<=lim)&&decide (-lim<=(n:Int))) (R.ok (bD 0 (n:Int).toNat,S1))=_;rw[show (decide ((n:Int)<=lim)&&decide (-lim<=(n:Int)))=J' by have:lim=1000000:=rfl;simp;lia];simp
theorem JF(t:ev F a ρ S= .ok (da,S1))(M:ev F b ρ S1= .ok (db,S2))(Z:cg da=B' xs)(Y:cg db=B' ys):eO F (.zip a b) ρ S= .ok (jU xs ys,S2):=by show (ev F a ρ S).bind (λx=>(ev F b ρ x.2).bind λy=>match cg x.1,cg y.1 with|some xs,B' ys=>R.ok (jU xs ys,y.2)|_,_=>.bad)=_;rw[t,R.ah,M,R.ah];rw[Z,Y]
def bz(F:FT)(e:C):aj->Sx->R (List Dt×Sx):=λρ1 S1=>(ev F e ρ1 S1).bind λy=>af (bP e y.1)<|.ok ([y.1],y.2)
theorem bN(h:eO F it ρ S= .ok (ds,S1))(W:ds.length<=lim)(g:(decide (uI it<=1)||iA F it ρ S)=J')(K:aP (aU tg (bM F cs) (bz F e)<|iM cap ρ) ds S1= .ok (out,S2)):
  ev F (.comp cap it tg cs e) ρ S= .ok (.lst out,S2):=by
 rw[jK,h,R.ah,Xz W,g,XZ];show (aP (aU tg (bM F cs) (bz F e)<|iM cap ρ) ds S1).bind _=_;rw[K];rfl
theorem bt(w:dS tg d ρ= .ok ρ1)(P:ev F e ρ1 S= .ok (y,S1))(M:bP e y=J'):aU tg (bM F .nil) (bz F e) ρ d S= .ok ([y],S1):=by unfold aU bz;rw[w,R.ah,kc,R.ah];simp only[Zo,P,R.ah,M,guard_true]
theorem JA{k:Nat}(h:ds[k]?=B' d):cD (.tup ds) (.int k)= .ok d/\cD (.lst ds) (.int k)= .ok d:=by
 have:AB ds k= .ok d:=by unfold AB;rw[L2.pK h]
 exact#[this,this]
end
mutual
theorem HL:∀m:Mx.D,pl (ofD m)=J'
 |.int _=>by simp[ofD,pl]
 |.str _=>by simp[ofD,pl]
 |.tup ms=>by simp[ofD,pl,vL ms]
theorem vL:∀ms:List Mx.D,qJ (aa ms)=J'
 |[]=>by simp[aa,qJ]
 |m::ms=>by simp[aa,qJ,HL m,vL ms]
end
mutual
theorem rY:∀m:Mx.D,dp (ofD m)=Mx.D.dep m
 |.int _=>by simp[ofD,dp,Mx.D.dep]
 |.str _=>by simp[ofD,dp,Mx.D.dep]
 |.tup ms=>by simp[ofD,dp,Mx.D.dep,u5 ms]
theorem u5:∀ms:List Mx.D,u4 (aa ms)=Mx.D.bq ms
 |[]=>by simp[aa,u4,Mx.D.bq]
 |m::ms=>by simp[aa,u4,Mx.D.bq,rY m,u5 ms]
end
mutual
theorem cT:∀m:Mx.D,lx (ofD m)=J'
 |.int _=>by simp[ofD,lx]
 |.str _=>by simp[ofD,lx]
 |.tup ms=>by simp[ofD,lx,g9 ms]
theorem g9:∀ms:List Mx.D,kU (aa ms)=J'
 |[]=>by simp[aa,kU]
 |m::ms=>by simp[aa,kU,cT m,g9 ms]
end
mutual
theorem Hk:∀a b:Mx.D,cU (ofD a) (ofD b)=Mx.D.iH a b
 |.int i,.int j=>by simp[ofD,cU,Mx.D.iH]
 |.str i,.str j=>by simp[ofD,cU,Mx.D.iH]
 |.tup i,.tup j=>by simp[ofD,cU,Mx.D.iH,Bl i j]
 |.int _,.str _=>by simp[ofD,cU,Mx.D.iH]
 |.int _,.tup _=>by simp[ofD,cU,Mx.D.iH]
 |.str _,.int _=>by simp[ofD,cU,Mx.D.iH]
 |.str _,.tup _=>by simp[ofD,cU,Mx.D.iH]
 |.tup _,.int _=>by simp[ofD,cU,Mx.D.iH]
 |.tup _,.str _=>by simp[ofD,cU,Mx.D.iH]
theorem Bl:∀a b:List Mx.D,cH (aa a) (aa b)=Mx.D.eqs a b
 |[],[]=>by simp[aa,cH,Mx.D.eqs]
 |[],_::_=>by simp[aa,cH,Mx.D.eqs]
 |_::_,[]=>by simp[aa,cH,Mx.D.eqs]
 |a::as,b::bs=>by simp[aa,cH,Mx.D.eqs,Hk a b,Bl as bs]
end
theorem Ew(h:Mx.D.dep a<=100):cZ .Eq (ofD a) (ofD b)= .ok (decide (a=b)):=by show af (nM (ofD a)<|ofD b) (.ok<|cU (ofD a)<|ofD b)=_;rw[show nM (ofD a) (ofD b)=J' by simp[nM,HL,rY,h],guard_true,Hk,Mx.D.jg]
theorem aK(a b):aa (a++b)=aa a++aa b:=by simp[aQ]
theorem ar(a):(aa a).length=a.length:=by simp[aQ]
theorem f6(h:aa a=pre++x::post):∃p y q,a=p++y::q/\pre=aa p/\x=ofD y/\post=aa q:=by rw[aQ]at h;obtain⟨p,r,B,E,J⟩:=List.map_eq_append_iff.mp h;obtain⟨y,q,n,X,e6⟩:=List.map_eq_cons_iff.mp J;exact#[p,y,q,by rw[B,n],by rw[aQ,E],X.symm,by rw[aQ,e6]]
theorem gV(h:je ms=J'):dU .sorted [.lst (aa ms)]= .ok (.lst<|aa<|aG ms)/\dU .sorted [.tup (aa ms)]= .ok (.lst<|aa<|aG ms):=by
 constructor
 ·show (match dP (aa ms)with|some ms=>af (je ms) (R.ok<|Dt.lst<|aa<|aG ms)|none=>.bad)=_;rw[aW];show af (je ms) _=_;rw[h];rfl
 ·show (match dP (aa ms)with|some ms=>af (je ms) (R.ok<|Dt.lst<|aa<|aG ms)|none=>.bad)=_;rw[aW];show af (je ms) _=_;rw[h];rfl
theorem AV(k)(W:Mx.SL ms=J')(hd:Mx.D.bq ms<=100)(g:∀d∈ms,NQ k d=J')(J:∀d∈ms,∀e∈ms,lp d e=J'):je ms=J':=by
 have a:([Mx.SK.tt,.ts,.ti,.s,.i].any λk=>ms.all<|NQ k)=J':=by rw[XJ];exact#[k,by cases k<;>simp,XI.mpr g]
 unfold je;rw[a,W,Xz hd];simp only[Bool.true_and,XQ];exact .inr<|XI.mpr λd h=>XI.mpr λe Y=>J d h e Y
theorem eV:∀{ms:List Mx.D},(∀d∈ms,Mx.D.dep d<=n)->Mx.D.bq ms<=n
 |[],_=>by simp[Mx.D.bq]
 |m::ms,h=>by
  have Z:=h m Xc;have Y:=eV λd hd=>h d (W9 _ hd)
  simp only[Mx.D.bq]
  lia
theorem aY(ms):(aG ms).Perm ms:=List.mergeSort_perm ..
theorem bR:d∈aG ms↔d∈ms:=(aY ms).mem_iff
theorem zD(a b c)(Z:ll a b=J')(Y:ll b c=J'):ll a c=J':=by
 unfold ll at *;simp only[X4]at *;cases h:Mx.D.lt c a with
 |false=>rfl
 |true=>
  exfalso;cases u:Mx.D.lt a b with
  |true=>rw[Mx.D.lt_trans c a b h u]at Y;cases Y
  |false=>have:=Mx.D.fw a b u Z;subst this;rw[h]at Y;cases Y
theorem zC(a b):(ll a b||ll b a)=J':=by
 unfold ll;cases h:Mx.D.lt b a with
 |false=>rfl
 |true=>
  cases Y:Mx.D.lt a b with
  |false=>rfl
  |true=>have:=Mx.D.lt_trans a b a Y h;rw[Mx.D.lt_irrefl]at this;cases this
theorem jN(ms):(aG ms).Pairwise λa b=>ll a b=J':=List.pairwise_mergeSort zD zC ms
theorem eG:∀{a b:List Mx.D},a.Pairwise (λx y=>Mx.D.lt x y=J')->b.Pairwise (λx y=>Mx.D.lt x y=J')->(∀x,x∈a↔x∈b)->a=b
 |[],[],_,_,_=>rfl
 |[],y::b,_,_,h=>by have:=(h y).mpr Xc;cases this
 |x::a,[],_,_,h=>by have:=(h x).mp Xc;cases this
 |x::a,y::b,t,M,h=>by
  have c:=YN.mp t;have u:=YN.mp M;have g:x=y:=by
   rcases Xi.mp ((h x).mp Xc)with e|e
   ·exact e
   ·rcases Xi.mp ((h y).mpr Xc)with E|E
    ·exact E.symm
    ·have:=Mx.D.lt_trans x y x (c.1 y E)<|u.1 x e;rw[Mx.D.lt_irrefl]at this;cases this
  subst g;rw[eG c.2 u.2 λz=>?_];constructor
  ·intro k;rcases Xi.mp ((h z).mp<|W9 _ k)with e|e
   ·subst e;have:=c.1 z k;rw[Mx.D.lt_irrefl]at this;cases this
   ·exact e
  ·intro k;rcases Xi.mp ((h z).mpr<|W9 _ k)with e|e
   ·subst e;have:=u.1 z k;rw[Mx.D.lt_irrefl]at this;cases this
   ·exact e
theorem sR(h:ll a b=J')(n:a≠b):Mx.D.lt a b=J':=by
 unfold ll at h;cases Y:Mx.D.lt a b with
 |true=>rfl
 |false=>exact absurd (Mx.D.fw a b Y<|by simpa using h) n
theorem dH(h:ms.Nodup):(aG ms).Pairwise λa b=>Mx.D.lt a b=J':=by have Z:=jN ms;have Y:(aG ms).Nodup:=(aY ms).nodup_iff.mpr h;exact Z.imp₂ (λa b x y=>sR x y) Y
def uq:Option Mx.D->List Mx.D->List Mx.D
 |_,[]=>[]
 |p,x::r=>if p=B' x then uq (B' x) r else x::uq (B' x) r
theorem DF:∀{a:List Mx.D}{p:Option Mx.D},(x∈uq p a\/p=B' x)↔(x∈a\/p=B' x)
 |[],p=>by simp[uq]
 |y::a,p=>by
  have ih:=DF (x:=x) (a:=a) (p:=B' y);rw[uq];split
  ·rename_i h;subst h;simp only[Option.some.injEq,Xi]at *;constructor
   ·intro z;rcases ih.mp z with z|z
    ·exact .inl<|.inr z
    ·exact .inr z
   ·rintro((z|z)|z)
    ·exact .inr z.symm
    ·exact ih.mpr<|.inl z
    ·exact .inr z
  ·simp only[Xi,Option.some.injEq]at *;constructor
   ·rintro((z|z)|z)
    ·exact .inl<|.inl z
    ·rcases ih.mp (.inl z)with z|z
     ·exact .inl<|.inr z
     ·exact .inl<|.inl z.symm
    ·exact .inr z
   ·rintro((z|z)|z)
    ·exact .inl<|.inl z
    ·rcases ih.mpr (.inl z)with z|z
     ·exact .inl<|.inr z
     ·exact .inl<|.inl z.symm
    ·exact .inr z
theorem wm:∀{a:List Mx.D}{p:Option Mx.D},x∈uq p a->x∈a
 |[],p,h=>by simp[uq]at h
 |y::a,p,h=>by
  rw[uq]at h;split at h
  ·exact W9 _<|wm h
  ·rcases Xi.mp h with h|h
   ·rw[h];exact Xc
   ·exact W9 _<|wm h
theorem pf:∀{a:List Mx.D}{p:Option Mx.D},a.Pairwise (λx y=>ll x y=J')->(∀x∈a,∀y,p=B' y->ll y x=J')->(uq p a).Pairwise (λx y=>Mx.D.lt x y=J')/\∀x∈uq p a,∀y,p=B' y->Mx.D.lt y x=J'
 |[],p,_,_=>by simp[uq]
 |y::a,p,h,J=>by
  have h':=YN.mp h;obtain⟨g,i2⟩:=pf (p:=B' y) h'.2 (λx L z e=>by cases e;exact h'.1 x L);rw[uq];split
  ·rename_i e;subst e;exact#[g,i2]
  ·rename_i ne;have key:∀z,p=B' z->Mx.D.lt z y=J':=λz e=>sR (J y Xc z e) λE=>ne (by rw[e,E])
   refine#[YN.mpr #[λx L=>i2 x L y rfl,g],λx L z e=>?_];rcases Xi.mp L with rfl|L
   ·exact key z e
   ·exact Mx.D.lt_trans z y x (key z e)<|i2 x L y rfl
variable{fs:List Fn}
theorem qm{z:Str}(hz:z.length<=lim)(h:k<z.length):∃c,cD (.str z) (.int k)= .ok (.str ⟨#[c]⟩):=by
 have a:z.cps.toList.length=z.length:=by simp[Str.length]
 refine#[z.cps.toList[k],?_];show af (decide (z.length<=lim)) (match pI z.cps.toList k with|some c=>R.ok (Dt.str ⟨#[c]⟩)|none=>.bad)=_;rw[Xz hz,guard_true,L2.pK (v:=z.cps.toList[k]) (Xu _)]
theorem fV(h:a.length+b.length<=lim):qE .Add (.str a) (.str b)= .ok (.str<|a++b):=by show af (decide (a.length+b.length<=lim)) _=_;rw[Xz h];rfl
theorem len_str(h:z.length<=lim):dU .len [.str z]= .ok (.int z.length):=by show af (decide (z.length<=lim)) _=_;rw[Xz h];rfl
theorem qV{lo hi:Option Int}(h:z.length<=lim):iE (.str z) lo hi= .ok (.str<|PySem.Txt.slice z lo hi):=by show af (decide (z.length<=lim)) _=_;rw[Xz h];rfl
theorem len_cat(a b:Str):(a++b).length=a.length+b.length:=Str.length_append ..
theorem B2{z:Str}{d}(hz:z.length<=lim)(h:k<z.length):cD (.str z) (.int k)= .ok (.str ⟨#[z.cps.toList.getD k d]⟩):=by
 have a:k<z.cps.toList.length:=by simpa [Str.length]using h
 show af (decide (z.length<=lim)) (match pI z.cps.toList k with|some c=>R.ok (Dt.str ⟨#[c]⟩)|none=>.bad)=_;rw[Xz hz,guard_true,L2.pK (v:=z.cps.toList[k]) (Xu _)];rw[List.getD,Xu a];rfl
theorem vZ{a b:Str}{x y}(h:a++⟨#[x]⟩++b=a++⟨#[y]⟩++b):x=y:=by
 have Y:=Zj (λz:Str=>z.cps.toList) h;have e:∀u v:Str,(u++v).cps.toList=u.cps.toList++v.cps.toList:=λu v=>by show (u.cps++v.cps).toList=_;simp
 simp only[e,Xk]at Y;simpa using List.append_cancel_left Y
theorem iW{α:Type}{l:List α}{d:α}(P:l.Nodup)(hi:i<l.length)(F:j<l.length)(h:l.getD i d=l.getD j d):i=j:=by
 simp only[List.getD,Xu hi,Xu F,Option.getD_some]at h;have J:=YO.mp P;rcases Nat.lt_trichotomy i j with z|z|z
 ·exact absurd h<|J i j hi F z
 ·exact z
 ·exact absurd h.symm<|J j i F hi z
theorem ik(h:bD 0 n=pre++x::post):pre.length<n/\x= .int pre.length:=by
 have W:(bD 0 n).length=n:=by simp[bD]
 have Z:pre.length<n:=by rw[<-W,h];simp
 refine#[Z,?_];have e:(bD 0 n)[pre.length]?=B' x:=by rw[h];simp
 unfold bD at e;simp[Z]at e;exact e.symm
variable{fs:List Fn}
mutual
noncomputable def sm:Dt->Bool
 |.int _=>J'
 |.str _=>J'
 |.tup ds=>GK ds
 |.lst ds=>GK ds
 |_=>K'
noncomputable def GK:List Dt->Bool
 |[]=>J'
 |d::ds=>sm d&&GK ds
end
mutual
theorem yy:∀m:Mx.D,sm (ofD m)=J'
 |.int _=>by simp[ofD,sm]
 |.str _=>by simp[ofD,sm]
 |.tup ms=>by simp[ofD,sm,Dg ms]
theorem Dg:∀ms:List Mx.D,GK (aa ms)=J'
 |[]=>by simp[aa,GK]
 |m::ms=>by simp[aa,GK,yy m,Dg ms]
end
theorem yz:∀{ds:List Dt}{d:Dt},GK ds=J'->d∈ds->sm d=J'/\dp d<=u4 ds
 |d::ds,x,h,L=>by
  simp only[GK,W5]at h;simp only[u4];rcases Xi.mp L with rfl|L
  ·exact#[h.1,⋯]
  ·have:=yz h.2 L;exact#[this.1,⋯]
def rL(is:Nat):Ts:=(.cons (.ifs (.bi (.isi "str")<|.cons (.var 1) .nil) (.cons (.ret<|.and (.bi (.isi "str")<|.cons (.var 0) .nil)<|.cmp .Eq (.var 0)<|.var 1) .nil) .nil)<|.cons (.ifs (.bi (.isi "int")<|.cons (.var 1) .nil) (.cons (.ret<|.and (.bi (.isi "int")<|.cons (.var 0) .nil)<|.and (.nt<|.bi (.isi "bool")<|.cons (.var 0) .nil)<|.cmp .Eq (.var 0)<|.var 1) .nil) .nil)<|.cons (.ifs (.or (.cmp .NotEq (.bi (.isi "list")<|.cons (.var 1) .nil)<|.bi (.isi "list")<|.cons (.var 0) .nil)<|.cmp .NotEq (.bi (.isi "tuple")<|.cons (.var 1) .nil)<|.bi (.isi "tuple")<|.cons (.var 0) .nil) (.cons (.ret<|.con<|.bl K') .nil) .nil)<|.cons (.ifs (.cmp .NotEq (.bi .len<|.cons (.var 0) .nil)<|.bi .len<|.cons (.var 1) .nil) (.cons (.ret<|.con<|.bl K') .nil) .nil)<|.cons (.fr (.tp [2,3]) (.zip (.var 0)<|.var 1)<|.cons (.ifs (.nt<|.call is (.cons (.var 2)<|.cons (.var 3) .nil) []) (.cons (.ret<|.con<|.bl K') .nil) .nil) .nil)<|.cons (.ret<|.con<|.bl J') .nil)
theorem Ae(h:jU ds ds=pre++x::post):∃y∈ds,x= .tup [y,y]:=by
 have L:x∈jU ds ds:=by rw[h];simp
 unfold jU at L;have:List.zipWith (λx y=>Dt.tup [x,y]) ds ds=ds.map λy=>Dt.tup [y,y]:=by
  clear h L
  induction ds with
  |nil=>rfl
  |cons d ds ih=>simp[ih]
 rw[this,XH]at L;obtain⟨y,Z,Y⟩:=L;exact#[y,Z,Y.symm]
theorem lB(r:fs[is]?=B' #[2,4,K',rL is]):∀(n:Nat)(d:Dt),sm d=J'->dp d<n->az fs n is [d,d] G'= .ok (.bl J',G')
 |0,d,_,h=>by lia
 |n+1,d,h,hd=>by
  have ih:=lB r n;have i:∀ds:List Dt,GK ds=J'->u4 ds<n->(d= .tup ds\/d= .lst ds)->az fs (n+1) is [d,d] G'= .ok (.bl J',G'):=by
   intro ds w W hd;have E:dU .len [d]= .ok (.int ds.length):=by rcases hd with rfl|rfl<;>rfl
   have k:cg d=B' ds:=by rcases hd with rfl|rfl<;>rfl
   have g:dU (.isi "str") [d]= .ok (.bl K'):=by rcases hd with rfl|rfl<;>rfl
   have p:dU (.isi "int") [d]= .ok (.bl K'):=by rcases hd with rfl|rfl<;>rfl
   have c:(∃b,dU (.isi "list") [d]= .ok (.bl b))/\∃b,dU (.isi "tuple") [d]= .ok (.bl b):=by rcases hd with rfl|rfl<;>exact#[#[_,rfl],#[_,rfl]]
   obtain⟨⟨M,c⟩,⟨b4,j⟩⟩:=c;have J:∀b:Bool,cZ .NotEq (.bl b) (.bl b)= .ok K':=λb=>by cases b<;>rfl
   have s:=ej (S:=G') (tg:=.tp [2,3]) (body:=aO (az fs n)<|.cons (.ifs (.nt<|.call is (.cons (.var 2)<|.cons (.var 3) .nil) []) (.cons (.ret<|.con<|.bl K') .nil) .nil) .nil) (ds:=jU ds ds)
    (ρ:=[B' d,B' d,G',G']) (λpre ρ=>∃a b,ρ=[B' d,B' d,a,b]) #[G',G',rfl] (by
     rintro pre x o ρ e ⟨a,b,rfl⟩;obtain⟨y,m,rfl⟩:=Ae e;have:=yz w m;have K:=ih y this.1 ⋯;exact#[[B' d,B' d,B' y,B' y],_,rfl,jE (S1:=G') (by simp only[RX,K];rfl) rfl,B' y,B' y,rfl])
   obtain⟨ρ1,Q,a,b,rfl⟩:=s;refine bg r ⋯ rfl ?_;show fin (aO (az fs n) (rL is) [B' d,B' d,G',G'] G')=_;refine dR (S1:=G') (Zj (R.bind · _) g) (dR (S1:=G') (Zj (R.bind · _) p)<|dR (S1:=G') (by simp only[RX,c,j,J];rfl)<|dR (S1:=G') (by simp only[RX,E];simp) ?_);refine cn (ds:=jU ds ds) (S1:=G') (JF (S1:=G') (S2:=G') rfl rfl k k) rfl Q (aA rfl)
  cases d with
  |str x=>refine bg r ⋯ rfl ?_;show fin (aO (az fs n) (rL is) [B' (.str x),B' (.str x),G',G'] G')=_;have g:dU (.isi "str") [.str x]= .ok (.bl J'):=rfl;exact jj (S1:=G') (by simp only[RX,g])<|aA<|by simp only[RX,g];simp
  |int x=>refine bg r ⋯ rfl ?_;show fin (aO (az fs n) (rL is) [B' (.int x),B' (.int x),G',G'] G')=_;have g:dU (.isi "str") [.int x]= .ok (.bl K'):=rfl;have p:dU (.isi "int") [.int x]= .ok (.bl J'):=rfl;have c:dU (.isi "bool") [.int x]= .ok (.bl K'):=rfl;exact dR (S1:=G') (by simp only[RX,g])<|jj (S1:=G') (by simp only[RX,p])<|aA<|by simp only[RX,p,c,Bool.not_false];simp
  |tup ds=>exact i ds (by simpa [sm]using h) (by simp only[dp]at hd;lia)<|.inl rfl
  |lst ds=>exact i ds (by simpa [sm]using h) (by simp only[dp]at hd;lia)<|.inr rfl
  |_=>simp[sm]at h
def dB(x:Str):Mx.D:=.tup [.str "any",.str x]
def ofT(x:Str)(ps:List Mx.D):Mx.D:=.tup [.str "of",.str x,.tup ps]
theorem vx:∀{xs ys:List Mx.D},(∀x∈xs,∀y∈ys,lp x y=J')->iU xs ys=J'
 |[],_,_=>by simp[iU]
 |_::_,[],_=>by simp[iU]
 |x::xs,y::ys,h=>by simp only[iU,W5];exact#[h x Xc y Xc,vx λa t b M=>h a (W9 _ t) b<|W9 _ M]
theorem l9:cD (.lst<|ds++[d]) (.int<|-1)= .ok d:=by show AB (ds++[d]) (-1)=_;unfold AB;rw[Mx.AC]
theorem Fo:qq (n+1) (-1)=B' n:=by
 unfold qq;rw[Zm (by decide),Zn ⋯];congr 1
 lia
theorem ne_nil(Z:qJ (ds++[d])=J')(Y:u4 (ds++[d])<100):cZ .NotEq (.lst<|ds++[d]) (.lst [])= .ok J':=by show af (nM (.lst<|ds++[d])<|.lst []) (.ok<|!cU (.lst<|ds++[d]) (.lst []))=_;rw[show nM (.lst<|ds++[d]) (.lst [])=J' by simp[nM,pl,qJ,dp,Z];lia,guard_true];cases ds<;>simp[cU,cH]
theorem Cc{α:Type}:∀l:List α,l=[]\/∃a x,l=a++[x]
 |[]=>.inl rfl
 |x::l=>.inr #[(x::l).dropLast,(x::l).getLast<|by simp,(List.dropLast_concat_getLast<|by simp).symm]
theorem GG{α:Type}(a)(x y:α)(h:n=a.length):(a++[x]).set n y=a++[y]:=by subst h;simp
variable{fs:List Fn}
theorem ji(h:ev F c ρ S= .ok (d,S1))(hd:lx d=J'):(b||iA F (.seq c) ρ S)=J':=by
 have:iA F (.seq c) ρ S=J':=by unfold iA;rw[h];exact hd
 rw[this,X7]
theorem GB(h:x∈bD 0 n):∃i:Nat,i<n/\x= .int i:=by unfold bD at h;rw[XH]at h;obtain⟨i,Z,rfl⟩:=h;exact#[i,XX.mp Z,by simp]
theorem t7{k:Nat}(h:k<3):∃x,cD (.lst [.str a,.str b,.str c]) (.int k)= .ok (.str x):=by
 match k,h with
 |0,_=>exact#[a,rfl]
 |1,_=>exact#[b,rfl]
 |2,_=>exact#[c,rfl]
variable{fs:List Fn}
def aX:Mx.D->List Mx.D
 |.tup [_,_,.tup ps]=>ps
 |_=>[]
theorem sk{α p:Type}{f:α->List p}:∀{l:List α},(∀x∈l,(f x).length<=k)->(l.flatMap f).length<=l.length*k
 |[],_=>by simp
 |x::l,h=>by
  have Z:=h x Xc;have Y:=sk λy m=>h y (W9 _ m)
  rw[Yn,Xm,Xo,Y4]
  lia
def jZ:Ts:=(.cons (.ifs (.cmp .Eq (.idx (.var 0)<|.con<|.int 0)<|.con<|.str "of") (.cons (.ret<|.idx (.var 0)<|.con<|.int 2) .nil) .nil)<|.cons (.ret<|.tup .nil) .nil)
theorem wF(x):ofD (dB x)= .tup [.str "any",.str x]:=by simp[dB,ofD,aa]
theorem td(x)(ps):ofD (ofT x ps)= .tup [.str "of",.str x,.tup (aa ps)]:=by simp[ofT,ofD,aa]
variable{fs:List Fn}
def ja(L:Nat)(Q:Mx.D->Prop)(it:Mx.D):Prop:=(∃x,it=dB x)\/∃x ps,it=ofT x ps/\ps.length<=L/\∀p∈ps,Q p
def row(it:Mx.D)(c:Int):Mx.D:=.tup [it,.int c]
def d7(L:Nat)(P:Int->Prop)(Q:Mx.D->Prop)(r:Mx.D):Prop:=∃it c,r=row it c/\P c/\ja L Q it
def bH(L:Nat)(P:Int->Prop):Nat->Mx.D->Prop
 |0,_=>False
 |n+1,d=>∃rs,d= .tup rs/\rs.length<=L/\∀r∈rs,d7 L P (bH L P n) r
section
variable{L L':Nat}{P P':Int->Prop}
theorem ja.imp(y:L<=L')(h:∀p,Q p->Q' p):ja L Q it->ja L' Q' it:=Or.imp id λ#[x,ps,e,Z,Y]=>#[x,ps,e,Xh Z y,λp J=>h p<|Y p J]
theorem bH.mono(y:L<=L')(l:∀c,P c->P' c):∀{n m:Nat}{d:Mx.D},n<=m->bH L P n d->bH L' P' m d
 |0,_,_,_,h=>h.elim
 |n+1,0,_,h,_=>by lia
 |n+1,m+1,d,hn,#[rs,e,Z,Y]=>#[rs,e,Xh Z y,λr I=>by
  obtain⟨it,c,e,u,Q⟩:=Y r I;exact#[it,c,e,l c u,Q.imp y λp J=>bH.mono y l ⋯ J]]
theorem A4(H:∀d,Q d->Mx.D.dep d<=m)(h:ja L Q it):Mx.D.dep it<=m+2:=by
 rcases h with ⟨x,rfl⟩|⟨x,ps,rfl,_,J⟩
 ·simp[dB,Mx.D.dep,Mx.D.bq]
 ·have:=eV λp M=>H p (J p M)
  simp[ofT,Mx.D.dep,Mx.D.bq]
  lia
theorem A5(H:∀d,Q d->Mx.D.dep d<=m)(h:d7 L P Q r):Mx.D.dep r<=m+3:=by
 obtain⟨it,c,rfl,_,hi⟩:=h;have:=A4 H hi;simp[row,Mx.D.dep,Mx.D.bq]
 lia
theorem lO:∀{n:Nat}{d:Mx.D},bH L P n d->Mx.D.dep d<=4*n
 |0,d,h=>h.elim
 |n+1,d,#[rs,e,_,h]=>by
  subst e;have:Mx.D.bq rs<=4*n+3:=eV λr I=>A5 (λd hd=>lO hd) (h r I)
  simp only[Mx.D.dep]
  lia
theorem NU(F:∀p q,Q p->Q' q->lp p q=J')(t:ja L Q a)(M:ja L' Q' b):lp a b=J':=by
 rcases t with ⟨x,rfl⟩|⟨x,ps,rfl,_,J⟩<;>rcases M with ⟨y,rfl⟩|⟨y,v,rfl,_,Hz⟩
 ·simp[dB,lp,iU]
 ·simp[dB,ofT,lp,iU]
 ·simp[dB,ofT,lp,iU]
 ·simp only[ofT,lp,iU,Bool.true_and,XZ];exact vx λp z q c=>F p q (J p z)<|Hz q c
theorem HD(F:∀p q,Q p->Q' q->lp p q=J')(t:d7 L P Q a)(M:d7 L' P' Q' b):lp a b=J':=by obtain⟨i,c,rfl,_,hi⟩:=t;obtain⟨j,d,rfl,_,hj⟩:=M;simp only[row,lp,iU,XZ];exact NU F hi hj
theorem JR:∀{n m:Nat}{a b:Mx.D},bH L P n a->bH L' P' m b->lp a b=J'
 |0,_,_,_,h,_=>h.elim
 |_+1,0,_,_,_,h=>h.elim
 |n+1,m+1,a,b,#[rs,B,_,Z],#[v,E,_,Y]=>by subst B E;simp only[lp];exact vx λr I q F=>HD (λp q J F=>JR J F) (Z r I)<|Y q F
theorem He(hn:n<=20)(W:Mx.SL ms=J')(h:∀m∈ms,d7 L P (bH L P n) m):je ms=J':=by
 refine AV .tt W (eV λd hd=>?_) (λd hd=>?_) λd hd e he=>HD (λp q J F=>JR J F) (h d hd)<|h e he
 ·have:=A5 (λd hd=>lO hd) (h d hd)
  lia
 ·obtain⟨it,c,rfl,_,hi⟩:=h d hd;rcases hi with ⟨x,rfl⟩|⟨x,ps,rfl,_⟩<;>rfl
end
def aL:Mx.D->Mx.D
 |.tup (it::_)=>it
 |d=>d
def bL:Mx.D->Int
 |.tup [_,.int c]=>c
 |_=>0
theorem aw(it)(c):aL (row it c)=it:=rfl
theorem aM(it)(c):bL (row it c)=c:=rfl
def gr(it:Mx.D)(c:Int):List Mx.D->List Mx.D
 |[]=>[row it c]
 |r::rs=>if it=aL r then gr (aL r) (c+bL r) rs else row it c::gr (aL r) (bL r) rs
def rn:List Mx.D->List Mx.D
 |[]=>[]
 |r::rs=>gr (aL r) (bL r) rs
def bG(ms:List Mx.D):List Mx.D:=rn<|aG ms
theorem qf(r):∀(rs:List Mx.D)(it:Mx.D)(c:Int),∃g v A,gr it c rs=g++[row v A]/\gr it c (rs++[r])=if v=aL r then g++[row (aL r) (A+bL r)] else g++[row v A]++[row (aL r) (bL r)]
 |[],it,c=>#[[],it,c,rfl,by simp only[YK,gr];split<;>rfl]
 |s::rs,it,c=>by
  simp only[List.cons_append,gr];by_cases h:it=aL s
  ·rw[Zn h,Zn h];exact qf r rs _ _
  ·rw[Zm h,Zm h];obtain⟨g,v,A,Z,Y⟩:=qf r rs (aL s)<|bL s;refine#[row it c::g,v,A,by rw[Z];rfl,?_];rw[Y];split<;>rfl
theorem qd:∀(rs:List Mx.D)(it:Mx.D)(c:Int),(gr it c rs).length<=rs.length+1
 |[],it,c=>by simp[gr]
 |r::rs,it,c=>by
  rw[gr];split
  ·have:=qd rs (aL r)<|c+bL r;rw[Xo];lia
  ·have:=qd rs (aL r)<|bL r;rw[Xo,Xo];lia
theorem gH:∀(rs:List Mx.D)(it:Mx.D)(c:Int),(gr it c rs).map aL=it::uq (B' it) (rs.map aL)
 |[],it,c=>by simp[gr,uq,aw]
 |r::rs,it,c=>by
  rw[gr,XT,uq];by_cases h:it=aL r
  ·rw[Zn h,Zn (by rw[h]),gH rs,h]
  ·rw[Zm h,Zm (λz=>h<|Y7 z),XT,gH rs,aw]
theorem qe{S:Mx.D->Prop}(l:∀it c d,S (row it c)->0<c->0<d->S (row it<|c+d)):∀(rs:List Mx.D)(it:Mx.D)(c:Int),S (row it c)->0<c->(∀r∈rs,S r/\∃i k,r=row i k/\0<k)->∀r∈gr it c rs,S r/\∃i k,r=row i k/\0<k
 |[],it,c,h,K,_,r,I=>by simp only[gr,XF]at I;subst I;exact#[h,it,c,rfl,K]
 |q::rs,it,c,h,K,w,r,I=>by
  obtain⟨F,i,k,e,g⟩:=w q Xc;subst e;have m:∀r∈rs,S r/\∃i k,r=row i k/\0<k:=λr I=>w r (W9 _ I)
  rw[gr,aw,aM]at I;split at I
  ·rename_i e;subst e;exact qe l rs it (c+k) (l _ _ _ h K g) ⋯ m r I
  ·rcases Xi.mp I with rfl|I
   ·exact#[h,it,c,rfl,K]
   ·exact qe l rs i k F g m r I
theorem xf:∀(rs:List Mx.D)(it:Mx.D)(c:Int),(it::rs.map aL).Nodup->(∀r∈rs,∃i k,r=row i k)->gr it c rs=row it c::rs
 |[],it,c,_,_=>rfl
 |q::rs,it,c,P,w=>by obtain⟨i,k,e⟩:=w q Xc;subst e;rw[XT,aw]at P;have Z:=YL.mp P;rw[gr,aw,aM,Zm (λz=>Z.1<|by rw[z];exact Xc),xf rs i k Z.2 λr I=>w r<|W9 _ I]
theorem sA(P:(rs.map aL).Nodup)(w:∀r∈rs,∃i k,r=row i k):rn rs=rs:=by
 cases rs with
 |nil=>rfl
 |cons q rs=>obtain⟨i,k,e⟩:=w q Xc;subst e;exact xf rs i k P λr I=>w r<|W9 _ I
theorem vy(h:Mx.D.lt i j=J'):Mx.D.lt (row i c) (row j d)=J':=by
 have ne:i≠j:=λe=>by subst e;rw[Mx.D.lt_irrefl]at h;cases h
 simp only[row,Mx.D.lt];rw[Mx.D.b8,Zm ne];exact h
theorem JQ(h:ll (row i c) (row j d)=J'):ll i j=J':=by
 unfold ll at h ⊢;cases e:Mx.D.lt j i with
 |false=>rfl
 |true=>rw[vy e]at h;cases h
def Up(rs:List Mx.D):Prop:=(rs.map aL).Pairwise λa b=>Mx.D.lt a b=J'
theorem Up.nodup(h:Up rs):(rs.map aL).Nodup:=List.Pairwise.imp (λ {a b} z e=>by subst e;rw[Mx.D.lt_irrefl]at z;cases z) h
theorem Up.sort(h:Up rs)(w:∀r∈rs,∃i k,r=row i k):aG rs=rs:=by
 have Z:rs.Pairwise λa b=>Mx.D.lt a b=J':=by
  have Y:rs.Pairwise λa b=>Mx.D.lt (aL a) (aL b)=J':=YQ.mp h
  refine List.Pairwise.imp_of_mem (λ {a b} t M z=>?_) Y;obtain⟨i,k,rfl⟩:=w a t;obtain⟨j,l,rfl⟩:=w b M;exact vy z
 have P:rs.Nodup:=List.Pairwise.imp (λ {a b} z e=>by subst e;rw[Mx.D.lt_irrefl]at z;cases z) Z;exact eG (dH P) Z λx=>bR
theorem Up.MO(h:Up rs)(w:∀r∈rs,∃i k,r=row i k):bG rs=rs:=by unfold bG;rw[h.sort w,sA h.nodup w]
theorem lY(P:(ms.map aL).Nodup)(w:∀r∈ms,∃i k,r=row i k):bG ms=aG ms:=by unfold bG;exact sA (((aY ms).map aL).nodup_iff.mpr P) λr I=>w r<|bR.mp I
theorem jl(ms):(bG ms).length<=ms.length:=by
 unfold bG;have:=(aY ms).length_eq;cases h:aG ms with
 |nil=>simp[rn]
 |cons r rs=>rw[h]at this;rw[<-this];exact qd rs _ _
theorem lX(x):x∈(bG ms).map aL↔x∈ms.map aL:=by
 unfold bG;have e:x∈(aG ms).map aL↔x∈ms.map aL:=((aY ms).map aL).mem_iff;rw[<-e];cases aG ms with
 |nil=>rfl
 |cons r rs=>
  show x∈(gr (aL r) (bL r) rs).map aL↔_;rw[gH,XT,Xi,Xi];have:=DF (x:=x) (a:=rs.map aL) (p:=B'<|aL r);constructor
  ·rintro(h|h)
   ·exact .inl h
   ·exact(this.mp<|.inl h).elim .inr λz=>.inl (Y7 z).symm
  ·rintro(h|h)
   ·exact .inl h
   ·exact(this.mpr<|.inl h).elim .inr λz=>.inl (Y7 z).symm
theorem xa(w:∀r∈ms,∃i k,r=row i k):Up (bG ms):=by
 unfold bG Up;have Z:=jN ms;have m:∀r∈aG ms,∃i k,r=row i k:=λr I=>w r (bR.mp I)
 cases h:aG ms with
 |nil=>exact .nil
 |cons r rs=>
  rw[h]at Z m;show ((gr (aL r) (bL r) rs).map aL).Pairwise _;rw[gH];have le:∀{a b:Mx.D},(∃i k,a=row i k)->(∃i k,b=row i k)->ll a b=J'->ll (aL a) (aL b)=J':=λ {a b} #[i,k,e] #[j,l,K] z=>by subst e K;exact JQ z
  have Y:=YN.mp Z;have u:(rs.map aL).Pairwise λa b=>ll a b=J':=YQ.mpr (List.Pairwise.imp_of_mem (λ {a b} t M z=>le (m a<|W9 _ t) (m b<|W9 _ M) z) Y.2)
  obtain⟨W,n⟩:=pf (p:=B'<|aL r) u λx L y e=>by cases e;obtain⟨q,F,rfl⟩:=XH.mp L;exact le (m r Xc) (m q<|W9 _ F) (Y.1 q F)
  exact YN.mpr #[λx L=>n x L _ rfl,W]
theorem ft{S:Mx.D->Prop}(l:∀it c d,S (row it c)->0<c->0<d->S (row it<|c+d))(w:∀r∈ms,S r/\∃i k,r=row i k/\0<k):∀r∈bG ms,S r/\∃i k,r=row i k/\0<k:=by
 unfold bG;have m:∀r∈aG ms,S r/\∃i k,r=row i k/\0<k:=λr I=>w r (bR.mp I)
 cases h:aG ms with
 |nil=>intro r I;cases I
 |cons q rs=>rw[h]at m;obtain⟨Z,i,k,e,g⟩:=m q Xc;subst e;exact qe l rs i k Z g λr I=>m r<|W9 _ I
def Ml(t:C):Ts:=(.cons (.ifs (.and t<|.cmp .Eq (.idx (.idx (.mvr 1)<|.neg<|.con<|.int 1)<|.con<|.int 0)<|.var 2) (.cons (.vW 1 (.neg<|.con<|.int 1)<|.tup<|.cons (.var 2)<|.cons (.bin .Add (.idx (.idx (.mvr 1)<|.neg<|.con<|.int 1)<|.con<|.int 1)<|.var 3) .nil) .nil)<|.cons (.app 1<|.tup<|.cons (.var 2)<|.cons (.var 3) .nil) .nil) .nil)
def DW(t:C):Ts:=(.cons (.asgM 1<|.lst .nil)<|.cons (.fr (.tp [2,3]) (.seq<|.bi .sorted<|.cons (.var 0) .nil)<|Ml t)<|.cons (.ret<|.bi .tuple<|.cons (.mvr 1) .nil) .nil)
theorem BG:(rn p=[]/\p=[]/\rn (p++[row it c])=[row it c])\/∃g v A,rn p=g++[row v A]/\rn (p++[row it c])=if v=it then g++[row it (A+c)] else g++[row v A]++[row it c]:=by
 cases p with
 |nil=>exact .inl #[rfl,rfl,rfl]
 |cons r rs=>exact .inr<|qf (row it c) rs _ _
theorem Jf(hf:fs[ig]?=B' #[1,4,K',DW t])(hN:1<=N)(hn:n<=20)(hd:d= .lst (aa ms)\/d= .tup (aa ms))(W:Mx.SL ms=J')(h:∀m∈ms,d7 L P (bH L P n) m)
  (O:∀(rs:List Mx.D)(x y z:Option Dt),Mx.D.bq rs<=90->cz (az fs<|N-1) t [x,B' (.lst<|aa rs),y,z] G'= .ok (!rs.isEmpty,G')):az fs N ig [d] G'= .ok (.tup<|aa<|bG ms,G'):=by
 have X:lim=1000000:=rfl;have w:dU .sorted [d]= .ok (.lst<|aa<|aG ms):=by
  rcases hd with rfl|rfl
  ·exact(gV<|He hn W h).1
  ·exact(gV<|He hn W h).2
 replace W:=Mx.SL.lt W
 have xu:(aG ms).length=ms.length:=(aY ms).length_eq;have Qf:∀r∈aG ms,∃it c,r=row it c/\Mx.D.dep it<=82:=λr I=>by obtain⟨it,c,e,_,hi⟩:=h r<|bR.mp I;have:=A4 (λd hd=>lO hd) hi;exact#[it,c,e,⋯]
 have K:∀{p q:List Mx.D},aG ms=p++q->∀r∈rn p,∃it c,r=row it c/\Mx.D.dep it<=82:=λ {p q} e r I=>by
  have hi:aL r∈(rn p).map aL:=XH.mpr #[r,I,rfl];have J:∀r∈p,∃it c,r=row it c/\Mx.D.dep it<=82:=λr I=>Qf r (by rw[e];exact YE _ I)
  have key:aL r∈p.map aL/\∃i c,r=row i c:=by
   cases p with
   |nil=>cases I
   |cons Y rs=>
    have hi:aL r∈(gr (aL Y) (bL Y) rs).map aL:=hi;rw[gH]at hi;refine#[?_,?_]
    ·rw[XT];rcases Xi.mp hi with e|e
     ·rw[e];exact Xc
     ·exact W9 _<|wm e
    ·have:∀(rs:List Mx.D)(it:Mx.D)(c:Int),∀r∈gr it c rs,∃i c,r=row i c:=by
      intro rs
      induction rs with
      |nil=>intro it c r I;simp only[gr,XF]at I;exact#[it,c,I]
      |cons q rs ih=>
       intro it c r I;rw[gr]at I;split at I
       ·exact ih _ _ r I
       ·rcases Xi.mp I with e|I
        ·exact#[it,c,e]
        ·exact ih _ _ r I
     exact this rs _ _ r I
  obtain⟨k1,i,c,e⟩:=key;subst e;obtain⟨l,RI,B⟩:=XH.mp k1;obtain⟨i',A,E,hd⟩:=J l RI;subst E;rw[aw,aw]at B;exact#[i,c,rfl,by rw[<-B];exact hd]
 have s:=ej (S:=G') (tg:=.tp [2,3]) (body:=aO (az fs<|N-1)<|Ml t) (ds:=aa<|aG ms)
  (ρ:=[B' d,B' (.lst []),G',G'])
  (λpre ρ=>∃p a b,pre=aa p/\ρ=[B' d,B' (.lst<|aa<|rn p),a,b]) #[[],G',G',rfl,rfl] (by
   rintro pre x o ρ e ⟨p,a,b,rfl,rfl⟩;obtain⟨u,y,q,B,E,rfl,rfl⟩:=f6 e;have:=Zj dP E;rw[aW,aW]at this;cases this;obtain⟨it,c,rfl,hd⟩:=Qf y (by rw[B];simp);have iD:p.length<ms.length:=by rw[<-xu,B];simp
   have gl:(rn p).length<=p.length:=by
    cases p with
    |nil=>simp[rn]
    |cons r rs=>exact qd rs _ _
   have gd:Mx.D.bq (rn p)<=90:=eV λd hd=>by
    obtain⟨i,c,rfl,h⟩:=K B d hd;simp[row,Mx.D.dep,Mx.D.bq]
    lia
   have Z:=O (rn p) (B' d) (B'<|ofD it) (B'<|.int c) gd;have eo:aa (p++[row it c])=aa p++[ofD (row it c)]:=by rw[aK];simp[aa]
   have er:ofD (row it c)= .tup [ofD it,.int c]:=by simp[row,ofD,aa]
   refine#[[B' d,B' (.lst<|aa<|rn p),B' (ofD it),B' (.int c)],[B' d,B' (.lst<|aa<|rn<|p++[row it c]),B' (ofD it),B' (.int c)],by rw[er];rfl,?_,p++[row it c],B'<|ofD it,B'<|.int c,by rw[eo],rfl];rcases BG (p:=p) (it:=it) (c:=c)with ⟨g1,g2,M⟩|⟨g,v,A,g1,g2⟩
   ·rw[g1]at Z ⊢;rw[M];refine jE (S1:=G') (Zj (R.bind · _) Z)<|j8 (ds:=[]) (d:=.tup [ofD it,.int c]) (S1:=G') rfl rfl rfl (by simp) ?_;simp[aa,er];rfl
   ·have P8:Mx.D.dep v<=82:=by obtain⟨i,k,e,hd⟩:=K B (row v A) (by rw[g1];simp);have:=Zj aL e;rw[aw,aw]at this;rw[this];exact hd
    have F:=Ew (a:=v) (b:=it) ⋯;rw[g1]at Z gl ⊢;have rA:(!(g++[row v A]).isEmpty)=J':=by cases g<;>rfl
    rw[rA]at Z;have el:aa (g++[row v A])=aa g++[.tup [ofD v,.int A]]:=by rw[aK];simp[row,ofD,aa]
    rw[el]at Z ⊢;rw[g2];rw[Xm]at gl;by_cases H:v=it
    ·rw[Xz H]at F;rw[Zn H];refine qD (S1:=G') (by simp only[RX,Z,l9,F,Zo])<|nx (wY (ds:=aa g++[.tup [ofD v,.int A]]) (d:=.tup [ofD it,.int (A+c)]) (S1:=G') (S2:=G') (n:= -1) (j:=g.length) rfl (by simp only[RX,l9]) (by simp only[RX]) rfl<|by rw[Xm,ar];exact Fo) ?_;rw[GG (aa g) _ _ (ar g).symm,aK];simp[row,ofD,aa];rfl
    ·rw[Xv H]at F;rw[Zm H];refine jE (S1:=G') (by simp only[RX,Z,l9,F,Zo])<|j8 (ds:=aa g++[.tup [ofD v,.int A]]) (d:=.tup [ofD it,.int c]) (S1:=G') rfl rfl rfl (by rw[Xm,ar];simp only[Xo,Yv]at gl ⊢;lia) ?_;rw[aK (g++_),el];simp[row,ofD,aa];rfl)
 obtain⟨ρ1,Q,p,a,b,B,rfl⟩:=s;have:=Zj dP B;rw[aW,aW]at this;cases this;refine bg hf hN rfl ?_;show fin (aO (az fs<|N-1) (DW t) [B' d,G',G',G'] G')=_;exact eh (d:=.lst []) (S1:=G') rfl rfl<|cn (ds:=aa<|aG ms) (S1:=G') (by simp only[RX,w]) rfl Q<|aA<|by simp only[RX];rfl
theorem BA(r:fs[ig]?=B' #[1,4,K',DW t])(o:1<=N)(hn:n<=20)(W:Mx.SL ms=J')(h:∀m∈ms,d7 L P (bH L P n) m)
  (O:∀(rs:List Mx.D)(x y z:Option Dt),Mx.D.bq rs<=90->cz (az fs<|N-1) t [x,B' (.lst<|aa rs),y,z] G'= .ok (!rs.isEmpty,G')):az fs N ig [.lst (aa ms)] G'= .ok (.tup<|aa<|bG ms,G'):=Jf r o hn (.inl rfl) W h O
def K9:C:=.cmp .NotEq (.mvr 1)<|.lst .nil
theorem O7(rs)(x y z)(h:Mx.D.bq rs<=90):cz F K9 [x,B' (.lst<|aa rs),y,z] G'= .ok (!rs.isEmpty,G'):=by
 rcases Cc rs with rfl|⟨a,b,rfl⟩
 ·rfl
 ·have e:(!(a++[b]).isEmpty)=J':=by cases a<;>rfl
  have L:aa (a++[b])=aa a++[ofD b]:=by rw[aK];simp[aa]
  have:=ne_nil (ds:=aa a) (d:=ofD b) (by rw[<-L];exact vL _) (by rw[<-L,u5];lia);rw[e,L];unfold K9;simp only[RX,this]
theorem SW(rs)(x y z):cz F (.mvr 1) [x,B' (.lst<|aa rs),y,z] G'= .ok (!rs.isEmpty,G'):=by cases rs<;>simp[tK,bZ,cK,aa]
variable{fs:List Fn}
section
variable{F:FT}{S:Sx}{ρ:aj}
theorem cv(b)(e):ev F (.bi b<|.cons e .nil) ρ S=(ev F e ρ S).bind λx=>(dU b [x.1]).bind λd=>.ok (d,x.2):=by simp only[RX];cases ev F e ρ S<;>rfl
theorem cN:∀{ms:List Mx.D},(∀m∈ms,f (ofD m) S= .ok ([g m],S))->aP f (aa ms) S= .ok (ms.map g,S)
 |[],_=>rfl
 |m::ms,h=>by rw[aa,aP,h m Xc,R.ah,cN λy hy=>h y<|W9 _ hy];rfl
theorem rQ:∀{ms:List Mx.D},(∀m∈ms,f (ofD m) S= .ok ([g m],S)\/(B/\f (ofD m) S= .ex k))->aP f (aa ms) S= .ok (ms.map g,S)\/(B/\aP f (aa ms) S= .ex k)
 |[],_=>.inl rfl
 |m::ms,h=>by
  rw[aa,aP];rcases h m Xc with Z|⟨b,Z⟩
  ·rw[Z,R.ah];rcases rQ λy hy=>h y (W9 _ hy)with Y|⟨b,Y⟩
   ·rw[Y];exact .inl rfl
   ·rw[Y];exact .inr #[b,rfl]
  ·rw[Z];exact .inr #[b,rfl]
theorem lS(h:eO F it ρ S= .ok (ds,S1))(W:ds.length<=lim)(g:(decide (uI it<=1)||iA F it ρ S)=J')
  (K:aP (aU tg (bM F cs) (bz F e)<|iM cap ρ) ds S1= .ex k):ev F (.comp cap it tg cs e) ρ S= .ex k:=by
 rw[jK,h,R.ah,Xz W,g];show (aP (aU tg (bM F cs) (bz F e)<|iM cap ρ) ds S1).bind _=_;rw[K];rfl
theorem EJ(P:List Dt->aj->Prop)(h0:P [] ρ)
  (g:∀pre x o ρ,ds=pre++x::o->P pre ρ->∃ρ1,dS tg x ρ= .ok ρ1/\((∃v,body ρ1 S= .ok (.next,v,S)/\P (pre++[x]) v)\/(B/\body ρ1 S= .ex k))):
  (∃i,forL tg body ds ρ S= .ok (.next,i,S)/\P ds i)\/(B/\forL tg body ds ρ S= .ex k):=by
 have key:∀(o pre:List Dt)(ρ:aj),ds=pre++o->P pre ρ->(∃i,forL tg body o ρ S= .ok (.next,i,S)/\P ds i)\/(B/\forL tg body o ρ S= .ex k):=by
  intro o
  induction o with
  |nil=>intro pre ρ e h;rw[XO]at e;subst e;exact .inl #[ρ,rfl,h]
  |cons x o ih=>
   intro pre ρ e h;obtain⟨ρ1,Z,⟨v,Y,u⟩|⟨b,Y⟩⟩:=g pre x o ρ e h
   ·rw[forL,Z,R.ah,Y,R.ah];exact ih (pre++[x]) v (by rw[e];simp) u
   ·rw[forL,Z,R.ah,Y];exact .inr #[b,rfl]
 exact key ds [] ρ rfl h0
theorem Bt(h:eO F it ρ S= .ok (ds,S1))(W:uI it=0)(r:forL tg (aO F b) ds ρ S1= .ex k):fin (aO F (.cons (.fr tg it b) ts) ρ S)= .ex k:=by rw[bp,qP,h,R.ah,Xz W,Bool.true_or,guard_true,r];rfl
theorem ints_map(l):intsOf (l.map Dt.int)=B' l:=by
 induction l with
 |nil=>rfl
 |cons x l ih=>rw[XT,intsOf,ih];rfl
theorem AL(l:List Int):dU .sum [.lst (l.map Dt.int)]= .ok (.int l.sum):=by show (match intsOf (l.map Dt.int)with|some ns=>R.ok (Dt.int ns.sum)|none=>.bad)=_;rw[ints_map]
end
def bc:Mx.D->List Mx.D
 |.tup rs=>rs
 |_=>[]
def eT:Nat->Mx.D->Int
 |0,_=>0
 |n+1,d=>((bc d).map λr=>1+((aX<|aL r).map<|eT n).sum).sum
theorem mD(x)(ps):aX (ofT x ps)=ps:=rfl
theorem Cv(r:fs[ip]?=B' #[1,1,K',jZ])(o:1<=N)(h:ja L Q it):az fs N ip [ofD it] G'= .ok (.tup<|aa<|aX it,G'):=by
 refine bg r o rfl ?_;rcases h with ⟨x,rfl⟩|⟨x,ps,rfl,_⟩
 ·rw[wF];show fin (aO (az fs<|N-1) jZ [B' (.tup [.str "any",.str x])] G')=_;exact dR (S1:=G') rfl<|aA<|by simp[RX,dB,aX,aa]
 ·rw[td];show fin (aO (az fs<|N-1) jZ [B' (.tup [.str "of",.str x,.tup (aa ps)])] G')=_;exact jj (S1:=G') rfl<|aA rfl
theorem j9(h:ja L Q it):(aX it).length<=L/\∀p∈aX it,Q p:=by
 rcases h with ⟨x,rfl⟩|⟨x,ps,rfl,Z,Y⟩
 ·exact#[Y5 _,λp J=>by cases J]
 ·exact#[Z,Y]
theorem jL(it)(c):dS (.tp [i,j]) (ofD<|row it c) ρ= .ok ((ρ.set i<|B'<|ofD it).set j<|B'<|.int c):=by
 have e:ofD (row it c)= .tup [ofD it,.int c]:=by simp[row,ofD,aa]
 rw[e];rfl
def rM(a is:Nat):C:=(.bi .sum<|.cons (.comp [G',G'] (.seq<|.call a (.cons (.var 1) .nil) []) (.nm 1) .nil<|.call is (.cons (.var 1) .nil) []) .nil)
def Ef(a is:Nat):Ts:=(.cons (.ret<|.bi .sum<|.cons (.comp [G',G',G'] (.seq<|.var 0) (.tp [1,2]) .nil<|.bin .Add (.con<|.int 1)<|rM a is) .nil) .nil)
theorem Dp(J:fs[ip]?=B' #[1,1,K',jZ])(hf:fs[is]?=B' #[1,1,K',Ef ip is])(y:L<=lim):∀(n:Nat){N:Nat}{d:Mx.D},n+1<=N->bH L P n d->az fs N is [ofD d] G'= .ok (.int<|eT n d,G')
 |0,_,_,_,h=>h.elim
 |n+1,N,d,hN,#[rs,e,W,I]=>by
  subst e;refine bg hf ⋯ rfl ?_;show fin (aO (az fs<|N-1) (Ef ip is) [B' (ofD<|.tup rs)] G')=_;have B:ofD (.tup rs)= .tup (aa rs):=by simp[ofD]
  rw[B];have a:∀m∈rs,aU (.tp [1,2]) (bM (az fs<|N-1) .nil) (bz (az fs<|N-1)<|.bin .Add (.con<|.int 1)<|rM ip is) [G',G',G'] (ofD m) G'= .ok ([.int (1+((aX<|aL m).map<|eT n).sum)],G'):=by
   intro m A;obtain⟨it,c,rfl,_,hi⟩:=I m A;obtain⟨p1,p2⟩:=j9 hi;have b:=Cv (N:=N-1) J ⋯ hi;have u:ev (az fs<|N-1) (.call ip (.cons (.var 1) .nil) []) [G',B' (ofD it),B' (.int c)] G'= .ok (.tup<|aa<|aX it,G'):=by simp only[RX,b]
   have K:aP (aU (.nm 1) (bM (az fs<|N-1) .nil) (bz (az fs<|N-1)<|.call is (.cons (.var 1) .nil) []) [G',G']) (aa<|aX it) G'= .ok ((aX it).map λp=>.int<|eT n p,G'):=cN λp M=>by have:=Dp J hf y n (N:=N-1) ⋯ (p2 p M);exact bt (ρ1:=[G',B' (ofD p)]) rfl (Zj (R.bind · _) this) rfl
   have l:=bN (cap:=[G',G']) (ρ:=[G',B' (ofD it),B' (.int c)]) (cQ u rfl) (by rw[ar];lia) (ji u<|by simp only[lx];exact g9 _) K;have g:ev (az fs<|N-1) (rM ip is) [G',B' (ofD it),B' (.int c)] G'= .ok (.int ((aX it).map<|eT n).sum,G'):=by
    unfold rM;rw[cv,l,R.ah];have:((aX it).map λp=>Dt.int<|eT n p)=((aX it).map<|eT n).map Dt.int:=by rw[YC];rfl
    rw[this,AL];rfl
   exact bt (ρ1:=[G',B' (ofD it),B' (.int c)]) (by rw[jL];rfl) (Zj (R.bind · _) g) rfl
  have l:=bN (F:=az fs<|N-1) (cap:=[G',G',G']) (it:=.seq<|.var 0) (tg:=.tp [1,2]) (cs:=.nil) (e:=.bin .Add (.con<|.int 1)<|rM ip is) (ρ:=[B' (.tup<|aa rs)]) (S:=G') (ds:=aa rs) (S1:=G') rfl (by rw[ar];lia) rfl<|cN a;refine aA ?_;rw[cv,l,R.ah];have:(rs.map λm=>Dt.int<|1+((aX<|aL m).map<|eT n).sum)=(rs.map λr=>1+((aX<|aL r).map<|eT n).sum).map Dt.int:=by rw[YC];rfl
  rw[this,AL];rfl
theorem v7{l:List Int}(h:∀x∈l,0<=x):0<=l.sum:=by
 induction l with
 |nil=>simp
 |cons x l ih=>
  have:=ih λy m=>h y (W9 _ m)
  have:=h x Xc;rw[YR];lia
theorem vY:∀(n:Nat)(d:Mx.D),0<=eT n d
 |0,_=>by simp[eT]
 |n+1,d=>by
  unfold eT;refine v7 λx L=>?_
  obtain⟨r,_,rfl⟩:=XH.mp L;have:=v7 (l:=(aX<|aL r).map<|eT n) λx L=>by obtain⟨p,_,rfl⟩:=XH.mp L;exact vY n p
  lia
theorem yF{l:List Int}(h:∀y∈l,0<=y)(L:x∈l):x<=l.sum:=by
 induction l with
 |nil=>cases L
 |cons y l ih=>
  have Z:∀z∈l,0<=z:=λz k=>h z (W9 _ k)
  have m:=h y Xc;have w:=v7 Z;rw[YR];rcases Xi.mp L with e|e
  ·lia
  ·have:=ih Z e;lia
theorem Dj(I:r∈bc d)(J:p∈aX (aL r)):eT n p<eT (n+1) d:=by
 have Z:eT n p<=((aX<|aL r).map<|eT n).sum:=yF (λy m=>by obtain⟨q,_,rfl⟩:=XH.mp m;exact vY n q)<|XH.mpr #[p,J,rfl];have w:∀y∈(bc d).map λr=>1+((aX<|aL r).map<|eT n).sum,0<=y:=λy m=>by obtain⟨q,_,rfl⟩:=XH.mp m;have:=vY (n+1)<|.tup [q];simp[eT,bc]at this;exact this
 have Y:1+((aX<|aL r).map<|eT n).sum<=eT (n+1) d:=by show _<=((bc d).map λr=>1+((aX<|aL r).map<|eT n).sum).sum;exact yF w (XH.mpr #[r,I,rfl])
 lia
variable{fs:List Fn}
theorem Ez:∀{l:List Str},x∈dd l↔x∈l
 |[]=>by simp[dd]
 |y::l=>by
  have ih:=Ez (x:=x) (l:=l);rw[dd];split
  ·rename_i h;rw[ih,Xi];exact#[.inr,λz=>z.elim (λe=>by rw[e];exact Ez.mp h) id]
  ·rw[Xi,ih,Xi]
theorem LI:∀{l:List Str},(dd l).Nodup
 |[]=>by simp[dd]
 |y::l=>by
  rw[dd];split
  ·exact LI
  ·rename_i h;exact YL.mpr #[h,LI]
theorem QW:∀{l:List Str},(dd l).length<=l.length
 |[]=>by simp[dd]
 |y::l=>by have:=QW (l:=l);rw[dd];split<;>simp<;>lia
theorem jP:∀ys:List Str,strsOf (aa<|ys.map Mx.D.str)=B' ys
 |[]=>by simp[aa,strsOf]
 |y::ys=>by simp[aa,ofD,strsOf,jP ys]
theorem wI(hd:cg d=B' (aa<|ys.map Mx.D.str))(W:ys.length<64):dU .sset [d]= .ok (.lst<|aa<|aG<|(dd ys).map Mx.D.str):=by show (match cg d with|some ds=>(match strsOf ds with|some ys=>af (decide (ys.length<64)) (R.ok<|Dt.lst<|aa<|aG<|(dd ys).map Mx.D.str)|none=>.bad)|none=>.bad)=_;rw[hd];show (match strsOf (aa<|ys.map Mx.D.str)with|some ys=>af (decide (ys.length<64)) (R.ok<|Dt.lst<|aa<|aG<|(dd ys).map Mx.D.str)|none=>.bad)=_;rw[jP];show af (decide (ys.length<64)) _=_;rw[Xz W];rfl
variable{fs:List Fn}
def gI(l:List Int)(p:Nat):Int:=l.getD p 0
variable{fs:List Fn}
def gh:Ts:=(.cons (.ifs (.cmp .Eq .lenD<|.con<|.int 0) (.cons (.ret<|.con<|.int 0) .nil) .nil)<|.cons (.ret<|.bin .Mod .popD<|.var 1) .nil)
def Mk:Ts:=(.cons (.app 3<|.var 6) .nil)
def zb:C:=(.and (.cmp .Gt (.bi .len<|.cons (.var 1) .nil)<|.con<|.int 0)<|.and (.cmp .GtE (.idx (.var 1)<|.var 5)<|.bin .Pow (.con<|.int 10)<|.con<|.int 18)<|.cmp .Gt (.idx (.mvr 2)<|.var 5)<|.con<|.int 0)
def Mj:Ts:=(.cons (.ifs zb (.cons (.asg 6<|.bin .Mod (.idx (.mvr 2)<|.var 5)<|.con<|.int 2147483629)<|.cons (.vW 2 (.var 5)<|.bin .FloorDiv (.idx (.mvr 2)<|.var 5)<|.con<|.int 2147483629) .nil) .nil) Mk)
def Ed:Ts:=(.cons (.asg 6<|.bin .Add (.bin .Mod (.bin .Mult (.var 6)<|.var 6)<|.con<|.int 2147483629)<|.bin .Mult (.con<|.int 3)<|.var 4)<|.cons (.asg 6<|.bin .FloorDiv (.bin .Mod (.bin .Mult (.var 6)<|.var 6)<|.con<|.int 2147483587)<|.con<|.int 7) Mj)
def Mi:Ts:=(.cons (.asg 5<|.bin .Mod (.var 4)<|.bi .max2<|.cons (.con<|.int 1)<|.cons (.bi .len<|.cons (.var 1) .nil) .nil)<|.cons (.asg 6<|.bin .Add (.bin .Mult (.var 4)<|.con<|.int 7919)<|.con<|.int 5)<|.cons (.ifs (.cmp .Gt (.bi .len<|.cons (.var 1) .nil)<|.con<|.int 0) (.cons (.asg 6<|.bin .Mult (.bin .Mod (.idx (.var 1)<|.var 5)<|.con<|.int 2147483647)<|.con<|.int 48271)<|.cons (.asg 6<|.bin .Add (.bin .Add (.var 6)<|.bin .Mult (.bin .Mult (.var 4)<|.var 4)<|.con<|.int 7919)<|.con<|.int 11) .nil) .nil) Ed)
def uQ:Ts:=(.cons (.asg 1<|.bi .list<|.cons (.sliH (.var 0)<|.con<|.int 63) .nil)<|.cons (.asgM 2<|.bi .list<|.cons (.var 1) .nil)<|.cons (.asgM 3<|.lst .nil)<|.cons (.fr (.nm 4) (.rng1<|.con<|.int 1500) Mi)<|.cons (.rvs 3)<|.cons (.ret<|.mvr 3) .nil)
section
variable{F:FT}{ρ:aj}{s s1:List Int}
theorem dJ(P:gq F es ρ (B' s)= .ok (args,B' s1))(r:F f args (B' s1)= .ok y):ev F (.callD f es) ρ (B' s)= .ok y:=by rw[oZ];rw[P];exact r
theorem k9(P:List Dt->aj->List Int->Prop)(h0:P [] ρ s)
  (g:∀pre x o ρ s,ds=pre++x::o->P pre ρ s->∃ρ1 v t,dS tg x ρ= .ok ρ1/\body ρ1 (B' s)= .ok (.next,v,B' t)/\P (pre++[x]) v t):∃i l,forL tg body ds ρ (B' s)= .ok (.next,i,B' l)/\P ds i l:=by
 have key:∀(o pre:List Dt)(ρ:aj)(s:List Int),ds=pre++o->P pre ρ s->∃i l,forL tg body o ρ (B' s)= .ok (.next,i,B' l)/\P ds i l:=by
  intro o
  induction o with
  |nil=>intro pre ρ s e h;rw[XO]at e;subst e;exact#[ρ,s,rfl,h]
  |cons x o ih=>intro pre ρ s e h;obtain⟨ρ1,v,t,Z,Y,u⟩:=g pre x o ρ s e h;obtain⟨i,l,Q,n⟩:=ih (pre++[x]) v t (by rw[e];simp) u;refine#[i,l,?_,n];rw[forL,Z,R.ah,Y];exact Q
 exact key ds [] ρ s rfl h0
end
theorem cV(h:fs[k]?=B' #[ps,m,J',body])(P:1<=n)(W:args.length+1=ps)(q:fin (aO (az fs<|n-1) body (G'::args.map B'++List.replicate (m-ps) G') S)=r):az fs n k args S=r:=by obtain⟨n,rfl⟩:∃m,n=m+1:=#[n-1,⋯];rw[yw h];unfold gR;simp only[Zo,W];exact q
theorem GS(r:fs[it]?=B' #[2,2,J',gh])(o:1<=N)(g:0<k)(s):∃(z:Int)(l:List Int),az fs N it [.int k] (B' s)= .ok (.int z,B' l)/\0<=z/\z<k:=by
 by_cases h:s=[]
 ·subst h;refine#[0,[],cV r o rfl ?_,⋯,g];exact jj rfl<|aA rfl
 ·refine#[s.getLastD 0 % k,s.dropLast,cV r o rfl ?_,XM _ ⋯,XN _ g];have Z:s.length≠0:=λz=>h (List.length_eq_zero_iff.mp z)
  have M:(((s.length:Nat):Int)==0)=K':=Zg.mpr ⋯;have P:s.isEmpty=K':=by cases s with
   |nil=>exact absurd rfl h
   |cons=>rfl
  have B:∀ρ,ev (az fs<|N-1) .lenD ρ (B' s)= .ok (.int s.length,B' s):=λ_=>rfl
  have E:∀ρ,ev (az fs<|N-1) .popD ρ (B' s)= .ok (.int<|s.getLastD 0,B' s.dropLast):=λ_=>by rw[C0];simp only[P];rfl
  show fin (aO (az fs<|N-1) gh [G',B' (.int k)]<|B' s)=_;exact dR (S1:=B' s) (by simp only[RX,B,M])<|aA<|by simp only[RX,E,fW g]
theorem ET(h:k<l.length):l[k]?=B' (gI l k):=by simp[gI,h]
theorem Ey{α p:Type}(f:α->p)(xs:List α)(lo hi):∃C:List α,cutD (xs.map f) lo hi=C.map f:=#[((xs.drop<|HT.cF (xs.map f).length 0 lo).take<|HT.cF (xs.map f).length (xs.map f).length hi-HT.cF (xs.map f).length 0 lo),by unfold cutD;rw[<-List.map_drop,<-List.map_take]]
def dE(Y:Option Dt)(C L A:List Int)(k p:Nat)(z:Int):aj:=[Y,B' (.lst<|C.map Dt.int),B' (.lst<|L.map Dt.int),B' (.lst<|A.map Dt.int),B' (.int k),B' (.int p),B' (.int z)]
section
variable{F:FT}{x0:Option Dt}{C L A:List Int}{k p:Nat}{z:Int}
theorem Hh(c:A.length<=lim):aO F Mk (dE x0 C L A k p z) G'= .ok (.next,dE x0 C L (A++[z]) k p z,G'):=by unfold dE;rw[XU];exact j8 rfl rfl rfl (by rw[Xf];exact c) rfl
theorem u6(h:p<C.length):cD (.lst<|C.map Dt.int) (.int p)= .ok (.int<|gI C p):=(JA<|by rw[Xp,ET h];rfl).2
theorem Bi(C:List Int):dU .len [.lst (C.map Dt.int)]= .ok (.int C.length):=by show R.ok (Dt.int ((C.map Dt.int).length:Nat))=_;rw[Xf]
theorem Hg(y:L.length=C.length)(J:0<C.length->p<C.length)(H:0<=z)(O:z<2^60)(g:k<=1500)(c:A.length<=lim):∃(a:List Int)(w:Int),a.length=C.length/\aO F Ed (dE x0 C L A k p z) G'= .ok (.next,dE x0 C a (A++[w]) k p w,G'):=by
 have E:=cC (i:=z) (j:=z) (.inl ⋯);have a2:=fW (i:=z*z) (j:=2147483629) (by decide);have S:=cC (i:=3) (j:=k) (.inl (by decide));have t:=XM (z*z) (b:=2147483629) (by decide);have o:=XN (z*z) (b:=2147483629) (by decide);generalize z*z % 2147483629=u at a2 t o;have a3:=cC (i:=u+3*k) (j:=u+3*k) (.inl ⋯);have X:=fW (i:=(u+3*(k:Int))*(u+3*k)) (j:=2147483587) (by decide);have B:=XM ((u+3*(k:Int))*(u+3*k)) (b:=2147483587) (by decide);generalize (u+3*(k:Int))*(u+3*k) % 2147483587=v at X B;have m:=qG (i:=v) (j:=7) (by decide) (by decide);have l:=Bi C;have x:qE .Pow (.int 10) (.int 18)= .ok (.int 1000000000000000000):=rfl;have two:∀{r:RS},aO F Mj (dE x0 C L A k p (v/7)) G'=r->aO F Ed (dE x0 C L A k p z) G'=r:=λh=>by unfold dE at h ⊢;exact bh (d:=.int (u+3*k)) (S1:=G') (by simp only[RX,E,a2,S]) rfl (bh (by simp only[RX,a3,X,m]) rfl h)
 have I:cz F zb (dE x0 C L A k p (v/7)) G'= .ok (K',G')->∃(a:List Int)(w:Int),a.length=C.length/\aO F Ed (dE x0 C L A k p z) G'= .ok (.next,dE x0 C a (A++[w]) k p w,G'):=λh=>#[L,v/7,y,two (jE h (Hh c))]
 by_cases K:0<C.length
 ·have s:=u6 (J K);have n:=u6 (show p<L.length by rw[y];exact J K);have q:decide ((0:Int)<(C.length:Int))=J':=Xz ⋯;by_cases Y:(1000000000000000000:Int)<=gI C p
  ·by_cases h3:0<gI L p
   ·have f1:=fW (i:=gI L p) (j:=2147483629) (by decide);have Q:=qG (i:=gI L p) (j:=2147483629) (by decide) (by decide);refine#[L.set p (gI L p/2147483629),gI L p % 2147483629,by rw[Yy,y],two (qD (S1:=G') (by unfold dE zb;simp only[RX,l,q,s,n,x,Xz Y,Xz h3,Zo]) (bh (d:=.int (gI L p % 2147483629)) (S1:=G') (by unfold dE;simp only[RX,n,f1]) rfl (nx (wY (d:=.int (gI L p/2147483629)) (S2:=G') (j:=p) rfl (by unfold dE;simp only[RX,n,Q]) rfl rfl ?_) ?_)))]
    ·unfold qq;rw[Xf,Zn ⋯,Zn ⋯];exact Zj B' (Yg _)
    ·refine Eq.trans ?_ (Hh (F:=F) c);unfold dE;rw[List.map_set];rfl
   ·exact I (by unfold dE zb;simp only[RX,l,q,s,n,x,Xz Y,Xv h3,Zo])
  ·exact I (by unfold dE zb;simp only[RX,l,q,s,x,Xv Y,Zo,Zl,X2])
 ·have q:decide ((0:Int)<(C.length:Int))=K':=Xv ⋯;exact I (by unfold dE zb;simp only[RX,l,q,Zl,X2])
theorem ME(P:0<C.length->n=C.length)(n1:1<=n)(m:dU .max2 [.int 1,.int C.length]= .ok (.int n))(y:L.length=C.length)(g:k<=1500)(c:A.length<=lim):
  ∃(a:List Int)(w:Int),a.length=C.length/\aO F Mi [x0,B' (.lst (C.map Dt.int)),B' (.lst (L.map Dt.int)),B' (.lst (A.map Dt.int)),B' (.int k),x5,x6] G'= .ok (.next,dE x0 C a (A++[w]) k (k % n) w,G'):=by
 have m1:=fW (i:=k) (j:=n) ⋯;rw[show (k:Int) % (n:Int)=((k % n:Nat):Int) by lia]at m1;have o:=cC (i:=k) (j:=7919) (.inr (by decide));have l:=Bi C;have J:0<C.length->k % n<C.length:=λh=>by have:=Nat.mod_lt k (show 0<n by lia);have:=P h;lia
 by_cases K:0<C.length
 ·have E:=cC (i:=k) (j:=k) (.inr ⋯);have p:=cC (i:=(k:Int)*k) (j:=7919) (.inr (by decide));have k0:(0:Int)<=(k:Int)*k:=Int.mul_nonneg ⋯ ⋯;have k1:(k:Int)*k<=2250000:=by have:=Nat.mul_le_mul g g;rw[<-Int.natCast_mul];lia
  have s:=u6 (J K);have q:decide ((0:Int)<(C.length:Int))=J':=Xz ⋯;have Y:=fW (i:=gI C (k % n)) (j:=2147483647) (by decide);have r1:=XM (gI C (k % n)) (b:=2147483647) (by decide);have r2:=XN (gI C (k % n)) (b:=2147483647) (by decide);generalize gI C (k % n) % 2147483647=u at Y r1 r2;have f2:=cC (i:=u) (j:=48271) (.inr (by decide));obtain⟨a,w,Q,S⟩:=Hg (z:=u*48271+k*k*7919+11) y J ⋯ ⋯ g c;exact#[a,w,Q,bh (S1:=G') (by simp only[RX,l,m,m1]) rfl (bh (d:=.int (k*7919+5)) (S1:=G') (by simp only[RX,o]) rfl (qD (S1:=G') (by simp only[RX,l,q]) (bh (d:=.int (u*48271)) (S1:=G') (by simp only[RX,s,Y,f2]) rfl (bh (by simp only[RX,E,p]) rfl S))))]
 ·have q:decide ((0:Int)<(C.length:Int))=K':=Xv ⋯;obtain⟨a,w,Q,S⟩:=Hg (z:=k*7919+5) y J ⋯ ⋯ g c;exact#[a,w,Q,bh (S1:=G') (by simp only[RX,l,m,m1]) rfl (bh (S1:=G') (by simp only[RX,o]) rfl (jE (by simp only[RX,l,q]) S))]
end
theorem Bh{id N:Nat}(r:fs[id]?=B' #[1,7,K',uQ])(hN:1<=N)(ns):∃ds:List Int,az fs N id [.ir ns] G'= .ok (.lst<|ds.map Dt.int,G'):=by
 have X:lim=1000000:=rfl;obtain⟨C,u⟩:=Ey Dt.int ns G'<|B' 63;have x:iE (.ir ns) G' (B' 63)= .ok (.lst<|C.map Dt.int):=by rw[<-u];rfl
 clear u;obtain⟨n,P,b,m⟩:∃n:Nat,(0<C.length->n=C.length)/\1<=n/\dU .max2 [.int 1,.int C.length]= .ok (.int n):=by
  by_cases h:1<C.length
  ·exact#[C.length,λ_=>rfl,⋯,by show R.ok (Dt.int<|if (C.length:Int)>1 then(C.length:Int) else 1)=_;rw[Zn ⋯]]
  ·exact#[1,λ_=>⋯,⋯,by show R.ok (Dt.int<|if (C.length:Int)>1 then(C.length:Int) else 1)=_;rw[Zm ⋯];rfl]
 obtain⟨i,dD,L,A,l,x5,x6,hL,c,rfl⟩:=ej (S:=G') (tg:=.nm 4) (ds:=bD 0 1500)
  (λpre ρ=>∃(L A:List Int)(l x5 x6:Option Dt),L.length=C.length/\A.length=pre.length/\ρ=[B' (.ir ns),B' (.lst<|C.map Dt.int),B' (.lst<|L.map Dt.int),B' (.lst<|A.map Dt.int),l,x5,x6]) #[C,[],G',G',G',rfl,rfl,rfl] (by
   rintro pre y o ρ e ⟨L,A,l,x5,x6,hL,c,rfl⟩;obtain⟨Z,rfl⟩:=ik e;obtain⟨a,w,Q,l2⟩:=ME (F:=az fs<|N-1) (A:=A) (k:=pre.length) (x5:=x5) (x6:=x6) P b m hL ⋯ ⋯;exact#[_,_,rfl,l2,a,A++[w],_,_,_,Q,by rw[Xm,Xm,c];rfl,rfl])
 refine#[A.reverse,bg r hN rfl ?_];show fin (aO (az fs<|N-1) uQ [B' (.ir ns),G',G',G',G',G',G'] G')=_;refine aN (S1:=G') (by simp only[RX,x]) rfl<|eh (S1:=G') (by simp only[RX]) rfl<|eh (d:=.lst []) (S1:=G') rfl rfl<|cn (ds:=bD 0 1500) (S1:=G') (gJ (n:=1500) rfl ⋯) rfl dD<|fk (IY rfl)<|aA ?_;rw[List.map_reverse];rfl
variable{fs:List Fn}
def Iz:Ts:=(.cons (.asg 7<|.idx (.var 1)<|.bin .Mod (.bin .Add (.var 5)<|.bin .Mult (.con<|.int 7)<|.var 3)<|.con<|.int 26)<|.cons (.app 6<|.bin .Add (.bin .Add (.sliH (.var 2)<|.var 4)<|.var 7)<|.sliL (.var 2)<|.var 4) .nil)
def Mo(it:Nat):Ts:=.cons (.asg 2<|.bin .Add (.var 2)<|.idx (.var 1)<|.callD it<|.cons (.con<|.int 26) .nil) .nil
def QQ(it:Nat):Ts:=(.cons (.asg 2<|.con<|.str "")<|.cons (.fr (.nm 3) (.rng1<|.callD it<|.cons (.con<|.int 6) .nil)<|Mo it)<|.cons (.asg 4<|.callD it<|.cons (.bin .Add (.bi .len<|.cons (.var 2) .nil)<|.con<|.int 1) .nil)<|.cons (.asg 5<|.callD it<|.cons (.con<|.int 26) .nil)<|.cons (.ifs (.cmp .Eq (.callD it<|.cons (.con<|.int 3) .nil)<|.con<|.int 0) (.cons (.asg 2<|.bin .Add (.sliH (.var 2)<|.con<|.int 3)<|.idx (.var 1)<|.var 5)<|.cons (.ret<|.lst<|.cons (.var 2)<|.cons (.bin .Add (.var 2)<|.idx (.var 1)<|.var 4)<|.cons (.bin .Add (.bin .Add (.var 2)<|.idx (.var 1)<|.var 4)<|.idx (.var 1)<|.var 5) .nil) .nil) .nil)<|.cons (.asgM 6<|.lst .nil)<|.cons (.fr (.nm 3) (.rng1<|.con<|.int 3) Iz)<|.cons (.ret<|.mvr 6) .nil)
theorem cj(O:fs[it]?=B' #[2,2,J',gh])(o:1<=N){m:Nat}(A:0<m)(s):∃(z:Nat)(l:List Int),(∀{c:C}{ρ:aj},(∀S,ev (az fs N) c ρ S= .ok (.int m,S))->ev (az fs N) (.callD it<|.cons c .nil) ρ (B' s)= .ok (.int z,B' l))/\z<m:=by obtain⟨z,l,Z,Y,u⟩:=GS O o (k:=m) ⋯ s;obtain⟨z,rfl⟩:∃n:Nat,z=n:=#[z.toNat,⋯];exact#[z,l,λK=>dJ (args:=[.int m]) (by simp only[RX,K]) Z,⋯]
def vB(L w:Str)(A:Option Dt)(p f:Nat)(x6 B:Option Dt):aj:=[G',B' (.str L),B' (.str w),A,B' (.int p),B' (.int f),x6,B]
theorem oV(O:fs[it]?=B' #[2,2,J',gh])(hf:fs[im]?=B' #[2,8,J',QQ it])(hN:2<=N)(hL:L.length=26)(F:L.cps.toList.Nodup)(s):
  ∃(a b c:Str)(s':List Int),az fs N im [.str L] (B' s)= .ok (.lst [.str a,.str b,.str c],B' s')/\a≠b/\b≠c/\a≠c:=by
 have eQ:lim=1000000:=rfl;obtain⟨Y,s1,I,l1⟩:=cj O (N:=N-1) ⋯ (m:=6) (by decide) s;obtain⟨ρ1,t,dD,w,A,hw,rfl⟩:=k9 (tg:=.nm 3) (body:=aO (az fs (N-1)) (Mo it)) (ds:=bD 0 Y) (s:=s1)
  (ρ:=[G',B' (.str L),B' (.str ""),G',G',G',G',G'])
  (λpre ρ _=>∃w A,w.length<=pre.length/\ρ=[G',B' (.str L),B' (.str w),A,G',G',G',G']) #["",G',Xb _,rfl] (by
   rintro pre x o ρ s e ⟨w,A,hw,rfl⟩;obtain⟨Z,rfl⟩:=ik e;obtain⟨z,s',g,l⟩:=cj O (N:=N-1) ⋯ (m:=26) (by decide) s;obtain⟨c,K⟩:=qm (z:=L) (k:=z) ⋯ ⋯;have ca:=fV (a:=w) (b:=⟨#[c]⟩) (by show w.length+1<=lim;lia);have g':=g (c:=.con (.int 26)) (ρ:=[G',B' (.str L),B' (.str w),B' (.int pre.length),G',G',G',G']) λ_=>rfl
   refine#[_,_,s',rfl,bh (d:=.str (w++⟨#[c]⟩)) (S1:=B' s') (by simp only[RX,g',K,ca]) rfl rfl,w++⟨#[c]⟩,_,?_,rfl];rw[len_cat,Xm];show w.length+1<=_;simp;lia)
 have Qh:w.length<=5:=by
  have:(bD 0 Y).length=Y:=by simp[bD]
  lia
 obtain⟨p,s3,M,l3⟩:=cj O (N:=N-1) ⋯ (m:=w.length+1) ⋯ t;obtain⟨f,s4,g4,l4⟩:=cj O (N:=N-1) ⋯ (m:=26) (by decide) s3;obtain⟨q,P,g5,l5⟩:=cj O (N:=N-1) ⋯ (m:=3) (by decide) s4;have E:=len_str (z:=w) ⋯;obtain⟨B,T4⟩:=qm (z:=L) (k:=f) ⋯ ⋯;obtain⟨ca,T3⟩:=qm (z:=L) (k:=p) ⋯ ⋯;have P0:=M (c:=.bin .Add (.bi .len (.cons (.var 2) .nil)) (.con (.int 1))) (ρ:=[G',B' (.str L),B' (.str w),A,G',G',G',G']) λS=>by simp only[RX,E];rfl
 have P1:=g4 (c:=.con (.int 26)) (ρ:=[G',B' (.str L),B' (.str w),A,B' (.int p),G',G',G']) λ_=>rfl
 have Q7:=g5 (c:=.con (.int 3)) (ρ:=vB L w A p f G' G') λ_=>rfl
 have go:∀{r:R (Dt×Sx)},fin (aO (az fs (N-1)) (.cons (.ifs (.cmp .Eq (.callD it (.cons (.con (.int 3)) .nil)) (.con (.int 0))) (.cons (.asg 2 (.bin .Add (.sliH (.var 2) (.con (.int 3))) (.idx (.var 1) (.var 5)))) (.cons (.ret (.lst (.cons (.var 2) (.cons (.bin .Add (.var 2) (.idx (.var 1) (.var 4))) (.cons (.bin .Add (.bin .Add (.var 2) (.idx (.var 1) (.var 4))) (.idx (.var 1) (.var 5))) .nil))))) .nil)) .nil) (.cons (.asgM 6 (.lst .nil)) (.cons (.fr (.nm 3) (.rng1 (.con (.int 3))) Iz) (.cons (.ret (.mvr 6)) .nil)))) (vB L w A p f G' G') (B' s4))=r->
   az fs N im [.str L] (B' s)=r:=λh=>by
  refine cV hf ⋯ rfl ?_;show fin (aO (az fs (N-1)) (QQ it) [G',B' (.str L),G',G',G',G',G',G'] (B' s))=_;exact aN (d:=.str "") (S1:=B' s) rfl rfl (cn (ds:=bD 0 Y) (S1:=B' s1) (gJ (I λ_=>rfl) ⋯) rfl dD (aN (d:=.int p) (S1:=B' s3) P0 rfl (aN (d:=.int f) (S1:=B' s4) P1 rfl h)))
 by_cases Q:q=0
 ·subst Q;have Uv:=qV (z:=w) (lo:=G') (hi:=B' 3) ⋯;have J:=PySem.Txt.slice_le w G' (B' 3);generalize PySem.Txt.slice w G' (B' 3)=w3 at Uv J;have u:=fV (a:=w3) (b:=⟨#[B]⟩) (by show w3.length+1<=lim;lia);have H:=fV (a:=w3++⟨#[B]⟩) (b:=⟨#[ca]⟩) (by rw[len_cat];show w3.length+1+1<=lim;lia);have c3:=fV (a:=w3++⟨#[B]⟩++⟨#[ca]⟩) (b:=⟨#[B]⟩) (by rw[len_cat,len_cat];show w3.length+1+1+1<=lim;lia);refine#[w3++⟨#[B]⟩,w3++⟨#[B]⟩++⟨#[ca]⟩,w3++⟨#[B]⟩++⟨#[ca]⟩++⟨#[B]⟩,P,go ?_,λz=>?_,λz=>?_,λz=>?_]
  ·unfold vB at Q7 ⊢;exact jj (S1:=B' P) (by simp only[RX,Q7];rfl) (aN (d:=.str (w3++⟨#[B]⟩)) (S1:=B' P) (by simp only[RX,Uv,T4,u]) rfl (aA (by simp only[RX,T3,T4,H,c3])))
  ·have:=Zj Str.length z;simp only[len_cat]at this;have:(⟨#[ca]⟩:Str).length=1:=rfl;lia
  ·have:=Zj Str.length z;simp only[len_cat]at this;have:(⟨#[B]⟩:Str).length=1:=rfl;lia
  ·have:=Zj Str.length z;simp only[len_cat]at this;have:(⟨#[B]⟩:Str).length=1:=rfl;lia
 ·have l4:=λj:Nat=>Nat.mod_lt (f+7*j) (y:=26) (by decide)
  have Uw:=qV (z:=w) (lo:=G') (hi:=B' (p:Int)) ⋯;have X:=PySem.Txt.slice_le w G' (B' (p:Int));have s6:=qV (z:=w) (lo:=B' (p:Int)) (hi:=G') ⋯;have e6:=PySem.Txt.slice_le w (B' (p:Int)) G';generalize PySem.Txt.slice w G' (B' (p:Int))=wa at Uw X;generalize PySem.Txt.slice w (B' (p:Int)) G'=wb at s6 e6;have W:L.cps.toList.length=26:=by rw[<-hL];simp[Str.length]
  obtain⟨v,Jo,WZ,s8,rfl⟩:=ej (S:=B' P) (tg:=.nm 3) (body:=aO (az fs (N-1)) Iz) (ds:=bD 0 3)
   (ρ:=vB L w A p f (B' (.lst [])) G')
   (λpre ρ=>∃A s8,ρ=vB L w A p f (B' (.lst ((List.range pre.length).map λj=>Dt.str (wa++⟨#[L.cps.toList.getD ((f+7*j) % 26) B]⟩++wb)))) s8) #[A,G',rfl] (by
    rintro pre x o ρ e ⟨A,s8,rfl⟩;obtain⟨Z,rfl⟩:=ik e;have K:=B2 (z:=L) (k:=(f+7*pre.length) % 26) (d:=B) ⋯ (by have:=l4 pre.length;lia);rw[show (((f+7*pre.length) % 26:Nat):Int)=((f:Int)+7*pre.length) % 26 by lia]at K;generalize hcc:L.cps.toList.getD ((f+7*pre.length) % 26) B=c at K;have m1:=cC (i:=7) (j:=pre.length) (.inl (by decide));have m2:=fW (i:=(f:Int)+7*pre.length) (j:=26) (by decide);have u:=fV (a:=wa) (b:=⟨#[c]⟩) (by show wa.length+1<=lim;lia);have H:=fV (a:=wa++⟨#[c]⟩) (b:=wb) (by rw[len_cat];show wa.length+1+wb.length<=lim;lia);refine#[_,_,rfl,bh (d:=.str ⟨#[c]⟩) (S1:=B' P) (by unfold vB;simp only[RX,List.set,m1,m2,K]) rfl (j8 (ds:=(List.range pre.length).map λj=>Dt.str (wa++⟨#[L.cps.toList.getD ((f+7*j) % 26) B]⟩++wb)) (d:=.str (wa++⟨#[c]⟩++wb)) (S1:=B' P) rfl (by unfold vB;simp only[RX,List.set,Uw,s6,u,H]) rfl (by simp;lia) rfl),B' (.int pre.length),B' (.str ⟨#[c]⟩),?_];rw[Xm,Yz,List.range_succ,XU,List.map_singleton,hcc];rfl)
  refine#[wa++⟨#[L.cps.toList.getD ((f+7*0) % 26) B]⟩++wb,wa++⟨#[L.cps.toList.getD ((f+7*1) % 26) B]⟩++wb,wa++⟨#[L.cps.toList.getD ((f+7*2) % 26) B]⟩++wb,P,go ?_,λz=>?_,λz=>?_,λz=>?_]
  ·have z0:(((q:Nat):Int)==0)=K':=Zg.mpr ⋯;refine dR (S1:=B' P) (by simp only[RX,Q7,z0]) (eh (d:=.lst []) (S1:=B' P) rfl rfl (cn (ds:=bD 0 3) (S1:=B' P) (gJ (n:=3) rfl (by decide)) rfl Jo (aA rfl)))
  ·have:=iW F (by rw[W];exact l4 0) (by rw[W];exact l4 1) (vZ z);lia
  ·have:=iW F (by rw[W];exact l4 1) (by rw[W];exact l4 2) (vZ z);lia
  ·have:=iW F (by rw[W];exact l4 0) (by rw[W];exact l4 2) (vZ z);lia
variable{fs:List Fn}
abbrev Pos(c:Int):Prop:=0<c
abbrev ku(c:Int):Prop:=0<c/\c<18446744073709551616
def aC(p:Str×Mx.D):Mx.D:=.tup [.str p.1,p.2]
def ai(W:List (Str×Mx.D)):Dt:=.tup<|aa<|W.map aC
def bI:List (Str×Mx.D)->Str->Option Mx.D
 |[],_=>G'
 |p::r,x=>if p.1=x then B' p.2 else bI r x
def bK(x:Str):Mx.D:=.tup [row (dB x) 1]
def aI(W:List (Str×Mx.D))(x:Str):Mx.D:=(bI W x).getD<|bK x
def mulR(c:Int)(f:Mx.D):List Mx.D:=(bc f).map λr=>row (aL r)<|c*bL r
def br(f:Mx.D->Mx.D)(W:List (Str×Mx.D)):Mx.D->Mx.D
 |.tup [_,.str x]=>aI W x
 |.tup [_,.str x,.tup ps]=>.tup [row (ofT x<|ps.map f) 1]
 |d=>d
def putL(W:List (Str×Mx.D)):Nat->Mx.D->Mx.D
 |0,d=>d
 |n+1,d=>.tup<|bG<|(bc d).flatMap λr=>mulR (bL r)<|br (putL W n) W<|aL r
def Aw(W:List (Str×Mx.D)):Nat->Mx.D->Prop
 |0,_=>True
 |n+1,d=>Mx.SL ((bc d).flatMap λr=>mulR (bL r)<|br (putL W n) W<|aL r)=J'/\∀r∈bc d,∀p∈aX (aL r),Aw W n p
theorem cY(f)(W)(x):br f W (dB x)=aI W x:=rfl
theorem bT(f)(W)(x)(ps):br f W (ofT x ps)= .tup [row (ofT x<|ps.map f) 1]:=rfl
theorem E0(h:bI W x=B' f):∃p∈W,p.2=f:=by
 induction W with
 |nil=>cases h
 |cons p W ih=>
  rw[bI]at h;split at h
  ·cases h;exact#[p,Xc,rfl]
  ·obtain⟨q,Z,Y⟩:=ih h;exact#[q,W9 _ Z,Y]
theorem me(y:1<=L)(x)(c)(K:0<c):bH L Pos (n+1) (.tup [row (dB x) c]):=#[_,rfl,y,λr I=>by rw[XF]at I;subst I;exact#[_,_,rfl,K,.inl #[x,rfl]]]
section
variable{W:List (Str×Mx.D)}{m:Nat}(hW:∀p∈W,bH 200 Pos m p.2)(hm:1<=m)
include hW hm
theorem M0(x):bH 200 Pos m (aI W x):=by
 unfold aI;cases h:bI W x with
 |none=>obtain⟨k,rfl⟩:∃k,m=k+1:=#[m-1,⋯];exact me (by decide) x 1 (by decide)
 |some f=>obtain⟨p,Z,Y⟩:=E0 h;exact Y▸hW p Z
theorem yE(ih:∀d,bH 200 ku n d->bH 40000 Pos (n+m) (putL W n d))(hi:ja 200 (bH 200 ku n) it):bH 40000 Pos (n+m+1) (br (putL W n) W it)/\(bc<|br (putL W n) W it).length<=200:=by
 rcases hi with ⟨x,rfl⟩|⟨x,ps,rfl,Z,Y⟩
 ·rw[cY];have h:=M0 hW hm x;refine#[h.mono (by decide) (λc h=>h) ⋯,?_];obtain⟨k,rfl⟩:∃k,m=k+1:=#[m-1,⋯];obtain⟨rs,e,hl,_⟩:=h;rw[e];exact hl
 ·rw[bT];refine#[#[_,rfl,by simp,λr I=>?_],by simp[bc]];rw[XF]at I;subst I;refine#[_,_,rfl,by decide,.inr #[x,_,rfl,by rw[Xf];lia,λp J=>?_]];obtain⟨q,F,rfl⟩:=XH.mp J;exact ih q<|Y q F
omit hW hm in
theorem Cj{k:Nat}{f:Mx.D}{c:Int}(hf:bH 40000 Pos (k+1) f)(K:0<c):∀q∈mulR c f,d7 40000 Pos (bH 40000 Pos k) q/\∃i z,q=row i z/\0<z:=by obtain⟨rs,e,_,h⟩:=hf;subst e;intro q F;obtain⟨r,I,rfl⟩:=XH.mp F;obtain⟨it,d,rfl,hd,hi⟩:=h r I;have:0<c*d:=Int.mul_pos K hd;exact#[#[it,c*d,rfl,this,hi],it,c*d,rfl,this]
theorem qH{rs:List Mx.D}(ih:∀d,bH 200 ku n d->bH 40000 Pos (n+m) (putL W n d))(hl:rs.length<=200)(I:∀r∈rs,d7 200 ku (bH 200 ku n) r):
  (rs.flatMap λr=>mulR (bL r)<|br (putL W n) W<|aL r).length<=40000/\∀q∈rs.flatMap λr=>mulR (bL r)<|br (putL W n) W<|aL r,d7 40000 Pos (bH 40000 Pos<|n+m) q/\∃i z,q=row i z/\0<z:=by
 constructor
 ·have:=sk (f:=λr=>mulR (bL r)<|br (putL W n) W<|aL r) (k:=200) (l:=rs) λr h=>by obtain⟨it,c,rfl,K,hi⟩:=I r h;unfold mulR;rw[Xf];exact(yE hW hm ih hi).2
  lia
 ·intro q F;obtain⟨r,h,F⟩:=YH.mp F;obtain⟨it,c,rfl,K,hi⟩:=I r h;exact Cj (yE hW hm ih hi).1 K.1 q F
theorem iJ:∀{n:Nat}{d:Mx.D},bH 200 ku n d->bH 40000 Pos (n+m) (putL W n d)
 |0,_,h=>h.elim
 |n+1,d,#[rs,e,hl,I]=>by subst e;obtain⟨J,P⟩:=qH hW hm (n:=n) (λd h=>iJ h) hl I;rw[show n+1+m=n+m+1 by lia];refine#[_,rfl,Xh (jl _) J,λr h=>?_];refine(ft (S:=d7 40000 Pos<|bH 40000 Pos<|n+m) (λit c d#[i,k,e,Z,Y]K hd=>#[it,c+d,rfl,by show 0<c+d;lia,?_]) P r h).1;have:=Zj aL e;rw[aw,aw]at this;rw[this];exact Y
end
def pL:Ts:=(.cons (.ifs (.cmp .Eq (.var 0)<|.con<|.int 0) (.cons (.ret<|.tup .nil) .nil) .nil)<|.cons (.ret<|.bi .tuple<|.cons (.comp [G',G',G',B' 0] (.seq<|.var 1) (.tp [1,2]) .nil<|.tup<|.cons (.var 1)<|.cons (.bin .Mult (.var 3)<|.var 2) .nil) .nil) .nil)
theorem bw(rs):ofD (.tup rs)= .tup (aa rs):=by simp[ofD]
theorem dy(it)(c):ofD (row it c)= .tup [ofD it,.int c]:=by simp[row,ofD,aa]
theorem sU(K:ku c)(I:∀r∈rs,d7 L P (bH L P k) r):
  aP (aU (.tp [1,2]) (bM F .nil) (bz F (.tup (.cons (.var 1) (.cons (.bin .Mult (.var 3) (.var 2)) .nil)))) [G',G',G',B' (.int c)]) (aa rs) G'= .ok (aa (mulR c (.tup rs)),G'):=by
 have e:aa (mulR c (.tup rs))=rs.map λr=>ofD (row (aL r) (c*bL r)):=by unfold mulR;rw[aQ,YC];rfl
 rw[e];refine cN λr h=>?_
 obtain⟨it,d,rfl,_,_⟩:=I r h;have m1:=cC (i:=c) (j:=d) (.inl (by have:=K.1;have:=K.2;lia));exact bt (ρ1:=[G',B' (ofD it),B' (.int d),B' (.int c)]) (by rw[jL];rfl) (by simp only[RX,m1,aw,aM,dy]) rfl
theorem DA(r:fs[it]?=B' #[2,2,K',pL])(o:1<=N)(y:L<=lim)(K:ku c)(h:bH L P k f):az fs N it [.int c,ofD f] G'= .ok (.tup<|aa<|mulR c f,G'):=by
 obtain⟨k,rfl⟩:∃j,k=j+1:=by cases k with|zero=>exact h.elim|succ m=>exact#[m,rfl]
 obtain⟨rs,e,W,I⟩:=h;subst e;refine bg r o rfl ?_;show fin (aO (az fs<|N-1) pL [B' (.int c),B' (ofD<|.tup rs)] G')=_;rw[bw];have B:(c==0)=K':=Zg.mpr (by have:=K.1;lia);refine dR (S1:=G') (by simp only[RX,B])<|aA ?_;have l:=bN (F:=az fs<|N-1) (cap:=[G',G',G',B' 0]) (it:=.seq<|.var 1) (tg:=.tp [1,2]) (cs:=.nil) (e:=.tup<|.cons (.var 1)<|.cons (.bin .Mult (.var 3)<|.var 2) .nil) (ρ:=[B' (.int c),B' (.tup<|aa rs)]) (S:=G') (ds:=aa rs) (S1:=G') rfl (by rw[ar];lia) rfl<|sU K I;rw[cv,l];rfl
def rJ:Ts:=(.cons (.ret<|.tup<|.cons (.tup<|.cons (.tup<|.cons (.con<|.str "any")<|.cons (.var 0) .nil)<|.cons (.con<|.int 1) .nil) .nil) .nil)
theorem B8(x):ofD (bK x)= .tup [.tup [.tup [.str "any",.str x],.int 1]]:=by simp[bK,row,dB,ofD,aa]
theorem Fp(r:fs[ij]?=B' #[1,1,K',rJ])(o:1<=N)(x):az fs N ij [.str x] G'= .ok (ofD<|bK x,G'):=by refine bg r o rfl ?_;show fin (aO (az fs<|N-1) rJ [B' (.str x)] G')=_;exact aA (by rw[B8];simp only[RX])
def Ee(ij:Nat):Ts:=(.cons (.fr (.tp [2,3]) (.seq<|.var 0)<|.cons (.ifs (.cmp .Eq (.var 2)<|.var 1) (.cons (.ret<|.var 3) .nil) .nil) .nil)<|.cons (.ret<|.call ij (.cons (.var 1) .nil) []) .nil)
theorem qh:∀{P Q:List (Str×Mx.D)},(∀p∈P,p.1≠x)->bI (P++Q) x=bI Q x
 |[],_,_=>rfl
 |p::P,Q,h=>by rw[List.cons_append,bI,Zm (h p Xc)];exact qh λq F=>h q<|W9 _ F
theorem Da(p):dS (.tp [i,j]) (ofD<|aC p) ρ= .ok ((ρ.set i<|B'<|.str p.1).set j<|B'<|ofD p.2):=by
 have e:ofD (aC p)= .tup [.str p.1,ofD p.2]:=by simp[aC,ofD,aa]
 rw[e];rfl
theorem kg(h:aa (W.map aC)=pre++x::post):∃P p Q,W=P++p::Q/\pre=aa (P.map aC)/\x=ofD (aC p):=by obtain⟨a,y,b,e,B,E,_⟩:=f6 h;obtain⟨P,c,J,n,X⟩:=List.map_eq_append_iff.mp e;obtain⟨p,Q,rfl,r,_⟩:=List.map_eq_cons_iff.mp X;exact#[P,p,Q,J,by rw[B,n],by rw[E,r]]
theorem fG{P Q:List (Str×Mx.D)}(h:aa (P.map aC)=aa (Q.map aC)):P=Q:=by
 have:=Zj dP h;rw[aW,aW]at this
 replace this:=Y7 this
 clear h
 induction P generalizing Q with
 |nil=>cases Q with|nil=>rfl|cons=>cases this
 |cons p P ih=>
  cases Q with
  |nil=>cases this
  |cons q Q=>rw[XT,XT]at this;injection this with h1 h2;obtain⟨a,b⟩:=p;obtain⟨c,d⟩:=q;simp[aC]at h1;rw[ih h2,h1.1,h1.2]
theorem qi(hj:fs[ij]?=B' #[1,1,K',rJ])(r:fs[ih]?=B' #[2,4,K',Ee ij])(hN:2<=N)(W)(x):az fs N ih [ai W,.str x] G'= .ok (ofD<|aI W x,G'):=by
 have s:=Bx (S:=G') (tg:=.tp [2,3]) (body:=aO (az fs<|N-1)<|.cons (.ifs (.cmp .Eq (.var 2)<|.var 1) (.cons (.ret<|.var 3) .nil) .nil) .nil) (ds:=aa<|W.map aC) (ρ:=[B' (ai W),B' (.str x),G',G'])
  (λpre ρ=>∃P a b,pre=aa (P.map aC)/\(∀p∈P,p.1≠x)/\ρ=[B' (ai W),B' (.str x),a,b]) (λd=>d=ofD (aI W x)) #[[],G',G',rfl,by simp,rfl] (by
   rintro pre y o ρ e ⟨P,a,b,B,l,rfl⟩;obtain⟨c,p,Q,E,J,rfl⟩:=kg e;have:=fG<|B.symm.trans J;subst this;refine#[_,[B' (ai W),B' (.str x),B' (.str p.1),B' (ofD p.2)],Da p,?_];by_cases h:p.1=x
   ·refine .inr #[ofD p.2,?_,?_]
    ·have M:(p.1==x)=J':=by rw[h];exact Zh _
     exact qD (S1:=G') (by simp only[RX,M])<|J7 rfl
    ·unfold aI;rw[E,qh l,bI,Zn h];rfl
   ·have M:(p.1==x)=K':=Zg.mpr h;refine .inl #[jE (S1:=G') (by simp only[RX,M]) rfl,P++[p],B'<|.str p.1,B'<|ofD p.2,by rw[J,XU,aK];simp[aa],λq F=>?_,rfl];rcases Xs.mp F with F|F
    ·exact l q F
    ·rw[XF]at F;subst F;exact h)
 refine bg r ⋯ rfl ?_;show fin (aO (az fs<|N-1) (Ee ij) [B' (ai W),B' (.str x),G',G'] G')=_;rcases s with ⟨i,Z,P,a,b,B,l,rfl⟩|⟨d,i,Z,Y⟩
 ·have:=fG B;subst this;have hn:bI W x=G':=by have:=qh (Q:=[]) l;rw[XO]at this;exact this
  have j:=Fp (N:=N-1) hj ⋯ x;refine cn (ds:=aa<|W.map aC) (S1:=G') rfl rfl Z<|aA ?_;simp only[RX,j];unfold aI;rw[hn];rfl
 ·subst Y;refine qb (ρ1:=i) (S1:=G') ?_;rw[qP];show (af _<|forL _ _ _ _ _)=_;exact Z
variable{fs:List Fn}
section
variable{F:FT}{S:Sx}{ρ:aj}{ts:Ts}{k:Nat}
theorem wZ(h:ex F t ρ S= .ex k):fin (aO F (.cons t ts) ρ S)= .ex k:=by rw[bp,h];rfl
theorem N5(h:ex F t ρ S= .ex k):aO F (.cons t ts) ρ S= .ex k:=by rw[bp,h];rfl
theorem Lh(w:dS tg d ρ= .ok ρ1)(P:ev F e ρ1 S= .ex k):aU tg (bM F .nil) (bz F e) ρ d S= .ex k:=by unfold aU bz;rw[w,R.ah];show (R.ok (J',S)).bind _=_;rw[R.ah,Zn rfl,P];rfl
theorem FK(W:ρ[i]?=B' (B'<|.lst ds))(h:ev F c ρ S= .ok (.tup es,S1))(w:lk c<=1)(hz:ds.length+es.length<=lim)(k:aO F ts (ρ.set i<|B'<|.lst<|ds++es) S1=r):aO F (.cons (.xtd i c) ts) ρ S=r:=by refine nx ?_ k;rw[qR,qo W,guard_true,h,R.ah,Xz w,guard_true,lq W,R.ah];show af (decide (ds.length+es.length<=lim)) _=_;rw[Xz hz];rfl
end
def rK(ih a:Nat):Ts:=(.cons (.ifs (.cmp .Eq (.idx (.var 0)<|.con<|.int 0)<|.con<|.str "any") (.cons (.ret<|.call ih (.cons (.var 1)<|.cons (.idx (.var 0)<|.con<|.int 1) .nil) []) .nil) .nil)<|.cons (.asg 3<|.bi .tuple<|.cons (.comp [G',G',B' 2,B' 1] (.seq<|.idx (.var 0)<|.con<|.int 2) (.nm 1) .nil<|.call a (.cons (.var 1)<|.cons (.var 3)<|.cons (.var 2) .nil) []) .nil)<|.cons (.ret<|.tup<|.cons (.tup<|.cons (.tup<|.cons (.con<|.str "of")<|.cons (.idx (.var 0)<|.con<|.int 1)<|.cons (.var 3) .nil)<|.cons (.con<|.int 1) .nil) .nil) .nil)
def AG(it a:Nat):Ts:=(.cons (.xtd 3<|.call it (.cons (.var 5)<|.cons (.call a (.cons (.var 4)<|.cons (.var 1)<|.cons (.var 2) .nil) []) .nil) []) .nil)
def AF(it a ig is:Nat):Ts:=(.cons (.asgM 3<|.lst .nil)<|.cons (.fr (.tp [4,5]) (.seq<|.var 0)<|AG it a)<|.cons (.asg 6<|.call ig (.cons (.mvr 3) .nil) [])<|.cons (.ifs (.and (.cmp .IsNot (.var 2)<|.con .bX)<|.cmp .Gt (.call is (.cons (.var 6) .nil) [])<|.var 2) (.cons (.rs 0 [2]) .nil) .nil)<|.cons (.ret<|.var 6) .nil)
structure Au(fs:List Fn)(ip ig it is ij ih iu ii:Nat):Prop where
 p:fs[ip]?=B' #[1,1,K',jZ]
 g:fs[ig]?=B' #[1,4,K',DW<|.mvr 1]
 t:fs[it]?=B' #[2,2,K',pL]
 s:fs[is]?=B' #[1,1,K',Ef ip is]
 j:fs[ij]?=B' #[1,1,K',rJ]
 h:fs[ih]?=B' #[2,4,K',Ee ij]
 u:fs[iu]?=B' #[3,7,K',AF it ii ig is]
 i:fs[ii]?=B' #[3,4,K',rK ih iu]
section
variable{ip ig it is ij ih iu ii:Nat}(H:Au fs ip ig it is ij ih iu ii){W:List (Str×Mx.D)}
include H
theorem Fj(o:3<=N)(hi:ja 200 (bH 200 ku n) x)
  (X:∀p∈aX x,az fs (N-1) iu [ofD p,ai W,.int most] G'= .ok (ofD<|putL W n p,G')\/(B/\az fs (N-1) iu [ofD p,ai W,.int most] G'= .ex 0)):
  az fs N ii [ofD x,ai W,.int most] G'= .ok (ofD<|br (putL W n) W x,G')\/(B/\az fs N ii [ofD x,ai W,.int most] G'= .ex 0):=by
 have eQ:lim=1000000:=rfl;rcases hi with ⟨y,rfl⟩|⟨y,ps,rfl,hl,J⟩
 ·refine .inl<|bg H.i ⋯ rfl ?_;show fin (aO (az fs<|N-1) (rK ih iu) [B' (ofD<|dB y),B' (ai W),B' (.int most),G'] G')=_;rw[wF];have h:=qi (N:=N-1) H.j H.h ⋯ W y;exact jj (S1:=G') (by simp only[RX];rfl)<|aA<|by simp only[RX,h,cY]
 ·have w:ev (az fs<|N-1) (.idx (.var 0)<|.con<|.int 2) [B' (.tup [.str "of",.str y,.tup (aa ps)]),B' (ai W),B' (.int most),G'] G'= .ok (.tup<|aa ps,G'):=by simp only[RX]
  have comp:=rQ (k:=0) (B:=B) (S:=G') (ms:=ps) (g:=λp=>ofD<|putL W n p) (f:=aU (.nm 1) (bM (az fs<|N-1) .nil) (bz (az fs<|N-1)<|.call iu (.cons (.var 1)<|.cons (.var 3)<|.cons (.var 2) .nil) []) [G',G',B' (.int most),B' (ai W)]) (λp kR=>by
   rcases X p kR with h|⟨b,h⟩
   ·exact .inl<|bt (ρ1:=[G',B' (ofD p),B' (.int most),B' (ai W)]) rfl (by simp only[RX,h]) rfl
   ·exact .inr #[b,Lh (ρ1:=[G',B' (ofD p),B' (.int most),B' (ai W)]) rfl<|by simp only[RX,h];rfl])
  have M:∀{r:R (Dt×Sx)},fin (aO (az fs<|N-1) (rK ih iu) [B' (.tup [.str "of",.str y,.tup (aa ps)]),B' (ai W),B' (.int most),G'] G')=r->az fs N ii [ofD (ofT y ps),ai W,.int most] G'=r:=λ {r} h=>by refine bg H.i ⋯ rfl ?_;show fin (aO (az fs<|N-1) (rK ih iu) [B' (ofD<|ofT y ps),B' (ai W),B' (.int most),G'] G')=_;rw[td];exact h
  rcases comp with h|⟨b,h⟩
  ·refine .inl<|M<|dR (S1:=G') (by simp only[RX];rfl) ?_;have l:=bN (cap:=[G',G',B' 2,B' 1]) (cQ w rfl) (by rw[ar];lia) (ji w<|by simp only[lx];exact g9 _) h;have e:(ps.map λp=>ofD<|putL W n p)=aa (ps.map<|putL W n):=by rw[aQ,YC];rfl
   refine aN (d:=.tup<|aa<|ps.map<|putL W n) (S1:=G') (by rw[cv,l,R.ah,e];rfl) rfl<|aA ?_;simp only[RX,bT,bw,aa,dy,td]
  ·refine .inr #[b,M<|dR (S1:=G') (by simp only[RX];rfl)<|wZ ?_];have l:=lS (cap:=[G',G',B' 2,B' 1]) (cQ w rfl) (by rw[ar];lia) (ji w<|by simp only[lx];exact g9 _) h;rw[lz,cv,l];rfl
theorem yg(v:∀p∈W,bH 200 Pos m p.2)(A:1<=m)(oG:m<=8)(h0:0<=most)(Z:most<10^19):∀(n:Nat){N:Nat}{d:Mx.D},n<=8->3*n+m+10<=N->bH 200 ku n d->Aw W n d->
  az fs N iu [ofD d,ai W,.int most] G'=if most<eT (n+m) (putL W n d) then .ex 0 else .ok (ofD<|putL W n d,G')
 |0,_,_,_,_,h,_=>h.elim
 |n+1,N,d,hn,hN,hd,g=>by
  have X:lim=1000000:=rfl;have ih:=λ(N:Nat)(d:Mx.D)(hN:3*n+m+10<=N)(h:bH 200 ku n d)(k:Aw W n d)=>yg v A oG h0 Z n (N:=N) (d:=d) ⋯ hN h k
  have Y:bH 40000 Pos (n+1+m) (putL W (n+1) d):=iJ v A hd;obtain⟨rs,e,hl,I⟩:=hd;subst e;obtain⟨p1,p2⟩:=qH v A (n:=n) (λd h=>iJ v A h) hl I;have s:=EJ (S:=G') (k:=0) (B:=most<eT (n+1+m) (putL W (n+1)<|.tup rs)) (tg:=.tp [4,5]) (body:=aO (az fs<|N-1)<|AG it ii) (ds:=aa rs)
   (ρ:=[B' (.tup<|aa rs),B' (ai W),B' (.int most),B' (.lst []),G',G',G'])
   (λpre ρ=>∃p a b,pre=aa p/\ρ=[B' (.tup<|aa rs),B' (ai W),B' (.int most),B' (.lst<|aa<|p.flatMap λr=>mulR (bL r)<|br (putL W n) W<|aL r),a,b,G']) #[[],G',G',rfl,rfl] (by
    rintro pre x o ρ e ⟨p,a,b,rfl,rfl⟩;obtain⟨p',y,q,e1,E,rfl,rfl⟩:=f6 e;have:=Zj dP E;rw[aW,aW]at this;cases this;have hy:y∈rs:=by rw[e1];simp
    obtain⟨i,c,rfl,K,hi⟩:=I y hy;refine#[_,jL i c,?_];have u:=Fj H (N:=N-1) (W:=W) (n:=n) (most:=most) (B:=∃p∈aX i,most<eT (n+m) (putL W n p)) ⋯ hi (λp J=>by
     have:=ih (N-1-1) p ⋯ ((j9 hi).2 p J) (g.2 _ hy p J);rw[this];by_cases M:most<eT (n+m) (putL W n p)
     ·rw[Zn M];exact .inr #[#[p,J,M],rfl]
     ·rw[Zm M];exact .inl rfl)
    rcases u with h|⟨⟨p0,An,M⟩,h⟩
    ·left;obtain⟨s1,t⟩:=yE v A (n:=n) (λd h=>iJ v A h) hi;have O:=DA (N:=N-1) H.t ⋯ (by decide) K s1;have fl:(p.flatMap λr=>mulR (bL r)<|br (putL W n) W<|aL r).length+(mulR c<|br (putL W n) W i).length<=40000:=by
      refine Xh ?_ p1;rw[e1,List.flatMap_append,Yn,Xm,Xm,aw,aM]
      lia
     refine#[_,FK (ds:=aa<|p.flatMap λr=>mulR (bL r)<|br (putL W n) W<|aL r) (es:=aa<|mulR c<|br (putL W n) W i) (S1:=G') rfl (by simp only[RX,h,O]) (Nat.le_of_ble_eq_true rfl) (by rw[ar,ar];lia) rfl,p++[row i c],B'<|ofD i,B'<|.int c,by rw[aK];simp[aa],?_];rw[List.flatMap_append,aK];simp[aw,aM]
    ·right;refine#[?_,N5 ?_]
     ·rcases hi with ⟨z,rfl⟩|⟨z,ps,rfl,_,_⟩
      ·cases An
      ·have j:ofT z (ps.map<|putL W n)∈(bG<|rs.flatMap λr=>mulR (bL r)<|br (putL W n) W<|aL r).map aL:=(lX _).mpr<|XH.mpr #[row (ofT z<|ps.map<|putL W n)<|c*1,YH.mpr #[row (ofT z ps) c,hy,by rw[aw,aM,bT];exact XH.mpr #[_,XF.mpr rfl,rfl]],rfl];obtain⟨r',l,er⟩:=XH.mp j;have:=Dj (n:=n+m) (d:=putL W (n+1)<|.tup rs) (r:=r') (p:=putL W n p0) l (by rw[er];exact XH.mpr #[p0,An,rfl]);rw[show n+1+m=n+m+1 by lia]
       lia
     ·rw[qR];simp only[RX,h];rfl)
  refine bg H.u ⋯ rfl ?_;show fin (aO (az fs<|N-1) (AF it ii ig is) [B' (ofD<|.tup rs),B' (ai W),B' (.int most),G',G',G',G'] G')=_;rw[bw];refine eh (d:=.lst []) (S1:=G') rfl rfl ?_;rcases s with ⟨ρ1,Q,p,a,b,e1,rfl⟩|⟨hB,Q⟩
  ·have:=Zj dP e1;rw[aW,aW]at this;cases this;have j:=BA H.g (N:=N-1) ⋯ (n:=n+m) ⋯ (L:=40000) (P:=Pos) (ms:=rs.flatMap λr=>mulR (bL r)<|br (putL W n) W<|aL r) g.1 (λq F=>(p2 q F).1) λrs x y z _=>SW rs x y z
   have w:=Dp H.p H.s (L:=40000) (P:=Pos) (by decide) (n+1+m) (N:=N-1) ⋯ Y;have hd:ofD (putL W (n+1)<|.tup rs)= .tup (aa<|bG<|rs.flatMap λr=>mulR (bL r)<|br (putL W n) W<|aL r):=by rw[putL,bw];rfl
   refine cn (ds:=aa rs) (S1:=G') rfl rfl Q<|aN (d:=ofD<|putL W (n+1)<|.tup rs) (S1:=G') (by simp only[RX,j,hd]) (by unfold bP;rw[cT,X7]) ?_;generalize hz:putL W (n+1) (.tup rs)=z at w;by_cases M:most<eT (n+1+m) z
   ·rw[Zn M];refine jj (S1:=G') (by simp only[RX,w,Xz M];rfl)<|wZ ?_;rw[KF];have:(List.all [2]<|FB [B' (.tup<|aa rs),B' (ai W),B' (.int most),B' (.lst<|aa<|rs.flatMap λr=>mulR (bL r)<|br (putL W n) W<|aL r),a,b,B' (ofD z)])=J':=by show ((decide (0<=most)&&decide (most<10^19))&&J')=J';rw[Xz h0,Xz Z];rfl
    exact(Zj (af · _) this).trans rfl
   ·rw[Zm M];exact dR (S1:=G') (by simp only[RX,w,Xv M];rfl)<|aA<|by simp only[RX]
  ·rw[Zn hB];exact Bt (ds:=aa rs) (S1:=G') rfl rfl Q
end
variable{fs:List Fn}
def cJ(W:List (Str×Mx.D)):Dt:=.obj (W.map (·.1))<|W.map λp=>ofD p.2
theorem xS(x):∀W:List (Str×Mx.D),FM x (W.map (·.1)) (W.map λp=>ofD p.2)=(bI W x).map ofD
 |[]=>rfl
 |p::W=>by rw[XT,XT,FM,bI,xS x W];split<;>rfl
theorem EU(W)(x):xR (cJ W) (.str x) (ofD<|bK x)= .ok (ofD<|aI W x):=by show R.ok ((FM x (W.map (·.1))<|W.map λp=>ofD p.2).getD<|ofD<|bK x)=_;rw[xS];unfold aI;cases bI W x<;>rfl
theorem sd:∀W:List (Str×Mx.D),zd (aa<|W.map aC)=B' (W.map λp=>(p.1,ofD p.2))
 |[]=>rfl
 |p::W=>by
  rw[XT,aa,zd,sd W];have e:Bg (ofD<|aC p)=B' (p.1,ofD p.2):=by simp[aC,ofD,aa,Bg]
  rw[e];rfl
theorem pM(h:(W.map (·.1)).Nodup):dU .dict [ai W]= .ok (cJ W):=by
 have a:af (decide ((W.map λp=>(p.1,ofD p.2)).map (·.1)).Nodup) (R.ok (Dt.obj ((W.map λp=>(p.1,ofD p.2)).map (·.1)) ((W.map λp=>(p.1,ofD p.2)).map (·.2))))= .ok (cJ W):=by
  have B:(W.map λp=>(p.1,ofD p.2)).map (·.1)=W.map (·.1):=by rw[YC];rfl
  have E:(W.map λp=>(p.1,ofD p.2)).map (·.2)=W.map λp=>ofD p.2:=by rw[YC];rfl
  rw[B,E,Xz h];rfl
 show dU .dict [.tup (aa<|W.map aC)]=_;unfold dU;simp only[sd];exact a
theorem IV(Z:ev F o ρ S= .ok (cJ W,S1))(Y:ev F k ρ S1= .ok (.str x,S2))(u:ev F e ρ S2= .ok (ofD<|bK x,S3)):ev F (.gtO o k e) ρ S= .ok (ofD<|aI W x,S3):=by rw[yl,Z,R.ah];show ((ev F k ρ S1).bind _)=_;rw[Y,R.ah,u,R.ah,EU];rfl
def uT:C:=(.comp [G',G',G',B' 4] (.seq<|.var 5) (.tp [1,2]) .nil<|.tup<|.cons (.var 1)<|.cons (.bin .Mult (.var 3)<|.var 2) .nil)
def uS(il:Nat):C:=(.bi .tuple<|.cons (.comp [G',G',B' 1] (.seq<|.idx (.var 3)<|.con<|.int 2) (.nm 1) .nil<|.call il (.cons (.var 1)<|.cons (.var 2) .nil) []) .nil)
def uR(il:Nat):Ts:=(.cons (.asg 5<|.tup<|.cons (.tup<|.cons (.var 3)<|.cons (.con<|.int 1) .nil) .nil)<|.cons (.ifs (.cmp .Eq (.idx (.var 3)<|.con<|.int 0)<|.con<|.str "any") (.cons (.asg 5<|.gtO (.var 1) (.idx (.var 3)<|.con<|.int 1)<|.var 5) .nil)<|.cons (.asg 6<|.tup<|.cons (.con<|.str "of")<|.cons (.idx (.var 3)<|.con<|.int 1)<|.cons (uS il) .nil)<|.cons (.asg 5<|.tup<|.cons (.tup<|.cons (.var 6)<|.cons (.con<|.int 1) .nil) .nil) .nil)<|.cons (.asg 2<|.bin .Add (.var 2) uT) .nil)
def AE(il ig:Nat):Ts:=(.cons (.asg 2<|.lst .nil)<|.cons (.fr (.tp [3,4]) (.seq<|.var 0)<|uR il)<|.cons (.ret<|.call ig (.cons (.var 2) .nil) []) .nil)
theorem yf(j:fs[ig]?=B' #[1,4,K',DW K9])(hf:fs[il]?=B' #[2,7,K',AE il ig])(v:∀p∈W,bH 200 Pos m p.2)(A:1<=m)(oG:m<=8):∀(n:Nat){N:Nat}{d:Mx.D},n<=8->n+2<=N->bH 200 ku n d->Aw W n d->
  az fs N il [ofD d,cJ W] G'= .ok (ofD<|putL W n d,G')
 |0,_,_,_,_,h,_=>h.elim
 |n+1,N,d,hn,hN,hd,g=>by
  have X:lim=1000000:=rfl;have ih:=λ(d:Mx.D)(h:bH 200 ku n d)(k:Aw W n d)=>yf j hf v A oG n (N:=N-1) (d:=d) ⋯ ⋯ h k
  obtain⟨rs,e,hl,I⟩:=hd;subst e;obtain⟨p1,p2⟩:=qH v A (n:=n) (λd h=>iJ v A h) hl I;have s:=ej (S:=G') (tg:=.tp [3,4]) (body:=aO (az fs<|N-1)<|uR il) (ds:=aa rs)
   (ρ:=[B' (.tup<|aa rs),B' (cJ W),B' (.lst []),G',G',G',G'])
   (λpre ρ=>∃p a b c d,pre=aa p/\ρ=[B' (.tup<|aa rs),B' (cJ W),B' (.lst<|aa<|p.flatMap λr=>mulR (bL r)<|br (putL W n) W<|aL r),a,b,c,d]) #[[],G',G',G',G',rfl,rfl] (by
    rintro pre x o ρ e ⟨p,a,b,c5,H,rfl,rfl⟩;obtain⟨u,y,q,B,E,rfl,rfl⟩:=f6 e;have:=Zj dP E;rw[aW,aW]at this;cases this;have hy:y∈rs:=by rw[B];simp
    obtain⟨i,c,rfl,K,hi⟩:=I y hy;obtain⟨s1,s2⟩:=yE v A (n:=n) (λd h=>iJ v A h) hi;have Z:(p.flatMap λr=>mulR (bL r)<|br (putL W n) W<|aL r).length+(mulR c<|br (putL W n) W i).length<=40000:=by
     refine Xh ?_ p1;rw[B,List.flatMap_append,Yn,Xm,Xm,aw,aM]
     lia
    generalize J:(p.flatMap λr=>mulR (bL r)<|br (putL W n) W<|aL r)=acc at Z;have tail:∀(f:Mx.D)(x6:Option Dt),br (putL W n) W i=f->aO (az fs<|N-1) (.cons (.asg 2<|.bin .Add (.var 2) uT) .nil) [B' (.tup<|aa rs),B' (cJ W),B' (.lst<|aa acc),B' (ofD i),B' (.int c),B' (ofD f),x6] G'= .ok (.next,[B' (.tup<|aa rs),B' (cJ W),B' (.lst<|aa<|acc++mulR c f),B' (ofD i),B' (.int c),B' (ofD f),x6],G'):=by intro f x6 Y;rw[Y]at s1 s2 Z;obtain⟨fr,O,WG,U0⟩:=s1;subst O;have l:=bN (F:=az fs<|N-1) (cap:=[G',G',G',B' 4]) (it:=.seq<|.var 5) (tg:=.tp [1,2]) (cs:=.nil) (e:=.tup<|.cons (.var 1)<|.cons (.bin .Mult (.var 3)<|.var 2) .nil) (ρ:=[B' (.tup<|aa rs),B' (cJ W),B' (.lst<|aa acc),B' (ofD i),B' (.int c),B' (ofD<|.tup fr),x6]) (S:=G') (ds:=aa fr) (S1:=G') (by rw[bw];rfl) (by rw[ar];lia) rfl<|sU K U0;refine bh (d:=.lst<|aa<|acc++mulR c (.tup fr)) (S1:=G') ?_ rfl rfl;unfold uT;rw[yj];show ((ev (az fs<|N-1) _ _ G').bind λy=>(qE .Add (.lst<|aa acc) y.1).bind λd=>R.ok (d,y.2))=_;rw[l,R.ah];show (af (decide ((aa acc).length+(aa<|mulR c<|.tup fr).length<=lim)) _).bind _=_;rw[Xz (by rw[ar,ar];lia),guard_true,aK];rfl
    suffices hh:∃x6,aO (az fs<|N-1) (uR il) [B' (.tup<|aa rs),B' (cJ W),B' (.lst<|aa acc),B' (ofD i),B' (.int c),c5,H] G'= .ok (.next,[B' (.tup<|aa rs),B' (cJ W),B' (.lst<|aa<|acc++mulR c (br (putL W n) W i)),B' (ofD i),B' (.int c),B' (ofD<|br (putL W n) W i),x6],G') by obtain⟨x6,hh⟩:=hh;refine#[_,_,jL i c,hh,p++[row i c],B'<|ofD i,B'<|.int c,B'<|ofD<|br (putL W n) W i,x6,by rw[aK];simp[aa],?_];rw[List.flatMap_append,J];simp[aw,aM]
    rcases hi with ⟨z,rfl⟩|⟨z,ps,rfl,iD,BY⟩
    ·refine#[H,?_];have t:=tail (aI W z) H rfl;rw[wF]at t ⊢;refine bh (d:=ofD<|bK z) (S1:=G') (by rw[B8];simp only[RX]) (by unfold bP;rw[cT,X7])<|qD (S1:=G') (by simp only[RX];rfl)<|bh (d:=ofD<|aI W z) (S1:=G') (IV (S1:=G') (S2:=G') (S3:=G') rfl (by simp only[RX]) rfl) (by unfold bP;rw[cT,X7]) t
    ·refine#[B'<|ofD<|ofT z<|ps.map<|putL W n,?_];have t:=tail _ (B'<|ofD<|ofT z<|ps.map<|putL W n)<|bT (putL W n) W z ps;rw[bT];have M4:aP (aU (.nm 1) (bM (az fs<|N-1) .nil) (bz (az fs<|N-1)<|.call il (.cons (.var 1)<|.cons (.var 2) .nil) []) [G',G',B' (cJ W)]) (aa ps) G'= .ok (ps.map λp=>ofD<|putL W n p,G'):=cN λp M=>by have:=ih p (BY p M)<|g.2 _ hy p M;exact bt (ρ1:=[G',B' (ofD p),B' (cJ W)]) rfl (by simp only[RX,this]) rfl
     have ee:(ps.map λp=>ofD<|putL W n p)=aa (ps.map<|putL W n):=by rw[aQ,YC];rfl
     rw[td]at t ⊢;have w:ev (az fs<|N-1) (.idx (.var 3)<|.con<|.int 2) [B' (.tup<|aa rs),B' (cJ W),B' (.lst<|aa acc),B' (.tup [.str "of",.str z,.tup (aa ps)]),B' (.int c),B' (.tup [.tup [.tup [.str "of",.str z,.tup (aa ps)],.int 1]]),H] G'= .ok (.tup<|aa ps,G'):=by simp only[RX]
     have l:=bN (cap:=[G',G',B' 1]) (cQ w rfl) (by rw[ar];lia) (ji w<|by simp only[lx];exact g9 _) M4;have hC:ev (az fs<|N-1) (uS il) [B' (.tup<|aa rs),B' (cJ W),B' (.lst<|aa acc),B' (.tup [.str "of",.str z,.tup (aa ps)]),B' (.int c),B' (.tup [.tup [.tup [.str "of",.str z,.tup (aa ps)],.int 1]]),H] G'= .ok (.tup<|aa<|ps.map<|putL W n,G'):=by unfold uS;rw[cv,l,R.ah,ee];rfl
     refine bh (d:=.tup [.tup [.tup [.str "of",.str z,.tup (aa ps)],.int 1]]) (S1:=G') (by simp only[RX]) rfl<|jE (S1:=G') (by simp only[RX];rfl)<|bh (d:=ofD<|ofT z<|ps.map<|putL W n) (S1:=G') (by simp only[RX,hC,td]) (by unfold bP;rw[cT,X7])<|bh (d:=ofD<|.tup [row (ofT z<|ps.map<|putL W n) 1]) (S1:=G') (by simp only[RX,bw,aa,dy]) (by unfold bP;rw[cT,X7]) t)
  obtain⟨ρ1,Q,p,a,b,c,d,B,rfl⟩:=s;have:=Zj dP B;rw[aW,aW]at this;cases this;have VA:=BA j (N:=N-1) ⋯ (n:=n+m) ⋯ (L:=40000) (P:=Pos) (ms:=rs.flatMap λr=>mulR (bL r)<|br (putL W n) W<|aL r) g.1 (λq hq=>(p2 q hq).1) λrs x y z h=>O7 rs x y z h
  refine bg hf ⋯ rfl ?_;show fin (aO (az fs<|N-1) (AE il ig) [B' (ofD<|.tup rs),B' (cJ W),G',G',G',G',G'] G')=_;rw[bw];refine aN (d:=.lst []) (S1:=G') rfl rfl<|cn (ds:=aa rs) (S1:=G') rfl rfl Q<|aA ?_;simp only[RX,VA];rw[putL,bw];rfl
variable{fs:List Fn}
abbrev P3(c:Int):Prop:=0<c/\c<=3
def LA(P:Int->Prop):Nat->Mx.D->Prop
 |0,_=>False
 |n+1,d=>∃rs,d= .tup rs/\rs.length<=5/\Up rs/\∀r∈rs,d7 3 P (LA P n) r
theorem LA.N:∀{n:Nat}{d:Mx.D},LA P n d->bH 5 P n d
 |0,_,h=>h.elim
 |n+1,d,#[rs,e,Z,_,Y]=>#[rs,e,Z,λr I=>by
  obtain⟨it,c,e,u,Q⟩:=Y r I;exact#[it,c,e,u,Q.imp (by decide) λp J=>J.N]]
theorem yh:∀{n:Nat}{d:Mx.D},LA P n d->putL [] n d=d
 |0,_,h=>h.elim
 |n+1,d,#[rs,e,Z,h0,Y]=>by
  subst e;rw[putL];have w:∀r∈rs,∃i k,r=row i k:=λr I=>by obtain⟨it,c,e,_⟩:=Y r I;exact#[it,c,e]
  have fl:∀l:List Mx.D,(∀r∈l,r∈rs)->(l.flatMap λr=>mulR (bL r)<|br (putL [] n) []<|aL r)=l:=by
   intro l
   induction l with
   |nil=>intro _;rfl
   |cons r l ih=>
    intro h;rw[Yn,ih λq F=>h q<|W9 _ F];obtain⟨it,c,rfl,_,hi⟩:=Y r<|h r Xc;rw[aw,aM];have:mulR c (br (putL [] n) [] it)=[row it c]:=by
     rcases hi with ⟨x,rfl⟩|⟨x,ps,rfl,_,J⟩
     ·show [row (dB x) (c*1)]=_;rw[Int.mul_one]
     ·have O:ps.map (putL [] n)=ps:=by
       have:∀l:List Mx.D,(∀p∈l,LA P n p)->l.map (putL [] n)=l:=by
        intro l
        induction l with
        |nil=>intro _;rfl
        |cons p l ih=>intro h;rw[XT,yh (h p Xc),ih λq F=>h q<|W9 _ F]
       exact this ps J
      show [row (ofT x<|ps.map<|putL [] n) (c*1)]=_;rw[O,Int.mul_one]
    rw[this];rfl
  rw[show bc (.tup rs)=rs from rfl,fl rs λr h=>h,h0.MO w]
theorem Dr(g:0<=k):∀{l:List Int},(∀x∈l,x<=k)->l.sum<=l.length*k
 |[],_=>by simp
 |x::l,h=>by
  have Z:=h x Xc;have Y:=Dr g λy m=>h y (W9 _ m)
  rw[YR,Xo];have:((l.length+1:Nat):Int)*k=l.length*k+k:=by rw[Int.natCast_add,Int.add_mul];simp
  rw[this]
  lia
variable{fs:List Fn}
def gw(P:Int->Prop):Nat->Nat->Mx.D->Prop
 |_,0,_=>False
 |L,n+1,d=>∃rs,d= .tup rs/\rs.length<=L/\Up rs/\∀r∈rs,d7 3 P (gw P 2 n) r
theorem gw.U:∀{L n:Nat}{d:Mx.D},L<=5->gw P L n d->LA P n d
 |_,0,_,_,h=>h.elim
 |L,n+1,d,y,#[rs,e,Z,h0,Y]=>#[rs,e,⋯,h0,λr I=>by
  obtain⟨it,c,e,u,Q⟩:=Y r I;exact#[it,c,e,u,Q.imp (Xb _) λp J=>J.U<|by decide]]
theorem gw.mono(h:∀c,P c->P' c):∀{L a n:Nat}{d:Mx.D},L<=a->gw P L n d->gw P' a n d
 |_,_,0,_,_,h=>h.elim
 |L,a,n+1,d,y,#[rs,e,Z,h0,Y]=>#[rs,e,⋯,h0,λr I=>by
  obtain⟨it,c,e,u,Q⟩:=Y r I;exact#[it,c,e,h c u,Q.imp (Xb _) λp J=>J.mono h<|Xb _]]
theorem rR{P:Mx.D->Prop}:∀{ds:List Dt}{s:List Int},(∀d∈ds,∀s:List Int,∃(z:Mx.D)(l:List Int),f d (B' s)= .ok ([ofD z],B' l)/\P z)->
  ∃(w:List Mx.D)(l:List Int),aP f ds (B' s)= .ok (aa w,B' l)/\w.length=ds.length/\∀z∈w,P z
 |[],s,_=>#[[],s,rfl,rfl,λ_ h=>by cases h]
 |d::ds,s,h=>by
  obtain⟨z,s1,Z,Y⟩:=h d Xc s;obtain⟨w,t,u,Q,n⟩:=rR (s:=s1) λy m=>h y (W9 _ m)
  refine#[z::w,t,by rw[aP,Z,R.ah,u,R.ah];rfl,by rw[Xo,Xo,Q],λy m=>?_];rcases Xi.mp m with rfl|m
  ·exact Y
  ·exact n y m
def Mn(it:Nat):Ts:=.cons (.app 5<|.tup<|.cons (.var 9)<|.cons (.bin .Add (.con<|.int 1)<|.bin .FloorDiv (.callD it<|.cons (.con<|.int 4) .nil)<|.con<|.int 3) .nil) .nil
def Iy(im:Nat):C:=.callD im<|.cons (.bin .Sub (.var 2)<|.con<|.int 1)<|.cons (.var 4)<|.cons (.var 5)<|.cons (.con<|.int 2) .nil
def Mm(it im:Nat):Ts:=.cons (.ifs (.and (.cmp .Lt (.var 7)<|.con<|.int 2)<|.cmp .Gt (.bi .len<|.cons (.var 2) .nil)<|.con<|.int 0) (.cons (.asg 9<|.tup<|.cons (.con<|.str "any")<|.cons (.idx (.var 2)<|.callD it<|.cons (.bi .len<|.cons (.var 2) .nil) .nil) .nil) .nil)<|.cons (.ifs (.and (.cmp .Eq (.var 7)<|.con<|.int 3)<|.cmp .Gt (.var 1)<|.con<|.int 0) (.cons (.asg 10<|.bin .Add (.con<|.int 1)<|.callD it<|.cons (.con<|.int 3) .nil)<|.cons (.asg 9<|.tup<|.cons (.con<|.str "of")<|.cons (.var 8)<|.cons (.bi .tuple<|.cons (.comp [G',G',B' 1,B' 0,B' 2,B' 3] (.rng1<|.var 10) (.nm 1) .nil<|Iy im) .nil) .nil) .nil) .nil) .nil)<|Mn it
def Iw(it im:Nat):Ts:=.cons (.asg 7<|.callD it<|.cons (.con<|.int 4) .nil)<|.cons (.asg 8<|.idx (.var 3)<|.callD it<|.cons (.con<|.int 3) .nil)<|.cons (.asg 9<|.tup<|.cons (.con<|.str "of")<|.cons (.var 8)<|.cons (.tup .nil) .nil)<|Mm it im
def AD(it ig im:Nat):Ts:=.cons (.asgM 5<|.lst .nil)<|.cons (.fr (.nm 6) (.rng1<|.callD it<|.cons (.bin .Add (.var 4)<|.con<|.int 1) .nil)<|Iw it im)<|.cons (.ret<|.bi .tuple<|.cons (.comp [G',G',G'] (.seq<|.call ig (.cons (.mvr 5) .nil) []) (.tp [1,2]) .nil<|.tup<|.cons (.var 1)<|.cons (.bi .min2<|.cons (.con<|.int 3)<|.cons (.var 2) .nil) .nil) .nil) .nil
def lu(deep:Nat)(nm a:Dt)(most:Nat)(ms:List Mx.D)(x6 B g P x10:Option Dt):aj:=[G',B' (.int deep),B' nm,B' a,B' (.int most),B' (.lst<|aa ms),x6,B,g,P,x10]
section
variable{it ig im:Nat}{a b c a' b' c':Str}
theorem J0(O:fs[it]?=B' #[2,2,J',gh])(o:1<=N)(A:Dt.lst [.str a,.str b,.str c]=nm){kd:Nat}(s)
  (ih:1<=deep->∀s:List Int,∃rs s',az fs N im [.int ((deep-1:Nat):Int),nm,sg,.int 2] (B' s)= .ok (.tup<|aa rs,B' s')/\gw P3 2 deep (.tup rs)):
  ∃i y s',ja 3 (gw P3 2 deep) i/\∀r,aO (az fs N) (Mn it) (lu deep nm sg most ms x6 (B'<|.int kd) (B'<|.str sx) (B'<|ofD i) y) (B' s')=r->aO (az fs N) (Mm it im) (lu deep nm sg most ms x6 (B'<|.int kd) (B'<|.str sx) (B'<|.tup [.str "of",.str sx,.tup []]) x10) (B' s)=r:=by
 have X:lim=1000000:=rfl;have j:dU .len [nm]= .ok (.int 3):=by rw[<-A];rfl
 by_cases u:(kd:Int)<2
 ·obtain⟨z,s',g,l⟩:=cj O o (m:=3) (by decide) s;obtain⟨nx,h⟩:=t7 (a:=a) (b:=b) (c:=c) l;rw[A]at h;have g':=g (c:=.bi .len<|.cons (.var 2) .nil) (ρ:=lu deep nm sg most ms x6 (B'<|.int kd) (B'<|.str sx) (B'<|.tup [.str "of",.str sx,.tup []]) x10) λS=>by unfold lu;simp only[RX,j];rfl
  refine#[dB nx,x10,s',.inl #[nx,rfl],λr I=>?_];unfold lu at g' I ⊢;exact qD (S1:=B' s) (by simp only[RX,j,Xz u,Zo];rfl)<|bh (d:=ofD<|dB nx) (S1:=B' s') (by simp only[RX,g',h];simp[dB,ofD,aa]) rfl I
 ·by_cases H:(kd:Int)=3/\(0:Int)<deep
  ·have k:1<=deep:=⋯
   obtain⟨z,s1,g,l⟩:=cj O o (m:=3) (by decide) s;have g':=g (c:=.con<|.int 3) (ρ:=lu deep nm sg most ms x6 (B'<|.int kd) (B'<|.str sx) (B'<|.tup [.str "of",.str sx,.tup []]) x10) λS=>rfl
   have B:((1+z:Nat):Int)=1+(z:Int):=⋯
   obtain⟨v,t,k1,k2,k3⟩:=rR (f:=aU (.nm 1) (bM (az fs N) .nil) (bz (az fs N)<|Iy im) [G',G',B' (.int deep),G',B' nm,B' sg]) (P:=gw P3 2 deep) (ds:=bD 0<|1+z) (s:=s1) (λx L s=>by
    obtain⟨i,hi,rfl⟩:=GB L;obtain⟨rs,s',F,r2⟩:=ih k s;rw[show ((deep-1:Nat):Int)=(deep:Int)-1 by lia]at F;refine#[.tup rs,s',bt (ρ1:=[G',B' (.int i),B' (.int deep),G',B' nm,B' sg]) rfl ?_ rfl,r2];exact dJ (args:=[.int ((deep:Int)-1),nm,sg,.int 2]) (by simp only[RX]) F)
   refine#[ofT sx v,B'<|.int<|1+z,t,.inr #[sx,v,rfl,by rw[k2];simp[bD];lia,k3],λr I=>?_];unfold lu at g' I ⊢;have K:ev (az fs N) (.comp [G',G',B' 1,B' 0,B' 2,B' 3] (.rng1<|.var 10) (.nm 1) .nil<|Iy im) [G',B' (.int deep),B' nm,B' sg,B' (.int most),B' (.lst<|aa ms),x6,B' (.int kd),B' (.str sx),B' (.tup [.str "of",.str sx,.tup []]),B' (.int<|1+z)] (B' s1)= .ok (.lst<|aa v,B' t):=bN (ds:=bD 0<|1+z) (S1:=B' s1) (gJ (n:=1+z) (by simp only[RX];rw[<-B]) ⋯) (by simp[bD];lia) rfl k1;refine jE (S1:=B' s) (by simp only[RX,Xv u];rfl)<|qD (S1:=B' s) (by simp only[RX,H.1,Xz H.2];rfl)<|bh (d:=.int<|1+z) (S1:=B' s1) (by simp only[RX,g']) rfl<|bh (d:=ofD<|ofT sx v) (S1:=B' t) ?_ rfl I;simp only[RX,K];simp[ofT,ofD,aa]
  ·refine#[ofT sx [],x10,s,.inr #[sx,[],rfl,by simp,by simp],λr I=>?_];unfold lu at I ⊢;refine jE (S1:=B' s) (by simp only[RX,Xv u];rfl)<|jE (S1:=B' s) ?_ I;simp only[RX];cases h:((kd:Int)==3) with
   |false=>rfl
   |true=>have:=Xt h;rw[Zn rfl,Xv λz=>H #[this,z]]
theorem JZ(O:fs[it]?=B' #[2,2,J',gh])(o:1<=N)(A:Dt.lst [.str a,.str b,.str c]=nm)(L:Dt.lst [.str a',.str b',.str c']=sg)(W:ms.length<=1000)(s)
  (ih:1<=deep->∀s:List Int,∃rs l,az fs N im [.int ((deep-1:Nat):Int),nm,sg,.int 2] (B' s)= .ok (.tup<|aa rs,B' l)/\gw P3 2 deep (.tup rs)):
  ∃m l B g P x10,d7 3 Pos (gw P3 2 deep) m/\aO (az fs N) (Iw it im) (lu deep nm sg most ms x6 x7' x8' x9' x10') (B' s)= .ok (.next,lu deep nm sg most (ms++[m]) x6 B g P x10,B' l):=by
 have X:lim=1000000:=rfl;obtain⟨kd,s1,I,_⟩:=cj O o (m:=4) (by decide) s;obtain⟨z,t,r,S⟩:=cj O o (m:=3) (by decide) s1;obtain⟨sx,Y⟩:=t7 (a:=a') (b:=b') (c:=c') S;rw[L]at Y;obtain⟨i,y,w,hi,go⟩:=J0 (im:=im) O (most:=most) o A (ms:=ms) (x6:=x6) (x10:=x10') (kd:=kd) (sx:=sx) t ih;obtain⟨v,E,n,h⟩:=cj O o (m:=4) (by decide) w;have J:=qG (i:=v) (j:=3) (by decide) (by decide);have ve:=I (c:=.con<|.int 4) (ρ:=lu deep nm sg most ms x6 x7' x8' x9' x10') λ_=>rfl
 have EL:=r (c:=.con<|.int 3) (ρ:=lu deep nm sg most ms x6 (B'<|.int kd) x8' x9' x10') λ_=>rfl
 have k:=n (c:=.con<|.int 4) (ρ:=lu deep nm sg most ms x6 (B'<|.int kd) (B'<|.str sx) (B'<|ofD i) y) λ_=>rfl
 refine#[row i<|1+v/3,E,B'<|.int kd,B'<|.str sx,B'<|ofD i,y,#[i,_,rfl,by show (0:Int)<1+(v:Int)/3;lia,hi],bh (d:=.int kd) (S1:=B' s1) ve rfl<|bh (d:=.str sx) (S1:=B' t) ?_ rfl<|bh (d:=.tup [.str "of",.str sx,.tup []]) (S1:=B' t) ?_ rfl<|go _ ?_]
 ·show ev (az fs N) _ (lu deep nm sg most ms x6 (B'<|.int kd) x8' x9' x10') _=_;unfold lu at EL ⊢;simp only[RX,EL,Y]
 ·show ev (az fs N) _ (lu deep nm sg most ms x6 (B'<|.int kd) (B'<|.str sx) x9' x10') _=_;unfold lu;simp only[RX]
 ·unfold lu at k ⊢;rw[aK];refine j8 (ds:=aa ms) (d:=.tup [ofD i,.int (1+v/3)]) (S1:=B' E) rfl (by simp only[RX,k,J]) rfl (by rw[ar];lia) ?_;simp[row,ofD,aa,aO]
theorem xK(O:fs[it]?=B' #[2,2,J',gh])(j:fs[ig]?=B' #[1,4,K',DW K9])(hf:fs[im]?=B' #[5,11,J',AD it ig im])(i0:Dt.lst [.str a,.str b,.str c]=nm)(L:Dt.lst [.str a',.str b',.str c']=sg):
  ∀(deep:Nat),deep<=6->∀{N most:Nat}(s:List Int),deep+3<=N->most<=5->∃rs l,az fs N im [.int deep,nm,sg,.int most] (B' s)= .ok (.tup<|aa rs,B' l)/\gw P3 most (deep+1) (.tup rs):=λdeep=>by
  induction deep using Nat.strongRecOn with|_ deep ih=>?_
  intro E N most s hN BV;have X:lim=1000000:=rfl;obtain⟨n,s1,g1,Q⟩:=cj O (N:=N-1) ⋯ (m:=most+1) ⋯ s;have W:1<=deep->∀s:List Int,∃rs l,az fs (N-1) im [.int ((deep-1:Nat):Int),nm,sg,.int 2] (B' s)= .ok (.tup<|aa rs,B' l)/\gw P3 2 deep (.tup rs):=λh s=>by obtain⟨rs,l,r1,r2⟩:=ih (deep-1) ⋯ ⋯ (N:=N-1) (most:=2) s ⋯ ⋯;rw[show deep-1+1=deep by lia]at r2;exact#[rs,l,r1,r2]
  obtain⟨ρ1,t,dD,ms,x6,B,g,P,x10,zq,I,rfl⟩:=k9 (tg:=.nm 6) (ds:=bD 0 n) (s:=s1) (ρ:=lu deep nm sg most [] G' G' G' G' G')
   (body:=aO (az fs<|N-1)<|Iw it im)
   (λpre ρ _=>∃ms x6 B g P x10,ms.length=pre.length/\(∀m∈ms,d7 3 Pos (gw P3 2 deep) m)/\ρ=lu deep nm sg most ms x6 B g P x10)
   #[[],G',G',G',G',G',rfl,by simp,rfl] (by
    rintro pre x o ρ s e ⟨ms,x6,B,g,P,x10,zq,I,rfl⟩;obtain⟨Z,rfl⟩:=ik e;obtain⟨m,l,y7,y8,y9,L9,A,h⟩:=JZ (im:=im) O (deep:=deep) (most:=most) (N:=N-1) ⋯ i0 L (ms:=ms) ⋯ (x6:=B'<|.int pre.length) (x7':=B) (x8':=g) (x9':=P) (x10':=x10) s W;refine#[_,_,l,rfl,h,ms++[m],_,y7,y8,y9,L9,by rw[Xm,Xm,zq];rfl,λq F=>?_,rfl];rcases Xs.mp F with F|F
    ·exact I q F
    ·rw[XF.mp F];exact A)
  have WO:ms.length<=most:=by rw[zq];simp[bD];lia
  have w:∀q∈ms,d7 200 Pos (bH 200 Pos deep) q:=λq F=>by obtain⟨it,c,e,Z,Y⟩:=I q F;exact#[it,c,e,Z,Y.imp (by decide) λp J=>(J.U<|by decide).N.mono (by decide) (λc h=>h.1)<|Xb _]
  have v:=BA j (N:=N-1) ⋯ (n:=deep) ⋯ (ms:=ms) (Mx.SL.of ⋯) w λrs x y z h=>O7 rs x y z h
  have H:∀r∈ms,d7 3 Pos (gw P3 2 deep) r/\∃i k,r=row i k/\0<k:=λr h=>by obtain⟨it,c,e,Z,Y⟩:=I r h;exact#[#[it,c,e,Z,Y],it,c,e,Z]
  have M:=ft (S:=d7 3 Pos<|gw P3 2 deep) (λit c d#[i,k,e,Z,Y]K hd=>#[it,c+d,rfl,by show 0<c+d;lia,by
   have:=Zj aL e;rw[aw,aw]at this;rw[this];exact Y]) H
  have gl:=jl ms;have gu:=xa (ms:=ms) λr h=>by obtain⟨it,c,e,_⟩:=I r h;exact#[it,c,e]
  generalize bG ms=rs at v M gl gu;have u:ev (az fs<|N-1) (.call ig (.cons (.mvr 5) .nil) []) (lu deep nm sg most ms x6 B g P x10) (B' t)= .ok (.tup<|aa rs,B' t):=by unfold lu;simp only[RX,v]
  have k1:aP (aU (.tp [1,2]) (bM (az fs<|N-1) .nil) (bz (az fs<|N-1)<|.tup<|.cons (.var 1)<|.cons (.bi .min2<|.cons (.con<|.int 3)<|.cons (.var 2) .nil) .nil) [G',G',G']) (aa rs) (B' t)= .ok (rs.map λr=>ofD<|row (aL r)<|if bL r<3 then bL r else 3,B' t):=cN λr h=>by obtain⟨_,it,c,rfl,_⟩:=M r h;exact bt (ρ1:=[G',B' (ofD it),B' (.int c)]) (by rw[jL];rfl) (by simp only[RX,dy,aw,aM];rfl) rfl
  have eq:(rs.map λr=>ofD<|row (aL r)<|if bL r<3 then bL r else 3)=aa (rs.map λr=>row (aL r)<|if bL r<3 then bL r else 3):=by rw[aQ,YC];rfl
  rw[eq]at k1;refine#[rs.map λr=>row (aL r)<|if bL r<3 then bL r else 3,t,cV hf ⋯ rfl ?_,_,rfl,by rw[Xf];lia,?_,λr h=>?_]
  ·show fin (aO (az fs<|N-1) (AD it ig im) [G',B' (.int deep),B' nm,B' sg,B' (.int most),G',G',G',G',G',G']<|B' s)=_;have g0:=g1 (c:=.bin .Add (.var 4)<|.con<|.int 1) (ρ:=lu deep nm sg most [] G' G' G' G' G') λS=>by unfold lu;simp only[RX];rfl
   refine eh (d:=.lst []) (S1:=B' s) rfl rfl<|cn (ds:=bD 0 n) (S1:=B' s1) (gJ g0 ⋯) rfl dD<|aA ?_;rw[cv,bN (ds:=aa rs) (S1:=B' t) (cQ u rfl) (by rw[ar];lia) (ji u<|cT<|.tup rs) k1];rfl
  ·show ((rs.map _).map aL).Pairwise _;rw[YC];exact gu
  ·obtain⟨q,F,rfl⟩:=XH.mp h;obtain⟨⟨it,c,e,Z,Y⟩,_⟩:=M q F;subst e;exact#[it,_,rfl,by rw[aM];show 0<(if c<3 then c else 3)/\(if c<3 then c else 3)<=3;have:0<c:=Z;split<;>lia,Y]
end
variable{fs:List Fn}
def D7:Mx.D->Str×Mx.D
 |.tup [.str x,f]=>(x,f)
 |d=>("",d)
theorem jR(p):D7 (aC p)=p:=rfl
theorem gM{α:Type}{g:α->α}:∀{l:List α},(∀y∈l,g y=y)->l.map g=l
 |[],_=>rfl
 |y::l,h=>by rw[XT,h y Xc,gM λz k=>h z<|W9 _ k]
theorem rk(A:m<=8){V:List (Str×Mx.D)}(H:∀p∈V,bH 40000 Pos m p.2)(hl:V.length<=60)(Y:2*m+2<=20):∃W:List (Str×Mx.D),aG (V.map aC)=W.map aC/\W.Perm V/\je (V.map aC)=J':=by
 have pm:=aY<|V.map aC;refine#[(aG<|V.map aC).map D7,?_,?_,?_]
 ·rw[YC];refine(gM λy hy=>?_).symm;obtain⟨p,_,rfl⟩:=XH.mp<|pm.mem_iff.mp hy;rfl
 ·have:=pm.map D7;rw[YC,show (D7 ∘ aC)=id from funext jR,List.map_id]at this;exact this
 ·refine AV .ts (Mx.SL.of<|by rw[Xf];lia) (eV λd hd=>?_) (λd hd=>?_) λd hd e P=>?_
  ·obtain⟨p,J,rfl⟩:=XH.mp hd;have:=lO<|H p J;simp[aC,Mx.D.dep,Mx.D.bq]
   lia
  ·obtain⟨p,J,rfl⟩:=XH.mp hd;rfl
  ·obtain⟨p,J,rfl⟩:=XH.mp hd;obtain⟨q,F,rfl⟩:=XH.mp P;have:=JR (H p J)<|H q F;simp[aC,lp,iU,this]
structure jW(P:Int->Prop)(L:Nat)(W:List (Str×Mx.D)):Prop where
 nd:(W.map (·.1)).Nodup
 fm:∀p∈W,gw P L 2 p.2
 sz:W.length<=3
 up:(W.map λp=>Mx.D.str p.1).Pairwise λa b=>Mx.D.lt a b=J'
def Mp(it im:Nat):Ts:=.cons (.ifs (.cmp .Gt (.callD it<|.cons (.con<|.int 4) .nil)<|.con<|.int 0) (.cons (.app 5<|.tup<|.cons (.var 6)<|.cons (.callD im<|.cons (.con<|.int 1)<|.cons (.var 2)<|.cons (.var 3)<|.cons (.var 4) .nil) .nil) .nil) .nil) .nil
def IA(it im:Nat):Ts:=.cons (.asgM 5<|.lst .nil)<|.cons (.fr (.nm 6) (.seq<|.var 1)<|Mp it im)<|.cons (.ret<|.bi .tuple<|.cons (.bi .sorted<|.cons (.mvr 5) .nil) .nil) .nil
section
variable{it ig im iw:Nat}{a b c a' b' c':Str}
theorem DL(ht:fs[it]?=B' #[2,2,J',gh])(hg:fs[ig]?=B' #[1,4,K',DW K9])(hf:fs[im]?=B' #[5,11,J',AD it ig im])(hw:fs[iw]?=B' #[5,7,J',IA it im]){nm sg:Dt}(i0:Dt.lst [.str a,.str b,.str c]=nm)(nQ:Dt.lst [.str a',.str b',.str c']=sg)
  (fP:a≠b) (xl:b≠c) (xh:a≠c) {N most:Nat} (hN:5<=N) (BV:most<=5) (s:List Int):∃(W:List (Str×Mx.D))(s':List Int),az fs N iw [nm,nm,sg,.int most] (B' s)= .ok (ai W,B' s')/\jW P3 most W:=by
 have eQ:lim=1000000:=rfl;obtain⟨ρ1,s2,dD,V,x6,hl,hV,nR,rfl⟩:=k9 (tg:=.nm 6) (ds:=[.str a,.str b,.str c]) (s:=s) (ρ:=[G',B' nm,B' nm,B' sg,B' (.int most),B' (.lst []),G']) (body:=aO (az fs (N-1)) (Mp it im))
  (λpre ρ _=>∃(V:List (Str×Mx.D))(x:Option Dt),V.length<=pre.length/\(∀p∈V,gw P3 most 2 p.2)/\((V.map (·.1)).map Dt.str).Sublist pre/\ρ=[G',B' nm,B' nm,B' sg,B' (.int most),B' (.lst (aa (V.map aC))),x])
  #[[],G',by simp,by simp,by simp,by simp[aa]] (by
   rintro pre y post ρ s e ⟨V,x6,hl,hV,nR,rfl⟩;obtain⟨x,rfl⟩:∃x:Str,y= .str x:=by
    have:y∈[Dt.str a,.str b,.str c]:=by rw[e];simp
    simp at this;rcases this with h|h|h<;>exact#[_,h]
   have WR:pre.length<=2:=by have:=Zj List.length e;simp at this;lia
   obtain⟨w,s1,g1,_⟩:=cj ht (N:=N-1) ⋯ (m:=4) (by decide) s;have ve:=g1 (c:=.con (.int 4)) (ρ:=[G',B' nm,B' nm,B' sg,B' (.int most),B' (.lst (aa (V.map aC))),B' (.str x)]) λ_=>rfl
   by_cases hw0:(0:Int)<w
   ·obtain⟨rs,s2,m1,m2⟩:=xK ht hg hf i0 nQ 1 (by decide) (N:=N-1) (most:=most) s1 ⋯ BV;have m3:=dJ (f:=im) (ρ:=[G',B' nm,B' nm,B' sg,B' (.int most),B' (.lst (aa (V.map aC))),B' (.str x)]) (es:=.cons (.con (.int 1)) (.cons (.var 2) (.cons (.var 3) (.cons (.var 4) .nil)))) (args:=[.int (1:Nat),nm,sg,.int most]) (by simp only[RX];rfl) m1;refine#[_,_,s2,rfl,qD (S1:=B' s1) (by simp only[RX,ve,Xz hw0]) (j8 (ds:=aa (V.map aC)) (d:=ofD (aC (x,.tup rs))) (S1:=B' s2) rfl (by simp only[RX,m3];simp[aC,ofD,aa]) (by unfold bP;rw[cT,X7]) (by rw[ar,Xf];lia) rfl),V++[(x,.tup rs)],B' (.str x),by simp;lia,λp hp=>?_,?_,?_]
    ·rcases Xs.mp hp with hp|hp
     ·exact hV p hp
     ·rw[XF]at hp;subst hp;exact m2
    ·rw[XU,XU];exact nR.append (List.Sublist.refl _)
    ·rw[XU,aK];simp[aa]
   ·exact#[_,_,s1,rfl,jE (S1:=B' s1) (by simp only[RX,ve,Xv hw0]) rfl,V,B' (.str x),by simp;lia,hV,nR.trans (List.sublist_append_left _ _),rfl])
 have VH:V.length<=3:=hl;have nV:(V.map (·.1)).Nodup:=by have h3:((V.map (·.1)).map Dt.str).Nodup:=List.Nodup.sublist nR (by have i:∀{u v:Str},u≠v->Dt.str u≠ .str v:=λh e=>h (by cases e;rfl);simp[i fP,i xl,i xh]);exact List.Pairwise.imp (λ {x y} h e=>h (by rw[e])) (YQ.mp h3)
 obtain⟨W,w1,w2,w3⟩:=rk (m:=2) (by decide) (λp hp=>((hV p hp).U BV).N.mono (by decide) (λc z=>z.1) (Xb _)) (V:=V) ⋯ (by decide);have hs:=(gV w3).1;refine#[W,s2,cV hw ⋯ rfl ?_,?_,λp hp=>hV p (w2.mem_iff.mp hp),by rw[w2.length_eq];exact VH,?_]
 ·show fin (aO (az fs (N-1)) (IA it im) [G',B' nm,B' nm,B' sg,B' (.int most),G',G'] (B' s))=_;refine eh (d:=.lst []) (S1:=B' s) rfl rfl (cn (ds:=[.str a,.str b,.str c]) (S1:=B' s) (cQ (d:=nm) rfl (by rw[<-i0];rfl)) rfl dD (aA ?_));simp only[RX,hs,w1];rfl
 ·exact(w2.map (·.1)).nodup_iff.mpr nV
 ·have nW:=(w2.map (·.1)).nodup_iff.mpr nV;have nr:(V.map aC).Nodup:=List.Pairwise.map aC (λp q h e=>h (by have:=Zj D7 e;rw[jR,jR]at this;rw[this])) (YQ.mp nV);have st:=dH nr;rw[w1]at st;exact YQ.mpr (List.Pairwise.imp (λ {p q} h=>by
   obtain⟨h1,h2⟩:=h;have ne:Mx.D.str p.1≠ .str q.1:=λe=>h2 (Mx.D.str.inj e)
   simp only[aC,Mx.D.lt]at h1;rw[Mx.D.b8,Zm ne]at h1;exact h1) ((YQ.mp st).and (YQ.mp nW)))
end
variable{fs:List Fn}
abbrev Pg(c:Int):Prop:=0<c/\c<=300000000
def Eo(it:Nat):C:=(.tup<|.cons (.var 1)<|.cons (.bin .Mult (.var 2)<|.bin .Add (.con<|.int 1)<|.callD it<|.cons (.bin .Pow (.con<|.int 10)<|.con<|.int 8) .nil) .nil)
def Iv(it:Nat):Ts:=.cons (.ret<|.bi .tuple<|.cons (.comp [G',G',G',B' 0] (.seq<|.var 1) (.tp [1,2]) .nil<|Eo it) .nil) .nil
theorem xg(O:fs[it]?=B' #[2,2,J',gh])(o:1<=N):∀(rs:List Mx.D)(s:List Int),(∀r∈rs,d7 3 P3 Q r)->
  ∃v s',aP (aU (.tp [1,2]) (bM (az fs N) .nil) (bz (az fs N)<|Eo it) [G',G',G',G']) (aa rs) (B' s)= .ok (aa v,B' s')/\v.map aL=rs.map aL/\∀q∈v,d7 3 Pg Q q
 |[],s,_=>#[[],s,rfl,rfl,λ_ h=>by cases h]
 |r::rs,s,h=>by
  obtain⟨i,c,rfl,K,hi⟩:=h r Xc;obtain⟨z,s1,g,l⟩:=cj O o (m:=100000000) (by decide) s;obtain⟨v,t,Z,Y,u⟩:=xg O o rs s1 λq F=>h q (W9 _ F)
  have g':=g (c:=.bin .Pow (.con<|.int 10)<|.con<|.int 8) (ρ:=[G',B' (ofD i),B' (.int c),G']) λ_=>rfl
  have m:=cC (i:=c) (j:=1+z)<|.inr ⋯;have a:Pg (c*(1+z)):=by
   have u:0<c:=K.1;have h4:c<=3:=K.2;refine#[Int.mul_pos u ⋯,?_];have:=Yf h4 (show (0:Int)<=1+z by lia)
   lia
  have O:aU (.tp [1,2]) (bM (az fs N) .nil) (bz (az fs N)<|Eo it) [G',G',G',G'] (ofD<|row i c) (B' s)= .ok ([ofD (row i<|c*(1+z))],B' s1):=
   bt (ρ1:=[G',B' (ofD i),B' (.int c),G']) (by rw[dy];rfl) (by unfold Eo;simp only[RX,g',m,dy]) rfl
  refine#[row i (c*(1+z))::v,t,by rw[aa,aP,O,R.ah,Z,R.ah];rfl,by rw[XT,XT,Y,aw,aw],λq F=>?_];rcases Xi.mp F with rfl|F
  ·exact#[i,_,rfl,a,hi]
  ·exact u q F
theorem Jg(O:fs[it]?=B' #[2,2,J',gh])(r:fs[ig]?=B' #[2,2,J',Iv it])(o:2<=N)(h:gw P3 L n d)(y:L<=1000)(s):∃(d':Mx.D)(l:List Int),az fs N ig [ofD d] (B' s)= .ok (ofD d',B' l)/\gw Pg L n d':=by
 have X:lim=1000000:=rfl;obtain⟨n,rfl⟩:∃m,n=m+1:=by cases n with|zero=>exact h.elim|succ m=>exact#[m,rfl]
 obtain⟨rs,rfl,W,P,I⟩:=h;obtain⟨v,l,Z,Y,u⟩:=xg O (N:=N-1) ⋯ rs s I;have g:v.length=rs.length:=by have:=Zj List.length Y;rwa [Xf,Xf]at this
 refine#[.tup v,l,cV r ⋯ rfl ?_,v,rfl,⋯,by unfold Up;rw[Y];exact P,λq F=>?_]
 ·show fin (aO (az fs<|N-1) (Iv it) [G',B' (.tup<|aa rs)]<|B' s)=_;refine aA ?_;rw[cv,bN (ds:=aa rs) (S1:=B' s) (cQ (d:=.tup<|aa rs) rfl rfl) (by rw[ar];lia) rfl Z];rfl
 ·obtain⟨i,c,e,a,b⟩:=u q F;exact#[i,c,e,a,b.imp (Xb _) λp J=>J.mono (λc z=>#[z.1,by have:c<=3:=z.2;lia])<|Xb _]
def HZ(m:Int)(f:Mx.D->Int):Mx.D->Int
 |.tup [_,.str _]=>m
 |.tup [_,.str _,.tup ps]=>1+(ps.map f).sum
 |_=>1
def o4(m:Int):Nat->Mx.D->Int
 |0,_=>0
 |n+1,d=>((bc d).map λr=>HZ m (o4 m n)<|aL r).sum
theorem DK(m)(f)(x):HZ m f (dB x)=m:=rfl
theorem pv(m)(f)(x)(ps):HZ m f (ofT x ps)=1+(ps.map f).sum:=rfl
theorem lD:∀{l:List Int},(∀x∈l,0<=x)->0<=l.sum
 |[],_=>Yc 0
 |x::l,h=>by
  have Z:=h x Xc;have Y:=lD λy m=>h y (W9 _ m)
  rw[YR];lia
theorem rd{α:Type}{f g:α->Int}:∀{l:List α},(∀x∈l,f x<=g x)->(l.map f).sum<=(l.map g).sum
 |[],_=>Yc 0
 |x::l,h=>by
  have Z:=h x Xc;have Y:=rd λy m=>h y (W9 _ m)
  rw[XT,XT,YR,YR];lia
theorem o9{a b:List Int}(h:a.Perm b):a.sum=b.sum:=by
 induction h with
 |nil=>rfl
 |cons x _ ih=>rw[YR,YR,ih]
 |swap x y l=>simp only[YR];lia
 |trans _ _ Z Y=>exact Z.trans Y
theorem Ia(A:0<=m)(r:∀p,0<=f p)(i):0<=HZ m f i:=by
 unfold HZ;split
 ·exact A
 ·rename_i ps;have:=lD (l:=ps.map f) λx L=>by obtain⟨p,_,rfl⟩:=XH.mp L;exact r p
  lia
 ·lia
theorem Dm(A:0<=m):∀(n:Nat)(d:Mx.D),0<=o4 m n d
 |0,_=>Yc 0
 |n+1,d=>lD λx L=>by obtain⟨r,_,rfl⟩:=XH.mp L;exact Ia A (Dm A n) _
theorem mW:∀{n k:Nat}{d:Mx.D},bH L P n d->n<=k->o4 m k d=o4 m n d
 |0,_,_,h,_=>h.elim
 |n+1,0,_,_,h=>by lia
 |n+1,k+1,d,#[rs,e,_,I],g=>by
  subst e;show (rs.map λr=>HZ m (o4 m k)<|aL r).sum=(rs.map λr=>HZ m (o4 m n)<|aL r).sum;congr 1;refine YB λr h=>?_
  obtain⟨it,c,rfl,_,hi⟩:=I r h;rw[aw];rcases hi with ⟨x,rfl⟩|⟨x,ps,rfl,_,J⟩
  ·rfl
  ·rw[pv,pv];congr 2;exact YB λp h=>mW (J p h) ⋯
theorem lC:∀{n:Nat}{d:Mx.D},bH L P n d->eT n d=o4 1 n d
 |0,_,h=>h.elim
 |n+1,d,#[rs,e,_,I]=>by
  subst e;show (rs.map λr=>1+((aX<|aL r).map<|eT n).sum).sum=(rs.map λr=>HZ 1 (o4 1 n)<|aL r).sum;congr 1;refine YB λr h=>?_
  obtain⟨it,c,rfl,_,hi⟩:=I r h;rw[aw];rcases hi with ⟨x,rfl⟩|⟨x,ps,rfl,_,J⟩
  ·rfl
  ·rw[pv,mD,YB λp h=>lC<|J p h]
theorem BF{f:Mx.D->Int}(hf:∀i,0<=f i):∀(rs:List Mx.D)(it:Mx.D)(c:Int),((gr it c rs).map λr=>f<|aL r).sum<=f it+(rs.map λr=>f<|aL r).sum
 |[],it,c=>by simp[gr,aw]
 |r::rs,it,c=>by
  rw[gr,XT,YR];have h0:=hf<|aL r;split
  ·rename_i e;have:=BF hf rs (aL r)<|c+bL r;rw[e];lia
  ·have:=BF hf rs (aL r)<|bL r;rw[XT,YR,aw];lia
theorem EN{f:Mx.D->Int}(hf:∀i,0<=f i)(ms):((bG ms).map λr=>f<|aL r).sum<=(ms.map λr=>f<|aL r).sum:=by
 have h:((aG ms).map λr=>f<|aL r).sum=(ms.map λr=>f<|aL r).sum:=o9<|(aY ms).map _;rw[<-h];unfold bG;cases aG ms with
 |nil=>exact Yc _
 |cons r rs=>rw[rn,XT,YR];exact BF hf rs _ _
theorem JY(f:Mx.D->Int)(c)(d):((mulR c d).map λr=>f<|aL r)=(bc d).map λr=>f (aL r):=by unfold mulR;rw[YC];exact YB λr _=>by show f (aL<|row (aL r) _)=_;rw[aw]
theorem lT{α p:Type}(f:p->Int)(g):∀l:List α,((l.flatMap g).map f).sum=(l.map λx=>((g x).map f).sum).sum
 |[]=>rfl
 |x::l=>by rw[Yn,XU,List.sum_append,lT f g l,XT,YR]
theorem yA(A:0<=m)(v:∀x,bH L P k<|aI W x)(u:∀x,o4 m k (aI W x)<=M):∀{n:Nat}{d:Mx.D},bH L' P' n d->o4 m (n+k) (putL W n d)<=o4 M n d
 |0,_,h=>h.elim
 |n+1,d,#[rs,e,_,I]=>by
  subst e;rw[show n+1+k=(n+k)+1 by lia];refine Int.le_trans (EN (Ia A<|Dm A _) _) ?_;rw[lT];refine rd λr h=>?_
  obtain⟨it,c,rfl,_,hi⟩:=I r h;rw[JY,aw];rcases hi with ⟨x,rfl⟩|⟨x,ps,rfl,_,J⟩
  ·rw[cY,DK];have:=u x;rw[<-mW (m:=m) (v x) (show k<=n+k+1 by lia)]at this;exact this
  ·rw[bT,pv];show ([row (ofT x<|ps.map<|putL W n) 1].map _).sum<=_;rw[XT,YD,YR,List.sum_nil,aw,pv,YC,Int.add_zero];have:=rd (f:=o4 m (n+k) ∘ putL W n) (g:=o4 M n) (l:=ps) λp h=>yA A v u (J p h)
   lia
theorem m9(K:0<=c){l:List Int}(W:l.length<=n)(h:∀x∈l,x<=c):l.sum<=n*c:=
 Int.le_trans (Dr K h) (Yf ⋯ K)
theorem Do(A:1<=m)(h:gw P L 1 d):o4 m 1 d<=L*m:=by
 obtain⟨rs,rfl,W,_,I⟩:=h;refine m9 ⋯ (by rw[Xf];exact W) λx hx=>?_
 obtain⟨r,h,rfl⟩:=XH.mp hx;obtain⟨it,c,rfl,_,hi⟩:=I r h;rw[aw];rcases hi with ⟨x,rfl⟩|⟨x,ps,rfl,_,J⟩
 ·exact Yc m
 ·cases ps with
  |nil=>exact A
  |cons p ps=>exact(J p Xc).elim
theorem kK(A:1<=m)(h:gw P L 2 d):o4 m 2 d<=L*(1+6*m):=by
 obtain⟨rs,rfl,W,_,I⟩:=h;refine m9 ⋯ (by rw[Xf];exact W) λx hx=>?_
 obtain⟨r,h,rfl⟩:=XH.mp hx;obtain⟨it,c,rfl,_,hi⟩:=I r h;rw[aw];rcases hi with ⟨x,rfl⟩|⟨x,ps,rfl,W,J⟩
 ·rw[DK];lia
 ·rw[pv];have:=m9 (c:=2*m) (n:=3) (l:=ps.map<|o4 m 1) ⋯ (by rw[Xf];exact W) λx hx=>by obtain⟨p,h,rfl⟩:=XH.mp hx;exact Do A (J p h)
  show 1+(ps.map<|o4 m 1).sum<=_;generalize (ps.map<|o4 m 1).sum=y at *
  lia
def i7(g:Mx.D->Int)(rs:List Mx.D):Int:=(rs.map λr=>bL r*g (aL r)).sum
theorem G7(g):i7 g []=0:=rfl
theorem cm(g)(r)(rs):i7 g (r::rs)=bL r*g (aL r)+i7 g rs:=rfl
theorem G6(g)(a b):i7 g (a++b)=i7 g a+i7 g b:=by unfold i7;rw[XU,List.sum_append]
theorem DH(g)(h:a.Perm b):i7 g a=i7 g b:=by
 induction h with
 |nil=>rfl
 |cons x _ ih=>rw[cm,cm,ih]
 |swap x y l=>simp only[cm];lia
 |trans _ _ Z Y=>exact Z.trans Y
theorem vf(g):∀(rs:List Mx.D)(it:Mx.D)(c:Int),i7 g (gr it c rs)=c*g it+i7 g rs
 |[],it,c=>by rw[gr,cm,aw,aM]
 |r::rs,it,c=>by
  rw[gr,cm];split
  ·rename_i e;rw[vf g rs,Int.add_mul,e]
   lia
  ·rw[cm,vf g rs,aw,aM]
theorem jm(g)(ms):i7 g (bG ms)=i7 g ms:=by
 rw[<-DH g (aY ms)];unfold bG;cases aG ms with
 |nil=>rfl
 |cons r rs=>rw[rn,vf,cm]
theorem FF(g)(c)(f):i7 g (mulR c f)=c*i7 g (bc f):=by
 unfold mulR
 induction bc f with
 |nil=>rw[YD,G7,Int.mul_zero]
 |cons r rs ih=>rw[XT,cm,cm,ih,aw,aM,Int.mul_add,Int.mul_assoc]
theorem jk(g)(F:Mx.D->Mx.D)(rs):i7 g (rs.flatMap λr=>mulR (bL r)<|F<|aL r)=i7 (λx=>i7 g<|bc<|F x) rs:=by
 induction rs with
 |nil=>rfl
 |cons r rs ih=>rw[Yn,G6,cm,ih,FF]
theorem pq(e:∀r∈rs,g (aL r)=h (aL r)):i7 g rs=i7 h rs:=by unfold i7;rw[YB λr I=>by rw[e r I]]
structure yO(rs:List Mx.D):Prop where
 up:Up rs
 ps:∀r∈rs,∃i k,r=row i k/\0<k
theorem yO.tail(h:yO (r::rs)):yO rs:=#[(YN.mp h.up).2,λq F=>h.ps q<|W9 _ F]
theorem yO.at(h:yO rs)(i):(∃r∈rs,aL r=i/\i7 (λx=>if x=i then 1 else 0) rs=bL r)\/((∀r∈rs,aL r≠i)/\i7 (λx=>if x=i then 1 else 0) rs=0):=by
 induction rs with
 |nil=>exact .inr #[(λr I=>by cases I),rfl]
 |cons r rs ih=>
  have X:=YN.mp h.up;rw[cm];by_cases e:aL r=i
  ·rw[Zn e,Int.mul_one];rcases ih h.tail with ⟨q,F,E,_⟩|⟨_,E⟩
   ·have:=X.1 _<|XH.mpr #[q,F,rfl];rw[e,E,Mx.D.lt_irrefl]at this;cases this
   ·exact .inl #[r,Xc,e,by rw[E];lia]
  ·rw[Zm e,Int.mul_zero,Int.zero_add];rcases ih h.tail with ⟨q,F,E,J⟩|⟨Y,E⟩
   ·exact .inl #[q,W9 _ F,E,J]
   ·exact .inr #[λq F=>by rcases Xi.mp F with rfl|F;exact e;exact Y q F,E]
theorem yO.eq(h:yO rs)(k:yO qs)(e:∀g,i7 g rs=i7 g qs):rs=qs:=by
 have pos:∀{rs:List Mx.D},yO rs->∀i,i∈rs.map aL↔0<i7 (λx=>if x=i then 1 else 0) rs:=λ {rs} h i=>by
  rcases h.at i with ⟨r,I,B,E⟩|⟨B,E⟩
  ·obtain⟨j,k,rfl,hk⟩:=h.ps r I;exact#[λ_=>by rw[E,aM];exact hk,λ_=>XH.mpr #[_,I,B]]
  ·exact#[λA=>by obtain⟨r,I,J⟩:=XH.mp A;exact absurd J<|B r I,λA=>by rw[E]at A;lia]
 have up:∀{rs:List Mx.D},yO rs->(rs.map aL).Pairwise λx y=>Mx.D.lt x y=J':=λh=>h.up
 have c:rs.map aL=qs.map aL:=eG (up h) (up k) λi=>by rw[pos h,pos k,e]
 have self:∀{rs:List Mx.D},yO rs->rs=(rs.map aL).map λi=>row i (i7 (λx=>if x=i then 1 else 0) rs):=λ {rs} h=>by
  rw[YC];refine(List.map_id rs).symm.trans<|YB λr I=>?_;obtain⟨j,k,rfl,_⟩:=h.ps r I;show row j k=row (aL<|row j k) _;rcases h.at (aL<|row j k)with ⟨q,F,B,E⟩|⟨B,_⟩
  ·rw[E];have:q=row j k:=by have nd:=h.up.nodup;obtain⟨a,t,rfl⟩:=Ys F;obtain⟨b,M,K⟩:=Ys I;rw[<-K]at B;have:=(List.getElem_inj (xs:=rs.map aL) (i:=a) (j:=b) (h₀:=by simpa using t) (h₁:=by simpa using M) nd).mp (by simpa using B);subst this;exact K
   rw[this,aw,aM]
  ·exact absurd rfl (B _ I)
 rw[self h,self k,c];exact YB λi _=>by rw[e]
theorem lV(h:∀r∈ms,∃i k,r=row i k/\0<k):yO (bG ms):=
 #[xa λr I=>by obtain⟨i,k,e,_⟩:=h r I;exact#[i,k,e],λr I=>(ft (S:=λ_=>True) (λ_ _ _ _ _ _=>trivial) (λr I=>#[trivial,h r I]) r I).2]
theorem tJ(W):∀{n k:Nat}{d:Mx.D},bH L P n d->n<=k->putL W k d=putL W n d
 |0,_,_,h,_=>h.elim
 |n+1,0,_,_,h=>by lia
 |n+1,k+1,d,#[rs,e,_,I],g=>by
  subst e;rw[putL,putL];have:(bc<|.tup rs).flatMap (λr=>mulR (bL r)<|br (putL W k) W<|aL r)=(bc<|.tup rs).flatMap λr=>mulR (bL r) (br (putL W n) W<|aL r):=by
   show rs.flatMap _=rs.flatMap _;rw[List.flatMap_def,List.flatMap_def];congr 1;refine YB λr h=>?_
   obtain⟨it,c,rfl,_,hi⟩:=I r h;rw[aw,aM];rcases hi with ⟨x,rfl⟩|⟨x,ps,rfl,_,J⟩
   ·rfl
   ·rw[bT,bT,YB λp h=>tJ W (J p h)<|show n<=k by lia]
  rw[this]
theorem iq(h:bH L P (n+1) d):d= .tup (bc d)/\(bc d).length<=L/\∀r∈bc d,d7 L P (bH L P n) r:=by obtain⟨rs,rfl,Z,Y⟩:=h;exact#[rfl,Z,Y]
theorem yi(l:∀c,P c->0<c){W V C:List (Str×Mx.D)}(A:1<=m)(v:∀x,bH LW Pos m<|aI W x)(H:∀x,∀r∈bc (aI V x),∃i k,r=row i k/\0<k)(u:∀x,aI C x=putL V m (aI W x)):∀{n:Nat}{d:Mx.D},bH LD P n d->putL V (n+m) (putL W n d)=putL C n d
 |0,_,h=>h.elim
 |n+1,d,hd=>by
  obtain⟨B,_,I⟩:=iq hd;rw[show n+1+m=(n+m)+1 by lia,putL,putL,putL];generalize bc d=rs at I;have O:∀r∈rs,∀q∈bc (br (putL W n) W<|aL r),∃i k,q=row i k/\0<k/\((∃x,i=dB x)\/∃x ps,i=ofT x ps):=λr h q F=>by
   obtain⟨it,c,rfl,_,hi⟩:=I r h;rw[aw]at F;rcases hi with ⟨x,rfl⟩|⟨x,ps,rfl,_,_⟩
   ·rw[cY]at F;obtain⟨t,rfl⟩:∃t,m=t+1:=#[m-1,⋯];obtain⟨i,k,e,hk,hi⟩:=(iq<|v x).2.2 q F;exact#[i,k,e,hk,Or.imp id (λ#[x,ps,e,_]=>#[x,ps,e]) hi]
   ·rw[bT]at F;rw[XF.mp F];exact#[_,_,rfl,by decide,.inr #[_,_,rfl]]
  have a:∀q∈rs.flatMap (λr=>mulR (bL r)<|br (putL W n) W<|aL r),∃i k,q=row i k/\0<k/\((∃x,i=dB x)\/∃x ps,i=ofT x ps):=λq F=>by obtain⟨r,h,F⟩:=YH.mp F;obtain⟨Y,h0,rfl⟩:=XH.mp F;obtain⟨i,k,rfl,hk,hi⟩:=O r h Y h0;obtain⟨it,c,rfl,K,_⟩:=I r h;exact#[i,c*k,rfl,Int.mul_pos (l c K) hk,hi]
  have b:=ft (S:=λr=>(∃x,aL r=dB x)\/∃x ps,aL r=ofT x ps) (λit c d h _ _=>h) (λq F=>by obtain⟨i,k,rfl,hk,hi⟩:=a q F;exact#[hi,i,k,rfl,hk]);congr 1;refine yO.eq (lV λq F=>?_) (lV λq F=>?_) λg=>?_
  ·obtain⟨r,h,F⟩:=YH.mp F;obtain⟨Y,h0,rfl⟩:=XH.mp F;obtain⟨hi,i,k,rfl,hk⟩:=b r h;rw[aw]at h0 hi;have:∃j z,Y=row j z/\0<z:=by
    rcases hi with ⟨x,rfl⟩|⟨x,ps,rfl⟩
    ·rw[cY]at h0;exact H x Y h0
    ·rw[bT]at h0;rw[XF.mp h0];exact#[_,_,rfl,by decide]
   obtain⟨j,z,rfl,hz⟩:=this;exact#[j,k*z,rfl,Int.mul_pos hk hz]
  ·obtain⟨r,h,F⟩:=YH.mp F;obtain⟨Y,h0,rfl⟩:=XH.mp F;obtain⟨it,c,rfl,K,hi⟩:=I r h;rw[aw]at h0;have:∃j z,Y=row j z/\0<z:=by
    rcases hi with ⟨x,rfl⟩|⟨x,ps,rfl,_,_⟩
    ·rw[cY,u]at h0;obtain⟨t,rfl⟩:∃t,m=t+1:=#[m-1,⋯];rw[putL]at h0;refine(lV λp J=>?_).ps Y h0;obtain⟨Z,h',J⟩:=YH.mp J;obtain⟨o,X,rfl⟩:=XH.mp J;obtain⟨i,k,rfl,hk,hi⟩:=(iq<|v x).2.2 Z h';rw[aw]at X;have:∃j z,o=row j z/\0<z:=by
      rcases hi with ⟨y,rfl⟩|⟨y,ps,rfl,_,_⟩
      ·rw[cY]at X;exact H y o X
      ·rw[bT]at X;rw[XF.mp X];exact#[_,_,rfl,by decide]
     obtain⟨j,z,rfl,hz⟩:=this;exact#[j,k*z,rfl,Int.mul_pos hk hz]
    ·rw[bT]at h0;rw[XF.mp h0];exact#[_,_,rfl,by decide]
   obtain⟨j,z,rfl,hz⟩:=this;exact#[j,c*z,rfl,Int.mul_pos (l c K) hz]
  ·rw[jm,jk,jm];show i7 _ (bG _)=_;rw[jm,jk,jk];refine pq λr h=>?_
   obtain⟨it,c,rfl,K,hi⟩:=I r h;rw[aw];rcases hi with ⟨x,rfl⟩|⟨x,ps,rfl,_,J⟩
   ·rw[cY,cY,u];obtain⟨t,rfl⟩:∃t,m=t+1:=#[m-1,⋯];rw[putL];show _=i7 g (bG _);rw[jm,jk];refine pq λq F=>?_
    obtain⟨i,k,rfl,_,hi⟩:=(iq<|v x).2.2 q F;rw[aw];rcases hi with ⟨y,rfl⟩|⟨y,ps,rfl,_,J⟩
    ·rfl
    ·rw[bT,bT,YB λp h=>tJ V (J p h)<|show t<=n+(t+1) by lia]
   ·rw[bT,bT];show 1*i7 g (bc<|br _ V<|ofT x _)+0=_;rw[bT,YC,Int.one_mul,Int.add_zero];have e:ps.map (putL V (n+m) ∘ putL W n)=ps.map (putL C n):=YB λp h=>yi l A v H u (J p h)
    rw[e]
def Ig(B c:Int):Prop:=0<c/\c<=B
def za(ms:List Mx.D):Int:=(ms.map bL).sum
theorem BE{B:Int}:∀(rs:List Mx.D)(it:Mx.D)(c:Int),0<c->(∀r∈rs,0<bL r)->∀q∈gr it c rs,Ig (c+za rs) (bL q)
 |[],it,c,K,_,q,F=>by rw[gr,XF]at F;subst F;exact#[by rw[aM];exact K,by rw[aM];show c<=c+0;lia]
 |r::rs,it,c,K,J,q,F=>by
  have Z:=J r Xc;have M:∀x∈rs,0<bL x:=λx L=>J x (W9 _ L)
  have e:za (r::rs)=bL r+za rs:=by unfold za;rw[XT,YR]
  have g:0<=za rs:=lD λx L=>by obtain⟨y,m,rfl⟩:=XH.mp L;exact Int.le_of_lt (M y m)
  rw[gr]at F;rw[e];split at F
  ·obtain⟨a,b⟩:=BE (B:=B) rs (aL r) (c+bL r) ⋯ M q F;exact#[a,⋯]
  ·rcases Xi.mp F with rfl|F
   ·exact#[by rw[aM];exact K,by rw[aM];lia]
   ·obtain⟨a,b⟩:=BE (B:=B) rs (aL r) (bL r) Z M q F;exact#[a,⋯]
theorem EM(J:∀r∈ms,0<bL r):∀q∈bG ms,Ig (za ms) (bL q):=by
 have e:za (aG ms)=za ms:=o9<|(aY ms).map _;have M:∀r∈aG ms,0<bL r:=λr I=>J r (bR.mp I)
 rw[<-e];unfold bG;cases h:aG ms with
 |nil=>intro q F;cases F
 |cons r rs=>rw[h]at M;intro q F;have:=BE (B:=0) rs (aL r) (bL r) (M r Xc) (λx L=>M x<|W9 _ L) q F;unfold za at this ⊢;rw[XT,YR];exact this
theorem Ex{α:Type}{g:α->List Mx.D}(M:0<=b){l:List α}(W:l.length<=n)(h:∀x∈l,za (g x)<=b):za (l.flatMap g)<=n*b:=by unfold za;rw[lT];exact m9 M (by rw[Xf];exact W) λy m=>by obtain⟨x,L,rfl⟩:=XH.mp m;exact h x L
theorem mf{α:Type}{g:α->List Mx.D}:∀{l:List α},(∀x∈l,(g x).length<=b)->(l.flatMap g).length<=l.length*b
 |[],_=>by simp
 |x::l,h=>by
  have Z:=h x Xc;have Y:=mf λy m=>h y (W9 _ m)
  rw[Yn,Xm,Xo,Nat.add_mul]
  lia
theorem vN{K m:Nat}(hD:1<=D)(hB:1<=B)(hK:1<=K)(A:1<=m)(v:∀x,bH K (Ig B) m<|aI W x):∀{n L:Nat}{d:Mx.D},L<=3->gw (Ig D) L n d->bH (3*K) (Ig<|3*(K*(D*B))) (n+m) (putL W n d)
 |0,_,_,_,h=>h.elim
 |n+1,L,d,hL,#[rs,e,hl,_,I]=>by
  subst e;have eB:B<=D*B:=by have:=Yf hD (show 0<=B by lia);lia
  have eD:D<=D*B:=by have:=Ye hB (show 0<=D by lia);lia
  have kb:D*B<=K*(D*B):=by have:=Yf (show (1:Int)<=K by lia) (show 0<=D*B by lia);lia
  have key:∀r∈rs,(mulR (bL r)<|br (putL W n) W<|aL r).length<=K/\za (mulR (bL r)<|br (putL W n) W<|aL r)<=K*(D*B)/\∀q∈mulR (bL r) (br (putL W n) W<|aL r),∃i c,q=row i c/\0<c/\ja (3*K) (bH (3*K) (Ig<|3*(K*(D*B)))<|n+m) i:=λr h=>by
   obtain⟨it,c,rfl,hc,hi⟩:=I r h;rw[aw,aM];rcases hi with ⟨x,rfl⟩|⟨x,ps,rfl,iD,J⟩
   ·rw[cY];obtain⟨k,rfl⟩:∃k,m=k+1:=#[m-1,⋯];obtain⟨e1,E,e3⟩:=iq<|v x;unfold mulR;refine#[by rw[Xf];exact E,?_,λq F=>?_]
    ·have w:=m9 (c:=D*B) (n:=K) (l:=((bc<|aI W x).map λr=>row (aL r)<|c*bL r).map bL) ⋯ (by rw[Xf,Xf];exact E) λy hy=>by
      rw[YC]at hy;obtain⟨q,F,rfl⟩:=XH.mp hy;obtain⟨i,c',rfl,M,_⟩:=e3 q F;show bL (row _<|c*bL (row i c'))<=_;rw[aM,aM];have Z:=Yf hc.2<|show 0<=c' from Int.le_of_lt M.1;have Y:=Ye M.2 (show 0<=D by lia)
      lia
     exact w
    ·obtain⟨t,a,rfl⟩:=XH.mp F;obtain⟨i,c',rfl,M,s⟩:=e3 t a;rw[aw,aM];refine#[i,_,rfl,Int.mul_pos hc.1 M.1,s.imp ⋯ λp J=>J.mono ⋯ (λc z=>#[z.1,?_]) ⋯];have:=z.2
     lia
   ·rw[bT];have O:mulR c (.tup [row (ofT x<|ps.map<|putL W n) 1])=[row (ofT x<|ps.map<|putL W n) (c*1)]:=by show [row (aL<|row _ 1) (c*bL (row _ 1))]=_;rw[aw,aM]
    rw[O];refine#[by simpa using hK,?_,λq F=>?_]
    ·show bL (row _<|c*1)+0<=_;rw[aM];have:=hc.2
     lia
    ·rw[XF]at F;subst F;refine#[_,_,rfl,by have:=hc.1;lia,.inr #[x,_,rfl,by rw[Xf];lia,λp kR=>?_]];obtain⟨o,h0,rfl⟩:=XH.mp kR;exact vN hD hB hK A v ⋯ (J o h0)
  have Q:=Ex (n:=3) (g:=λr=>mulR (bL r)<|br (putL W n) W<|aL r) (b:=K*(D*B)) ⋯ (l:=rs) ⋯ λr h=>(key r h).2.1
  have X:=mf (g:=λr=>mulR (bL r)<|br (putL W n) W<|aL r) (b:=K) (l:=rs) λr h=>(key r h).1
  have P:∀q∈rs.flatMap λr=>mulR (bL r)<|br (putL W n) W<|aL r,∃i c,q=row i c/\0<c/\ja (3*K) (bH (3*K) (Ig<|3*(K*(D*B)))<|n+m) i:=λq F=>by obtain⟨r,h,F⟩:=YH.mp F;exact(key r h).2.2 q F
  rw[show n+1+m=(n+m)+1 by lia];refine#[_,rfl,?_,λq F=>?_]
  ·have Z:=jl<|rs.flatMap λr=>mulR (bL r)<|br (putL W n) W<|aL r;have Y:rs.length*K<=3*K:=Y2 K ⋯;exact Xh Z<|Xh X Y
  ·obtain⟨u,H⟩:=EM (ms:=rs.flatMap λr=>mulR (bL r)<|br (putL W n) W<|aL r) (λr h=>by obtain⟨i,c,rfl,hc,_⟩:=P r h;rw[aM];exact hc) q F;obtain⟨t,a,e⟩:=XH.mp<|(lX<|aL q).mp<|XH.mpr #[q,F,rfl];obtain⟨i,c,rfl,_,hi⟩:=P t a;rw[aw]at e;have RK:∃i k,q=row i k:=by obtain⟨_,i,k,e,_⟩:=ft (S:=λ_=>True) (λ_ _ _ _ _ _=>trivial) (λr h=>#[trivial,by obtain⟨i,c,e,hc,_⟩:=P r h;exact#[i,c,e,hc]]) q F;exact#[i,k,e]
   obtain⟨j,k,rfl⟩:=RK;rw[aw]at e;subst e;rw[aM]at u H;exact#[_,_,rfl,#[u,Int.le_trans H Q],hi]
theorem yv(h:gw P L n d):(bc d).length<=L:=by
 cases n with
 |zero=>exact h.elim
 |succ n=>obtain⟨rs,rfl,W,_⟩:=h;exact W
section
variable{W:List (Str×Mx.D)}{K L:Nat}{P:Int->Prop}(hK:1<=K)(hw:∀x,(bc (aI W x)).length<=K)
include hK hw
theorem tv{rs:List Mx.D}(I:∀r∈rs,d7 L P Q r):(rs.flatMap λr=>mulR (bL r)<|br f W<|aL r).length<=rs.length*K:=mf λr h=>by
 obtain⟨it,c,rfl,_,hi⟩:=I r h;unfold mulR;rw[Xf,aw];rcases hi with ⟨x,rfl⟩|⟨x,ps,rfl,_⟩
 ·exact hw x
 ·exact hK
theorem dG(y:L*K<64):∀{n:Nat}{d:Mx.D},bH L P n d->Aw W n d
 |0,_,h=>h.elim
 |n+1,_,#[rs,e,hl,I]=>by subst e;refine#[Mx.SL.of<|YZ (Xh (tv hK hw I)<|Y2 K hl) y,λr h p J=>?_];obtain⟨it,c,rfl,_,hi⟩:=I r h;exact dG y<|(j9 hi).2 p J
theorem Gf(h:gw P L (n+1) d):(bc<|putL W (n+1) d).length<=L*K:=by obtain⟨rs,rfl,hl,_,I⟩:=h;exact Xh (jl _)<|Xh (tv hK hw I)<|Y2 K hl
end
section
variable{F:FT}{i:Nat}{k v:C}{ρ:aj}{S S1 S2:Sx}{ks vs:List Dt}{kd x:Dt}{m:Mx.D}{ts:Ts}
theorem EF(I:ρ[i]?=B' (B'<|.c8 ks vs))(P:dP ks=B' ms)(y:dP vs=B' ns)(K:je (gP ms ns)=J'):ev F (.srtI i) ρ S= .ok (.lst<|aa<|aG<|gP ms ns,S):=by rw[tN,fO I,R.ah];unfold wR;simp only[P,y,K,guard_true,R.ah]
theorem FJ(I:ρ[i]?=B' (B'<|.c8 ks vs))(n:ev F v ρ S= .ok (x,S1))(hk:ev F k ρ S1= .ok (kd,S2))(A:zy kd=B' m)(O:HB m ks=J')(W:lk v=0)(P:ks.length<lim)
  (h:aO F ts (ρ.set i<|B'<|if (Bd m ks vs).isSome then .c8 ks (ze m x ks vs) else .c8 (ks++[kd]) (vs++[x])) S2=r):aO F (.cons (.dset i k v) ts) ρ S=r:=by
 refine nx ?_ h;have g:jx ρ i=J':=by unfold jx;rw[I]
 rw[tQ,g,guard_true,n,R.ah,hk,R.ah,fO I,R.ah,Xz W,guard_true];unfold wQ;simp only[A,O,Xz P,Bool.and_self,guard_true,R.ah]
theorem Bs(h:fin (aO F ts (ρ.set i<|B'<|.c8 [] []) S)=r):fin (aO F (.cons (.zc i) ts) ρ S)=r:=fk (by rw[tP]) h
end
def kM(Z:List (Str×Mx.D)):Dt:=.c8 (Z.map λp=>.str p.1)<|Z.map λp=>ofD p.2
theorem Be(x):∀Z:List (Str×Mx.D),Bd (.str x) (Z.map λp=>.str p.1) (Z.map λp=>ofD p.2)=(bI Z x).map ofD
 |[]=>rfl
 |p::Z=>by
  rw[XT,XT,Bd,bI];have e:(toD (.str p.1)=B' (Mx.D.str x))↔p.1=x:=#[λh=>by cases h;rfl,λh=>by rw[<-h];rfl];by_cases h:p.1=x
  ·rw[Zn h,Zn (e.mpr h)];rfl
  ·rw[Zm h,Zm λq=>h<|e.mp q];exact Be x Z
theorem hasW_none:∀{Z:List (Str×Mx.D)},x∉Z.map (·.1)->bI Z x=G'
 |[],_=>rfl
 |p::Z,h=>by rw[bI,Zm λe=>h<|by rw[XT,e];exact Xc];exact hasW_none λq=>h (by rw[XT];exact W9 _ q)
theorem gZ:∀{Z:List (Str×Mx.D)},x∈Z.map (·.1)->(bI Z x).isSome=J'
 |[],h=>by cases h
 |p::Z,h=>by
  rw[bI];by_cases e:p.1=x
  ·rw[Zn e];rfl
  ·rw[Zm e];rw[XT]at h;rcases Xi.mp h with h|h
   ·exact absurd h.symm e
   ·exact gZ h
theorem wD(Z:List (Str×Mx.D)):(Z.map λp=>Dt.str p.1).all isStr=J':=XI.mpr λd hd=>by obtain⟨p,_,rfl⟩:=XH.mp hd;rfl
section
variable{F:FT}{i:Nat}{k v:C}{ρ:aj}{S S1 S2:Sx}{Z:List (Str×Mx.D)}{x:Str}{f:Mx.D}{ts:Ts}{r:RS}
theorem sZ(I:ρ[i]?=B' (B'<|kM Z))(n:ev F v ρ S= .ok (ofD f,S1))(g:ev F k ρ S1= .ok (.str x,S2))(L:x∉Z.map (·.1))(W:lk v=0)(P:Z.length<=1000)
  (h:aO F ts (ρ.set i<|B'<|kM<|Z++[(x,f)]) S2=r):aO F (.cons (.dset i k v) ts) ρ S=r:=by
 have X:lim=1000000:=rfl;refine FJ (m:=.str x) I n g rfl (wD Z) W (by rw[Xf];lia) ?_;rw[Be,hasW_none L];unfold kM at h;rw[XU,XU]at h;exact h
theorem Bn(I:ρ[i]?=B' (B'<|kM Z))(hk:ev F k ρ S= .ok (.str x,S1)):cz F (.ninK i k) ρ S= .ok (!(bI Z x).isSome,S1):=by
 have g:jx ρ i=J':=by unfold jx;rw[I];rfl
 rw[oY,g,guard_true,hk,R.ah,fO I,R.ah];show R.bind (af _ _) _=_;rw[wD,guard_true,Be,R.ah,Option.isSome_map]
end
end Rx
end
section
namespace Rx
open PySem PySem.W PySem.Spec PyProof.Rows L2 PySem.SeqAt
theorem C8(h:fs[k]?=B' g):az fs (n+1) k args S=gR (az fs n) g args S:=by show (match fs[k]? with|some g=>gR (az fs n) g args S|none=>R.bad)=_;rw[h]
section
variable{g:G}{K:Frag}{mg:Str->Option Value}{P:Program}{w:World}{base:Heap}{fs:List Fn}
theorem vt{I j p pm Y ct o:Value}
   (A:MG g mg) (t:XG g K mg xv) (ok:rF g K mg 0 g.fns fs) (X:K.lookup f=B' #[o,od,.func<|PySem.W.fnOf "law" "law" params body scope I j p pm an Y ct,xT]) (Ai:PySem.W.codeIn K Y "law"=J') (S:fJ N ps scope)
  (u:∀i,i<ps.length->M[i]?≠B' J') (J:ps.length=1) (hc:IK m g #[scope.names,N,M,δ,κ] K' fF body=B' ts) (r:fs[L]?=B' #[1,N.length,K',ts])
  (hn:∀ns:List Int,ns.length<=63->∃S,az fs (n+1) L [.ir ns] G'= .ok (.bl J',S)):
  jV P w K mg base (uv P w) (n+1) f (PySem.W.fnOf "law" "law" params body scope I j p pm an Y ct) ps (Dl K):=by
 have h:=oF X Ai S A t (mG (P:=P) (w:=w) (base:=base) A t ok n) u (λz=>by cases z) hc;refine h.imp λc H Q E q=>?_
 obtain⟨a,ns,rfl,hs,W,F⟩:=q;obtain⟨k,hS⟩:=hn ns W;rw[C8 r]at hS;rw[J];refine#[rfl,N0,G',[.ir ns],G',[.ref a],#[rfl,rfl,rfl],aq.cons ?_ aq.nil,λb z=>z.elim,?_]
 ·unfold RV;refine#[a,rfl,?_];rcases hs with hs|hs
  ·exact .inl #[hs,λz=>z]
  ·exact .inr hs
 ·rw[hS];intro v H' fo;rw[fo.val.bY];exact F H'
end
theorem walkR{l:PySem.W.OpenLaw}{K:Params->PySem.W.Frag}(P:l.most=B' 63)(S:d.params.defaults=[])(I:jb k callerA)
  (O:∀(w:World)(h:Heap),YP w h->(K w.params).In h)
  (F:∀(w:World)(mg:Str->Option Value)(y:Addr)(h:Heap),(K w.params).In h->h.Ns mainGlobals mg->mg d.name=B' (.ref y)->
   ∃J:FuncData,(∀(s:Shared)(u:Value),BindsTo s J #[[u],[]] [("_law_script",u)])/\∀base:Heap,(K w.params).In base->base.Ns mainGlobals mg->jV l.prog w (K w.params) mg base (uv l.prog w) k y J ["_law_script"] (Dl<|K w.params)):
  PySem.W.WalkO q loose XP YP l.row.toRowW d [] (λf c=>PySem.call f c):=
 L2.rj P (by decide) S I O F (λ_ _ a ns W _ hS=>#[a,ns,rfl,hS,W,λ_=>rfl]) λ_ _ _ _ _ z=>by obtain⟨_,_,_,_,_,_,_,_,_,z⟩:=z;exact z
structure Row where
 nm:Str
 s:Stmt
 ps:List Str
 ms:List Str:=[]
 dr:Option Str:=G'
 dp:Bool:=K'
 fN:List Dt:=[]
 dk:Option Str:=G'
namespace Row
def N(r:Row):List Str:=We (bQ r.s).names r.ps
def gm(r:Row):Gm:=#[(bQ r.s).names,r.N,NX r.N r.ms,if r.dp then B' 0 else r.dr.bind (B7 · r.N),r.dk.bind (B7 · r.N)]
def fn(g:G)(j:Nat)(r:Row):Option Fn:=(IK 60 g r.gm r.dp (g.fr j)<|jf r.s).map λts=>#[r.ps.length,r.N.length,r.dp,ts]
def ent(r:Row):Str×Nat×List Dt×Bool:=(r.nm,r.ps.length,r.fN,r.dp)
def ok(r:Row):Bool:=
 ((bQ r.s).kind== .function)&& !(bQ r.s).isCoroutine&& !(bQ r.s).isGenerator&&decide r.N.Nodup&&decide (r.N.take r.ps.length=r.ps)&&
 (r.ps.all λx=>(bQ r.s).names.lookup x==B' .local||(bQ r.s).names.lookup x==B' .cell)&&((bQ r.s).names.all λy=>y.2 != .free)&&
 ((NX r.N r.ms).take r.ps.length).all (λb=> !b)&&r.fN.all rE
theorem scope{r:Row}(h:r.ok=J'):fJ r.N r.ps (bQ r.s)/\(∀i,i<r.ps.length->(NX r.N r.ms)[i]?≠B' J')/\r.fN.all rE=J':=by
 unfold ok at h;simp only[W5]at h;obtain⟨⟨⟨⟨⟨⟨⟨⟨Z,Y⟩,u⟩,Q⟩,n⟩,l⟩,B⟩,k⟩,M⟩:=h;refine#[#[Xt Z,by simpa using Y,by simpa using u,W7 Q,W7 n,λx L=>?_,λy m e=>?_],NW k,M]
 ·have:=XI.mp l x L;rcases X6.mp this with z|z
  ·exact .inl<|Xt z
  ·exact .inr<|Xt z
 ·have:=XI.mp B y m;rw[e]at this;cases this
end Row
def su(g:G):Nat->List Row->Option (List Fn)
 |_,[]=>B' []
 |j,r::rs=>(r.fn g j).bind λf=>(su g (j+1) rs).map (f:: ·)
def Fd(K:Frag)(nm:Str)(s:Stmt)(ps:List Str)(fN:List Dt):Prop:=∃(y:Addr)(o I kV p pm Y ct:Value)(od O:Option Addr)(v:Array (Option Value)),
 nsIn K mainGlobals nm=B' (B'<|.ref y)/\K.lookup y=B' #[o,od,.func<|fnOf nm nm (pX s) (jf s) (bQ s) I kV p pm O Y ct,v]/\codeIn K Y nm=J'/\keepIn K (.ref y)=J'/\(fN=[]->I= .none)/\
 ∀j,j<=fN.length->∃ds,au ((fN.drop j).map uJ) ds/\Binds K (fnOf nm nm (pX s) (jf s) (bQ s) I kV p pm O Y ct) ps ds
def Pt(K:Frag):List Row->Prop
 |[]=>True
 |r::rs=>Fd K r.nm r.s r.ps r.fN/\Pt K rs
section
variable{g:G}{K:Frag}{mg:Str->Option Value}{h:Heap}{fs:List Fn}
theorem Bw(X:K.In h)(j:h.Ns mainGlobals mg):∀{rs:List Row}{i:Nat}{fs:List Fn},rs.all Row.ok=J'->su g i rs=B' fs->Pt K rs->rF g K mg i (rs.map Row.ent) fs
 |[],i,fs,_,e,_=>by cases e;trivial
 |r::rs,i,fs,hk,e,F=>by rw[Yk,W5]at hk;obtain⟨f,B,e⟩:=W2.mp e;obtain⟨m,E,rfl⟩:=Xl.mp e;obtain⟨ts,u,rfl⟩:=Xl.mp B;obtain⟨⟨y,o,I,kV,p,pm,Y,ct,od,O,v,a,l,c,k,_,b⟩,F⟩:=F;obtain⟨s1,t,w⟩:=Row.scope hk.1;exact#[#[y,r.ps,r.N,_,_,_,60,o,od,O,v,_,_,_,I,kV,p,pm,Y,ct,l,c,k,mg_of X j a,s1,t,λz=>Zn z,rfl,u,rfl,rfl,rfl,b,w],Bw X j hk.2 E F]
theorem Jb:∀{L i:Nat}{fs:List Fn}{r:Row},su g i rs=B' fs->rs[L]?=B' r->∃ts,IK 60 g r.gm r.dp (g.fr<|i+L) (jf r.s)=B' ts/\fs[L]?=B' #[r.ps.length,r.N.length,r.dp,ts]:=by
 induction rs with
 |nil=>intro L i fs r _ e;simp at e
 |cons c rs ih=>
  intro L i fs r e I;obtain⟨f,B,e⟩:=W2.mp e;obtain⟨m,E,rfl⟩:=Xl.mp e;cases L with
  |zero=>cases I;obtain⟨ts,u,rfl⟩:=Xl.mp B;exact#[ts,u,rfl]
  |succ L=>obtain⟨ts,u,H⟩:=ih E (by simpa using I);exact#[ts,by rw[show i+(L+1)=i+1+L by lia];exact u,by simpa using H]
theorem Bq:∀{rs:List Row}{L:Nat}{r:Row},Pt K rs->rs[L]?=B' r->Fd K r.nm r.s r.ps r.fN
 |[],L,r,_,e=>by simp at e
 |c::rs,0,r,F,e=>by cases e;exact F.1
 |c::rs,L+1,r,F,e=>Bq F.2 (by simpa using e)
def QE(K:Frag):List Str->Prop
 |[]=>True
 |x::xs=>nsIn K mainGlobals x=B' G'/\QE K xs
def Qz(K:Frag):List (Str×Dt)->Prop
 |[]=>True
 |x::xs=>(∃u,nsIn K mainGlobals x.1=B' (B' u)/\rE x.2=J'/\RelV (uJ x.2) u)/\Qz K xs
theorem Ck:∀{xs:List Str},QE K xs->x∈xs->nsIn K mainGlobals x=B' G'
 |y::xs,h,L=>by
  rcases Xi.mp L with rfl|L
  ·exact h.1
  ·exact Ck h.2 L
theorem A0:∀{xs:List (Str×Dt)},Qz K xs->xs.lookup x=B' d->∃u,nsIn K mainGlobals x=B' (B' u)/\rE d=J'/\RelV (uJ d) u
 |[],_,e=>by simp at e
 |y::xs,h,e=>by
  rw[Xw]at e;split at e
  ·rename_i q;cases e;rw[Xt q];exact h.1
  ·exact A0 h.2 e
def QK(K:Frag)(C:Addr):List (Str×Bool)->Prop
 |[]=>True
 |x::xs=>(∃c,(nsIn K mainGlobals x.1=B' (B' c)/\(∃D,c= .ref D)\/nsIn K mainGlobals x.1=B' G'/\x.1="ValueError"/\c= .type "ValueError")/\kitOne K (.ref C) c=B' x.2/\(x.2=J'->exmOne K (.ref C) c=B' J'))/\QK K C xs
def QJ(K:Frag):List (Str×List (Str×Bool))->Prop
 |[]=>True
 |x::xs=>(∃C,nsIn K mainGlobals x.1=B' (B'<|.ref C)/\excIn K C IH "ValueError.__new__"=J'/\Ay K C/\QK K C x.2)/\QJ K xs
theorem DQ(X:K.In h)(j:h.Ns mainGlobals mg){C:Addr}:∀{xs:List (Str×Bool)},QK K C xs->xs.lookup t=B' b->∃c,(mg t=B' c/\(∃D,c= .ref D)\/mg t=G'/\t="ValueError"/\c= .type "ValueError")/\kitOne K (.ref C) c=B' b/\(b=J'->exmOne K (.ref C) c=B' J')
 |[],_,e=>by simp at e
 |y::xs,L,e=>by
  rw[Xw]at e;split at e
  ·rename_i q;cases e;rw[Xt q];obtain⟨c,Z,Y⟩:=L.1;exact#[c,Z.imp (λz=>#[mg_of X j z.1,z.2]) λz=>#[mg_none_of X j z.1,z.2],Y]
  ·exact DQ X j L.2 e
def Pp(g:G)(mg:Str->Option Value)(k:Nat):Value:=((g.xs[k]?).bind λx=>mg x.1).getD .none
theorem DN(X:K.In h)(j:h.Ns mainGlobals mg):∀{xs:List (Str×List (Str×Bool))}{k:Nat}{x:Str}{ts:List (Str×Bool)},QJ K xs->xs[k]?=B' (x,ts)->∃C,mg x=B' (.ref C)/\LG K mg C ts
 |[],k,x,ts,_,e=>by simp at e
 |y::xs,0,x,ts,L,e=>by cases e;obtain⟨C,Z,Y,u,Q⟩:=L.1;exact#[C,mg_of X j Z,Y,u,λt b q=>DQ X j Q q]
 |y::xs,k+1,x,ts,L,e=>DN X j L.2 (by simpa using e)
theorem law_mk{l:OpenLaw}{dr kd:Option Str}(X:K.In h)(j:h.Ns mainGlobals mg)(m:mg "law"=B' (.ref fa))
  (y:rs[L]?=B' #["law",sL,["_law_script"],ms,dr,K',[],kd]) (g:rs.all Row.ok=J') (i:su #[rs.map Row.ent,cons,bls,fr,xs] 0 rs=B' fs)
  (M:∀(s:Shared)(v:Value)(kV p pm gz ct:Value)(O:Option Addr),BindsTo s (fnOf "law" "law" (pX sL) (jf sL) (bQ sL) .none kV p pm O gz ct) #[[v],[]] [("_law_script",v)])
  (P:∀ns:List Int,ns.length<=63->∃S,az fs (n+1) L [.ir ns] G'= .ok (.bl J',S)) (B:QE K bls) (C:Qz K cons) (F:Pt K rs) (E:QJ K xs):
  ∃J:FuncData,(∀(s:Shared)(v:Value),BindsTo s J #[[v],[]] [("_law_script",v)])/\∀base:Heap,K.In base->base.Ns mainGlobals mg->jV l.prog w K mg base (uv l.prog w) (n+1) fa J ["_law_script"] (Dl K):=by
 have t:XG #[rs.map Row.ent,cons,bls,fr,xs] K mg (Pp #[rs.map Row.ent,cons,bls,fr,xs] mg):=λk x ts e=>by obtain⟨C,Z,Y⟩:=DN X j E e;exact#[C,by simp[Pp,e,Z],Z,Y]
 have A:MG #[rs.map Row.ent,cons,bls,fr,xs] mg:=#[λx d hx=>by
   obtain⟨u,k1,k2,k3⟩:=A0 C hx;exact#[u,k2,mg_of X j k1,k3],λx hx=>mg_none_of X j<|Ck B hx]
 have ok:=Bw X j g i F;obtain⟨q,o,I,kV,p,pm,gz,ct,od,O,xT,a,lk,c,k,hd,b⟩:=Bq F y;cases hd rfl;have e:=m.symm.trans<|mg_of X j a;cases e;obtain⟨ts,c1,H⟩:=Jb i y;have hok:=Row.scope<|XI.mp g _<|YI.mpr #[L,y];exact#[_,λs v=>M s v kV p pm gz ct O,λbase _ _=>vt A t ok lk c hok.1 hok.2.1 rfl c1 H P]
end
end Rx
end
section
namespace K32
open PySem PySem.W PySem.Spec PyProof.Rows L2 Mx Rx
def top(i:Nat):Stmt:=PySem.Challenge.pw_mixform_k32_whole_chained.main.body.getD i<|.Pass #[0,0,0,0]
abbrev rows:List Rx.Row:=[#["parts_of",top 4,["item"],[],G',K',[],G'],
 #["gathered",top 5,["pairs"],["whole"],G',K',[],G'],
 #["times",top 6,["number","form"],[],G',K',[],G'],
 #["spread",top 8,["form"],[],G',K',[],G'],
 #["just",top 11,["name"],[],G',K',[],G'],
 #["has",top 12,["way","name"],[],G',K',[],G'],
 #["put",top 13,["form","way"],[],G',K',[],G'],
 #["put_up_to",top 14,["form","way","most"],["pairs"],G',K',[],G'],
 #["put_item",top 15,["item","way","most"],[],G',K',[],G'],
 #["chained",top 16,["one","other"],[],G',K',[],G'],
 #["_law_draws",top 18,["_law_script"],["_law_draws_here","_law_left"],G',K',[],G'],
 #["_law_take",top 19,["_law_draws_here","_law_many"],[],G',J',[],G'],
 #["_law_names",top 20,["_law_draws_here","_law_letters"],["_law_names_here"],G',J',[],G'],
 #["_law_unknowns",top 21,["_law_draws_here"],[],G',J',[],G'],
 #["_law_signs",top 22,["_law_draws_here"],[],G',J',[],G'],
 #["_law_mix",top 23,["_law_draws_here","_law_deep","_law_names_here","_law_signs_here","_law_most"],["_law_pairs"],G',J',[],G'],
 #["_law_gathered",top 24,["_law_pairs"],["_law_found"],G',K',[],G'],
 #["_law_put",top 25,["_law_form","_law_known"],[],G',K',[],G'],
 #["_law_great",top 26,["_law_draws_here","_law_form"],[],G',J',[],G'],
 #["_law_way",top 27,["_law_draws_here","_law_names_here","_law_inner","_law_signs_here","_law_most"],["_law_pairs"],G',J',[],G'],
 #["_law_same",top 28,["_law_found","_law_due_here"],[],G',K',[],G'],
 #["_law_refused",top 29,["_law_one","_law_other"],[],G',K',[],G'],
 #["_law_edge",top 30,["_law_draws_here","_law_names_here","_law_signs_here"],[],G',J',[],G'],
 #["_law_due",top 31,["_law_one","_law_other"],["_law_due_here"],G',K',[],B' "_law_due_here"],
 #["law",top 32,["_law_script"],[],B' "_law_draws_here",K',[],G']]
abbrev cons:List (Str×Dt):=[("MOST_SPREAD",(.int 2000))]
abbrev bls:List Str:=["bool","dict","int","isinstance","len","list","max","min","range","set","sorted","str","sum","tuple","zip"]
abbrev fr(i:Nat):Bool:=[K',K',K',K',K',K',K',K',K',K',J',K',J',J',J',K',K',K',K',K',K',K',K',K',K'].getD i K'
abbrev xs:List (Str×List (Str×Bool)):=[("TooMany",[("MixError",J'),("TooMany",J')])]
def b6:Ts:=(.cons (.ret<|.call 7 (.cons (.var 0)<|.cons (.var 1)<|.cons (.con<|.int 2000) .nil) []) .nil)
def b9:Ts:=(.cons (.asg 2<|.bi .sset<|.cons (.comp [G',G',G'] (.seq<|.bin .Add (.var 0)<|.var 1) (.tp [1,2]) .nil<|.var 1) .nil)<|.cons (.ret<|.bi .tuple<|.cons (.comp [G',G',B' 0,B' 1] (.seq<|.var 2) (.nm 1) .nil<|.tup<|.cons (.var 1)<|.cons (.call 6 (.cons (.call 5 (.cons (.var 2)<|.cons (.var 1) .nil) [])<|.cons (.var 3) .nil) []) .nil) .nil) .nil)
def Ti:Ts:=(.cons (.ret<|.callD 12<|.cons (.con<|.str "abcdefghijklmnopqrstuvwxyz") .nil) .nil)
def Tj:Ts:=(.cons (.ret<|.callD 12<|.cons (.con<|.str "ABCDEFGHIJKLMNOPQRSTUVWXYZ") .nil) .nil)
def QM:Ts:=(.cons (.tr (.cons (.LJ<|.call 9 (.cons (.var 0)<|.cons (.var 1) .nil) []) .nil) [B' J'])<|.cons (.ret<|.con<|.bl K') .nil)
def QN:Ts:=(.cons (.asg 3<|.bin .Add (.con<|.int 8)<|.callD 11<|.cons (.con<|.int 33) .nil)<|.cons (.asg 4<|.bin .Sub (.bin .Add (.bin .FloorDiv (.con<|.int 2000)<|.bin .Add (.con<|.int 1)<|.bin .Mult (.con<|.int 2)<|.var 3)<|.callD 11<|.cons (.con<|.int 3) .nil)<|.con<|.int 1)<|.cons (.asg 5<|.tup<|.cons (.con<|.str "of")<|.cons (.idx (.var 2)<|.con<|.int 0)<|.cons (.tup .nil) .nil)<|.cons (.asg 6<|.tup<|.cons (.tup<|.cons (.idx (.var 1)<|.con<|.int 0)<|.cons (.bi .tuple<|.cons (.comp [G',G',B' 2,B' 5] (.rng1<|.var 3) (.nm 1) .nil<|.tup<|.cons (.tup<|.cons (.con<|.str "of")<|.cons (.idx (.var 2)<|.con<|.int 1)<|.cons (.tup<|.cons (.tup<|.cons (.tup<|.cons (.var 3)<|.cons (.bin .Add (.var 1)<|.con<|.int 1) .nil) .nil) .nil) .nil)<|.cons (.con<|.int 1) .nil) .nil) .nil) .nil)<|.cons (.asg 7<|.bi .tuple<|.cons (.comp [G',G',B' 1,B' 2] (.rng1<|.var 4) (.nm 1) .nil<|.tup<|.cons (.tup<|.cons (.con<|.str "of")<|.cons (.idx (.var 3)<|.con<|.int 2)<|.cons (.tup<|.cons (.tup<|.cons (.tup<|.cons (.tup<|.cons (.con<|.str "any")<|.cons (.idx (.var 2)<|.con<|.int 0) .nil)<|.cons (.bin .Add (.var 1)<|.con<|.int 1) .nil) .nil) .nil) .nil)<|.cons (.con<|.int 1) .nil) .nil)<|.cons (.asg 8<|.bi .tuple<|.cons (.bi .sorted<|.cons (.lst<|.cons (.tup<|.cons (.idx (.var 1)<|.con<|.int 1)<|.cons (.var 7) .nil)<|.cons (.tup<|.cons (.idx (.var 1)<|.con<|.int 2)<|.cons (.tup<|.cons (.tup<|.cons (.tup<|.cons (.con<|.str "any")<|.cons (.idx (.var 1)<|.con<|.int 0) .nil)<|.cons (.con<|.int 1) .nil) .nil) .nil) .nil) .nil) .nil)<|.cons (.ifs (.cmp .Gt (.bin .Mult (.var 4)<|.bin .Add (.con<|.int 1)<|.bin .Mult (.con<|.int 2)<|.var 3)<|.con<|.int 2000) (.cons (.ret<|.call 21 (.cons (.var 8)<|.cons (.var 6) .nil) []) .nil) .nil)<|.cons (.ret<|.call 20 (.cons (.call 9 (.cons (.var 8)<|.cons (.var 6) .nil) [])<|.cons (.call 23 (.cons (.var 8)<|.cons (.var 6) .nil) []) .nil) []) .nil)
def QO:Ts:=(.cons (.asg 2<|.bi .dict<|.cons (.var 1) .nil)<|.cons (.zc 3)<|.cons (.fr (.tp [4,5]) (.seq<|.var 0)<|.cons (.dset 3 (.var 4)<|.call 17 (.cons (.var 5)<|.cons (.var 2) .nil) []) .nil)<|.cons (.fr (.tp [4,5]) (.seq<|.var 1)<|.cons (.ifs (.ninK 3<|.var 4) (.cons (.dset 3 (.var 4)<|.var 5) .nil) .nil) .nil)<|.cons (.ret<|.bi .tuple<|.cons (.srtI 3) .nil) .nil)
def QP:Ts:=(.cons (.asgD 1<|.call 10 (.cons (.var 0) .nil) [])<|.cons (.asg 2<|.callD 13 .nil)<|.cons (.asg 3<|.callD 14 .nil)<|.cons (.ifs (.and (.cmp .Eq (.callD 11<|.cons (.con<|.int 6) .nil)<|.con<|.int 5)<|.nt<|.callD 22<|.cons (.var 2)<|.cons (.var 3) .nil) (.cons (.ret<|.con<|.bl K') .nil) .nil)<|.cons (.asg 4<|.callD 19<|.cons (.var 2)<|.cons (.var 2)<|.cons (.var 3)<|.cons (.con<|.int 2) .nil)<|.cons (.ifs (.cmp .Eq (.callD 11<|.cons (.con<|.int 2) .nil)<|.con<|.int 0) (.cons (.asg 4<|.bi .tuple<|.cons (.comp [G',G',G',B' 1] (.seq<|.var 4) (.tp [1,2]) .nil<|.tup<|.cons (.var 1)<|.cons (.callD 18<|.cons (.var 2) .nil) .nil) .nil) .nil) .nil)<|.cons (.asg 6<|.callD 19<|.cons (.var 2)<|.cons (.var 2)<|.cons (.var 3)<|.cons (.con<|.int 1) .nil)<|.cons (.asg 7<|.call 23 (.cons (.var 4)<|.cons (.var 6) .nil) [])<|.cons (.asg 8<|.call 9 (.cons (.var 4)<|.cons (.var 6) .nil) [])<|.cons (.ifs (.nt<|.call 20 (.cons (.var 8)<|.cons (.var 7) .nil) []) (.cons (.ret<|.con<|.bl K') .nil) .nil)<|.cons (.fr (.nm 9) (.rng1<|.con<|.int 2)<|.cons (.asg 5<|.callD 15<|.cons (.con<|.int 1)<|.cons (.var 2)<|.cons (.var 3)<|.cons (.con<|.int 3) .nil)<|.cons (.asg 10<|.call 17 (.cons (.var 5)<|.cons (.bi .dict<|.cons (.var 4) .nil) .nil) [])<|.cons (.ifs (.nt<|.call 20 (.cons (.call 6 (.cons (.var 5)<|.cons (.var 8) .nil) [])<|.cons (.call 17 (.cons (.var 10)<|.cons (.bi .dict<|.cons (.var 6) .nil) .nil) []) .nil) []) (.cons (.ret<|.con<|.bl K') .nil) .nil)<|.cons (.ifs (.nt<|.call 20 (.cons (.call 6 (.cons (.call 6 (.cons (.var 5)<|.cons (.var 4) .nil) [])<|.cons (.var 6) .nil) [])<|.cons (.call 6 (.cons (.var 5)<|.cons (.var 8) .nil) []) .nil) []) (.cons (.ret<|.con<|.bl K') .nil) .nil) .nil)<|.cons (.ret<|.and (.call 20 (.cons (.call 9 (.cons (.var 4)<|.cons (.tup .nil) .nil) [])<|.cons (.var 4) .nil) [])<|.call 20 (.cons (.call 9 (.cons (.tup .nil)<|.cons (.var 6) .nil) [])<|.cons (.var 6) .nil) []) .nil)
def fs:List Fn:=[#[1,1,K',jZ],#[1,4,K',DW<|.mvr 1],#[2,2,K',pL],#[1,1,K',Ef 0 3],#[1,1,K',rJ],#[2,4,K',Ee 4],#[2,2,K',b6],#[3,7,K',AF 2 8 1 3],#[3,4,K',rK 5 7],#[2,3,K',b9],#[1,7,K',uQ],#[2,2,J',gh],#[2,8,J',QQ 11],#[1,1,J',Ti],#[1,1,J',Tj],#[5,11,J',AD 11 16 15],#[1,4,K',DW K9],#[2,7,K',AE 17 16],#[2,2,J',Iv 11],#[5,7,J',IA 11 15],#[2,4,K',rL 20],#[2,3,K',QM],#[3,9,J',QN],#[2,6,K',QO],#[1,11,K',QP]]
theorem hok:rows.all Rx.Row.ok=J':=by decide +kernel
theorem hfs:su #[rows.map Rx.Row.ent,cons,bls,fr,xs] 0 rows=B' fs:=by kernel_rfl
theorem D2:fs[11]?=B' #[2,2,J',gh]:=rfl
theorem Rk:Au fs 0 1 2 3 4 5 7 8:=#[rfl,rfl,rfl,rfl,rfl,rfl,rfl,rfl]
theorem xI(o:4<=N)(s):(∃a b c l,az fs N 13 [] (B' s)= .ok (.lst [.str a,.str b,.str c],B' l)/\a≠b/\b≠c/\a≠c)/\∃a b c l,az fs N 14 [] (B' s)= .ok (.lst [.str a,.str b,.str c],B' l):=by
 obtain⟨a,b,c,s1,Z,K⟩:=oV (fs:=fs) D2 (im:=12) rfl (N:=N-1) ⋯ (L:="abcdefghijklmnopqrstuvwxyz") rfl (by decide) s;obtain⟨E,h,A,t,Y,_⟩:=oV (fs:=fs) D2 (im:=12) rfl (N:=N-1) ⋯ (L:="ABCDEFGHIJKLMNOPQRSTUVWXYZ") rfl (by decide) s;refine#[#[a,b,c,s1,cV (body:=Ti) rfl ⋯ rfl ?_,K],#[E,h,A,t,cV (body:=Tj) rfl ⋯ rfl ?_]]
 ·exact aA<|dJ (args:=[.str "abcdefghijklmnopqrstuvwxyz"]) (by simp only[RX]) Z
 ·exact aA<|dJ (args:=[.str "ABCDEFGHIJKLMNOPQRSTUVWXYZ"]) (by simp only[RX]) Y
section
variable{W:List (Str×Mx.D)}{m n:Nat}{d:Mx.D}(hW:∀p∈W,bH 200 Pos m p.2)(hm:1<=m)(oG:m<=8)(hn:n<=8)(hd:bH 200 ku n d)(hk:Aw W n d)
include hW hm oG hn hd hk
theorem Oi(o:3*n+m+11<=N):az fs N 6 [ofD d,ai W] G'=if 2000<eT (n+m) (putL W n d) then .ex 0 else .ok (ofD<|putL W n d,G'):=by
 have h:=yg Rk hW hm oG (most:=2000) (by decide) (by decide) n (N:=N-1) hn ⋯ hd hk;refine bg (body:=b6) rfl ⋯ rfl ?_;show fin (aO (az fs<|N-1) b6 [B' (ofD d),B' (ai W)] G')=_;by_cases M:2000<eT (n+m) (putL W n d)
 ·rw[Zn M]at h ⊢;refine wZ ?_;rw[ex];simp only[RX,h];rfl
 ·rw[Zm M]at h ⊢;exact aA (by simp only[RX,h])
theorem fY(o:3*n+m+11<=N)(M:eT (n+m) (putL W n d)<=2000):az fs N 6 [ofD d,ai W] G'= .ok (ofD<|putL W n d,G'):=by rw[Oi hW hm oG hn hd hk o,Zm ⋯]
theorem xH(o:n+2<=N):az fs N 17 [ofD d,cJ W] G'= .ok (ofD<|putL W n d,G'):=yf (fs:=fs) (il:=17) (ig:=16) rfl rfl hW hm oG n hn o hd hk
omit hk in
theorem K4{N:Nat}(o:4*(n+m)<N):az fs N 20 [ofD (putL W n d),ofD (putL W n d)] G'= .ok (.bl J',G'):=
 lB (fs:=fs) (is:=20) rfl N _ (yy _) (by rw[rY];have:=lO<|iJ hW hm hd;lia)
end
theorem B9(ys):∃O:List Str,aG ((dd ys).map Mx.D.str)=O.map Mx.D.str/\O.Perm (dd ys):=by
 have pm:=aY ((dd ys).map Mx.D.str)
 let un:Mx.D->Str:=λd=>match d with|.str x=>x|_=>""
 refine#[(aG<|(dd ys).map Mx.D.str).map un,?_,?_]
 ·rw[YC];refine(gM λy m=>?_).symm;obtain⟨p,_,rfl⟩:=XH.mp<|pm.mem_iff.mp m;rfl
 ·have:=pm.map un;rw[YC,show (un ∘ Mx.D.str)=id from rfl,List.map_id]at this;exact this
theorem pT(o:3<=N){W V:List (Str×Mx.D)}(v:W.length<=3)(H:V.length<=3){g:Str->Mx.D}{O:List Str}(hk:aG ((dd ((W++V).map (·.1))).map Mx.D.str)=O.map Mx.D.str)(J:O.Perm (dd ((W++V).map (·.1))))
  (j:∀x∈O,az fs (N-1) 6 [ofD (aI W x),ai V] G'= .ok (ofD<|g x,G')):az fs N 9 [ai W,ai V] G'= .ok (ai<|O.map λx=>(x,g x),G'):=by
 have X:lim=1000000:=rfl;have hl:((W++V).map (·.1)).length<=6:=by rw[Xf,Xm];lia
 have a:qE .Add (ai W) (ai V)= .ok (.tup<|aa<|(W++V).map aC):=by show af (decide ((aa<|W.map aC).length+(aa<|V.map aC).length<=lim)) (R.ok<|Dt.tup<|aa (W.map aC)++aa (V.map aC))=_;rw[Xz (by rw[ar,ar,Xf,Xf];lia),XU,aK];rfl
 have b:=wI (ys:=(W++V).map (·.1)) (d:=.lst (aa (((W++V).map (·.1)).map Mx.D.str))) rfl ⋯;rw[hk]at b;refine bg (body:=b9) rfl ⋯ rfl ?_;show fin (aO (az fs<|N-1) b9 [B' (ai W),B' (ai V),G'] G')=_;have k1:aP (aU (.tp [1,2]) (bM (az fs<|N-1) .nil) (bz (az fs<|N-1)<|.var 1) [G',G',G']) (aa<|(W++V).map aC) G'= .ok (((W++V).map aC).map λr=>ofD<|Mx.D.str (D7 r).1,G'):=cN λr h=>by obtain⟨p,_,rfl⟩:=XH.mp h;exact bt (ρ1:=[G',B' (.str p.1),B' (ofD p.2)]) rfl rfl rfl
 have B:(((W++V).map aC).map λr=>ofD<|Mx.D.str (D7 r).1)=aa (((W++V).map (·.1)).map Mx.D.str):=by rw[aQ,YC,YC,YC];rfl
 rw[B]at k1;have u:ev (az fs<|N-1) (.comp [G',G',G'] (.seq<|.bin .Add (.var 0)<|.var 1) (.tp [1,2]) .nil<|.var 1) [B' (ai W),B' (ai V),G'] G'= .ok (.lst (aa (((W++V).map (·.1)).map Mx.D.str)),G'):=
  bN (ds:=aa<|(W++V).map aC) (S1:=G') (cQ (d:=.tup<|aa<|(W++V).map aC) (by simp only[RX,a]) rfl) (by rw[ar,Xf,Xm];lia) rfl k1
 have P:O.length<=6:=by rw[J.length_eq];exact Xh (uZ _) hl
 have k2:aP (aU (.nm 1) (bM (az fs<|N-1) .nil) (bz (az fs<|N-1)<|.tup<|.cons (.var 1)<|.cons (.call 6 (.cons (.call 5 (.cons (.var 2)<|.cons (.var 1) .nil) [])<|.cons (.var 3) .nil) []) .nil) [G',G',B' (ai W),B' (ai V)]) (aa<|O.map Mx.D.str) G'= .ok ((O.map Mx.D.str).map λy=>ofD<|aC ((match y with|.str x=>x|_=>""),g<|match y with|.str x=>x|_=>""),G'):=cN λy h=>by obtain⟨x,L,rfl⟩:=XH.mp h;have n:=qi (fs:=fs) (ij:=4) (ih:=5) rfl rfl (N:=N-1) ⋯ W x;have l:=j x L;exact bt (ρ1:=[G',B' (.str x),B' (ai W),B' (ai V)]) rfl (by simp only[RX,n,l];simp[aC,ofD,aa]) rfl
 have E:((O.map Mx.D.str).map λy=>ofD<|aC ((match y with|.str x=>x|_=>""),g<|match y with|.str x=>x|_=>""))=aa ((O.map λx=>(x,g x)).map aC):=by rw[aQ,YC,YC,YC];rfl
 rw[E]at k2;refine aN (d:=.lst<|aa<|O.map Mx.D.str) (S1:=G') (by rw[cv,u];exact(Zj (R.bind · _) b).trans rfl) rfl<|aA ?_;rw[cv,bN (ds:=aa<|O.map Mx.D.str) (S1:=G') (cQ (d:=.lst<|aa<|O.map Mx.D.str) rfl rfl) (by rw[ar,Xf];lia) rfl k2];rfl
theorem JV(q:Mx.D.lt (.str a) (.str b)=J'):Mx.D.lt (aC (a,f)) (aC (b,h))=J':=by
 have ne:Mx.D.str a≠ .str b:=λe=>by rw[e,Mx.D.lt_irrefl]at q;cases q
 simp only[aC,Mx.D.lt];rw[Mx.D.b8,Zm ne];exact q
theorem GN{Z:List (Str×Mx.D)}{O ys:List Str}{g:Str->Mx.D}(hk:aG ((dd ys).map Mx.D.str)=O.map Mx.D.str)(k:(Z.map (·.1)).Nodup)(A:∀p:Str×Mx.D,p∈Z↔p.1∈O/\p.2=g p.1):aG (Z.map aC)=(O.map λx=>(x,g x)).map aC:=by
 have nd:((dd ys).map Mx.D.str).Nodup:=List.Pairwise.map _ (λa b h e=>h<|by cases e;rfl)<|LI (l:=ys);have st:=dH nd;rw[hk]at st;have c:(Z.map aC).Nodup:=List.Pairwise.map aC (λp q h e=>h<|by have:=Zj D7 e;rw[jR,jR]at this;rw[this])<|YQ.mp k;refine eG (dH c) ?_ λd=>?_
 ·rw[YC];exact List.Pairwise.map _ (λa b h=>JV h)<|YQ.mp st
 ·rw[bR,XH,XH];constructor
  ·rintro⟨p,J,rfl⟩;obtain⟨h1,Y⟩:=(A p).mp J;exact#[(p.1,g p.1),XH.mpr #[p.1,h1,rfl],by rw[<-Y]]
  ·rintro⟨p,J,rfl⟩;obtain⟨x,L,rfl⟩:=XH.mp J;exact#[(x,g x),(A _).mpr #[L,rfl],rfl]
theorem Hi(hN:2<=N)(A:m<=4){W V:List (Str×Mx.D)}(I:(W.map (·.1)).Nodup)(c:(V.map (·.1)).Nodup)(hW:W.length<=3)(H:V.length<=3){g:Str->Mx.D}{O:List Str}
  (hk:aG ((dd ((W++V).map (·.1))).map Mx.D.str)=O.map Mx.D.str) (J:O.Perm (dd ((W++V).map (·.1))))
  (j:∀p∈W,az fs (N-1) 17 [ofD p.2,cJ V] G'= .ok (ofD<|g p.1,G')) (n:∀p∈V,p.1∉W.map (·.1)->g p.1=p.2) (hn:∀x∈O,bH 40000 Pos m<|g x):az fs N 23 [ai W,ai V] G'= .ok (ai<|O.map λx=>(x,g x),G'):=by
 have X:lim=1000000:=rfl;have z:∀x,x∈O↔x∈(W++V).map (·.1):=λx=>by rw[J.mem_iff,Ez]
 obtain⟨ρ1,h1,P,l,x5,eP,rfl⟩:=ej (S:=G') (tg:=.tp [4,5]) (body:=aO (az fs<|N-1)<|.cons (.dset 3 (.var 4)<|.call 17 (.cons (.var 5)<|.cons (.var 2) .nil) []) .nil) (ds:=aa<|W.map aC) (ρ:=[B' (ai W),B' (ai V),B' (cJ V),B' (kM []),G',G'])
  (λpre ρ=>∃P l x5,pre=aa (P.map aC)/\ρ=[B' (ai W),B' (ai V),B' (cJ V),B' (kM<|P.map λp=>(p.1,g p.1)),l,x5]) #[[],G',G',rfl,rfl] (by
   rintro pre y o ρ e ⟨P,l,x5,B,rfl⟩;obtain⟨P',p,Q,E,e3,rfl⟩:=kg e;have:=fG<|B.symm.trans e3;subst this;have J:=j p (by rw[E];simp);have fr:p.1∉(P.map λp=>(p.1,g p.1)).map (·.1):=by rw[YC];rw[E,XU,XT]at I;exact λh=>(List.nodup_append.mp I).2.2 _ h _ Xc rfl
   have lP:P.length<=3:=by have:=Zj List.length E;simp at this;lia
   refine#[[B' (ai W),B' (ai V),B' (cJ V),B' (kM<|P.map λp=>(p.1,g p.1)),B' (.str p.1),B' (ofD p.2)],_,rfl,sZ (Z:=P.map λp=>(p.1,g p.1)) (f:=g p.1) (x:=p.1) (S1:=G') (S2:=G') rfl (by simp only[RX,J]) (by simp only[RX]) fr rfl (by rw[Xf];lia) rfl,P++[p],B'<|.str p.1,B'<|ofD p.2,by rw[B,XU,aK];rfl,by rw[XU];rfl])
 have:=fG eP;subst this;obtain⟨v,Y,P,Wz,Tb,UQ,rfl⟩:=ej (S:=G') (tg:=.tp [4,5]) (body:=aO (az fs<|N-1)<|.cons (.ifs (.ninK 3<|.var 4) (.cons (.dset 3 (.var 4)<|.var 5) .nil) .nil) .nil) (ds:=aa<|V.map aC) (ρ:=[B' (ai W),B' (ai V),B' (cJ V),B' (kM<|W.map λp=>(p.1,g p.1)),l,x5])
  (λpre ρ=>∃P l x5,pre=aa (P.map aC)/\ρ=[B' (ai W),B' (ai V),B' (cJ V),B' (kM<|(W.map λp=>(p.1,g p.1))++P.filter λp=> !(bI (W.map λp=>(p.1,g p.1)) p.1).isSome),l,x5]) #[[],l,x5,rfl,by simp] (by
   rintro pre y o ρ e ⟨P,l,x5,B,rfl⟩;obtain⟨P',p,Q,E,e3,rfl⟩:=kg e;have:=fG<|B.symm.trans e3;subst this;have lP:P.length<=3:=by have:=Zj List.length E;simp at this;lia
   have lF:=List.length_filter_le (λp:Str×Mx.D=> !(bI (W.map λp=>(p.1,g p.1)) p.1).isSome) P;have nP:p.1∉P.map (·.1):=by rw[E,XU,XT]at c;exact λh=>(List.nodup_append.mp c).2.2 _ h _ Xc rfl
   have nF:p.1∉(P.filter λp=> !(bI (W.map λp=>(p.1,g p.1)) p.1).isSome).map (·.1):=λh=>nP (by
    obtain⟨q,hq,e⟩:=XH.mp h;exact XH.mpr #[q,(YF.mp hq).1,e])
   have s:(W.map λp=>(p.1,g p.1)).map (·.1)=W.map (·.1):=by rw[YC];rfl
   refine#[[B' (ai W),B' (ai V),B' (cJ V),B' (kM<|(W.map λp=>(p.1,g p.1))++P.filter λp=> !(bI (W.map λp=>(p.1,g p.1)) p.1).isSome),B' (.str p.1),B' (ofD p.2)],_,rfl,?_,P++[p],B'<|.str p.1,B'<|ofD p.2,by rw[B,XU,aK];rfl,rfl];have K:=Bn (F:=az fs<|N-1) (i:=3) (k:=.var 4) (S:=G') (S1:=G') (ρ:=[B' (ai W),B' (ai V),B' (cJ V),B' (kM<|(W.map λp=>(p.1,g p.1))++P.filter λp=> !(bI (W.map λp=>(p.1,g p.1)) p.1).isSome),B' (.str p.1),B' (ofD p.2)]) (x:=p.1) rfl (by simp only[RX]);rw[List.filter_append,<-Xk];by_cases L:p.1∈W.map (·.1)
   ·have w:=gZ (Z:=W.map λp=>(p.1,g p.1)) (x:=p.1) (by rw[s];exact L);have nO:=gZ (Z:=(W.map λp=>(p.1,g p.1))++P.filter λp=> !(bI (W.map λp=>(p.1,g p.1)) p.1).isSome) (x:=p.1) (by rw[XU,s];exact YE _ L);rw[nO]at K;rw[show [p].filter (λp=> !(bI (W.map λp=>(p.1,g p.1)) p.1).isSome)=[] by simp only[List.filter_cons,List.filter_nil,w];rfl,XO];exact jE (S1:=G') K rfl
   ·have w:=hasW_none (Z:=W.map λp=>(p.1,g p.1)) (x:=p.1) (by rw[s];exact L);have fr:p.1∉((W.map λp=>(p.1,g p.1))++P.filter λp=> !(bI (W.map λp=>(p.1,g p.1)) p.1).isSome).map (·.1):=by rw[XU,s];exact λh=>(Xs.mp h).elim L nF
    rw[hasW_none fr]at K;rw[show [p].filter (λp=> !(bI (W.map λp=>(p.1,g p.1)) p.1).isSome)=[p] by simp only[List.filter_cons,List.filter_nil,w];rfl];exact qD (S1:=G') K<|sZ (f:=p.2) (x:=p.1) (S1:=G') (S2:=G') rfl (by simp only[RX]) (by simp only[RX]) fr rfl (by rw[Xm,Xf];lia) rfl)
 have:=fG UQ;subst this;have s:(W.map λp=>(p.1,g p.1)).map (·.1)=W.map (·.1):=by rw[YC];rfl
 have oI:∀p:Str×Mx.D,(!(bI (W.map λp=>(p.1,g p.1)) p.1).isSome)=J'↔p.1∉W.map (·.1):=λp=>by
  by_cases L:p.1∈W.map (·.1)
  ·rw[gZ (by rw[s];exact L)];simp[L]
  ·rw[hasW_none (by rw[s];exact L)];simp[L]
 have lF:=List.length_filter_le (λp:Str×Mx.D=> !(bI (W.map λp=>(p.1,g p.1)) p.1).isSome) V;have hz:(((W.map λp=>(p.1,g p.1))++V.filter λp=> !(bI (W.map λp=>(p.1,g p.1)) p.1).isSome).map (·.1)).Nodup:=by rw[XU,s];refine List.nodup_append.mpr #[I,(c.sublist<|(List.filter_sublist).map _),λa t b M e=>?_];obtain⟨q,hq,rfl⟩:=XH.mp M;exact(oI q).mp (YF.mp hq).2 (e▸t)
 have r:∀p:Str×Mx.D,p∈((W.map λp=>(p.1,g p.1))++V.filter λp=> !(bI (W.map λp=>(p.1,g p.1)) p.1).isSome)↔p.1∈O/\p.2=g p.1:=λp=>by
  rw[z,XU,Xs,Xs,YF,oI];constructor
  ·rintro(h|⟨h,h'⟩)
   ·obtain⟨q,hq,rfl⟩:=XH.mp h;exact#[.inl<|XH.mpr #[q,hq,rfl],rfl]
   ·exact#[.inr<|XH.mpr #[p,h,rfl],(n p h h').symm]
  ·rintro⟨h,e⟩;by_cases L:p.1∈W.map (·.1)
   ·obtain⟨q,hq,E⟩:=XH.mp L;exact .inl<|XH.mpr #[q,hq,by rw[E,<-e]]
   ·obtain⟨q,hq,E⟩:=XH.mp<|h.resolve_left L;have e3:=n q hq (by rw[E];exact L);rw[E,<-e]at e3;have:q=p:=Prod.ext E e3.symm;subst this;exact .inr #[hq,L]
 generalize hZ:((W.map λp=>(p.1,g p.1))++V.filter λp=> !(bI (W.map λp=>(p.1,g p.1)) p.1).isSome)=Z at Y hz r;have lZ:Z.length<=6:=by rw[<-hZ,Xm,Xf];lia
 have w:=GN hk hz r;obtain⟨_,_,_,cb⟩:=rk (m:=m) ⋯ (V:=Z) (λp J=>by obtain⟨a,b⟩:=(r p).mp J;rw[b];exact hn _ a) ⋯ ⋯;have pz:gP (Z.map λp=>Mx.D.str p.1) (Z.map λp=>p.2)=Z.map aC:=by unfold gP;rw[List.zip_map',YC];rfl
 refine bg (body:=QO) rfl ⋯ rfl ?_;show fin (aO (az fs<|N-1) QO [B' (ai W),B' (ai V),G',G',G',G'] G')=_;have hd:=pM c;refine aN (d:=cJ V) (S1:=G') (by simp only[RX,hd]) rfl<|Bs<|cn (ds:=aa<|W.map aC) (S1:=G') (cQ (d:=ai W) (by simp only[RX]) rfl) rfl h1<|cn (ds:=aa<|V.map aC) (S1:=G') (cQ (d:=ai V) (by simp only[RX]) rfl) rfl Y<|aA ?_;have u:=EF (F:=az fs<|N-1) (S:=G') (i:=3) (ρ:=[B' (ai W),B' (ai V),B' (cJ V),B' (kM Z),Wz,Tb]) (ms:=Z.map λp=>Mx.D.str p.1) (ns:=Z.map λp=>p.2) rfl (by rw[<-aW,aQ,YC];rfl) (by rw[<-aW,aQ,YC];rfl) (by rw[pz];exact cb);rw[pz,w]at u;rw[cv,u];rfl
theorem iT(Z:P 1)(y:1<=L)(x):gw P L (n+1) (bK x):=
 #[_,rfl,y,List.pairwise_singleton _ _,λr I=>by rw[XF]at I;subst I;exact#[_,_,rfl,Z,.inl #[x,rfl]]]
theorem xi:∀{W:List (Str×Mx.D)},bI W x=B' f->(x,f)∈W
 |[],h=>by cases h
 |p::W,h=>by
  rw[bI]at h;by_cases e:p.1=x
  ·rw[Zn e]at h;cases h;subst e;exact Xc
  ·rw[Zm e]at h;exact W9 _<|xi h
theorem BJ(Z:P 1)(y:1<=L)(h:∀p∈W,gw P L (n+1) p.2)(x):gw P L (n+1) (aI W x):=by
 unfold aI;cases e:bI W x with
 |none=>exact iT Z y x
 |some f=>exact h _<|xi e
theorem cP(nd:(W.map (·.1)).Nodup)(J:p∈W):aI W p.1=p.2:=by
 have:bI W p.1=B' p.2:=by
  induction W with
  |nil=>cases J
  |cons q W ih=>
   rw[XT]at nd;have nd:=YL.mp nd;rw[bI];rcases Xi.mp J with rfl|J
   ·rw[Zn rfl]
   ·rw[Zm λe=>nd.1<|by rw[e];exact XH.mpr #[p,J,rfl]];exact ih nd.2 J
 unfold aI;rw[this];rfl
theorem dq(h:x∉W.map (·.1)):aI W x=bK x:=by unfold aI;rw[hasW_none h];rfl
theorem jJ{V:List (Str×Mx.D)}(h:gw P L n (aI V x)):putL V (k+1) (bK x)=aI V x:=by
 obtain⟨n,rfl⟩:∃m,n=m+1:=by cases n with|zero=>exact h.elim|succ m=>exact#[m,rfl]
 obtain⟨rs,e,_,X,I⟩:=h;have w:∀r∈rs,∃i k,r=row i k:=λr h=>by obtain⟨i,c,e,_⟩:=I r h;exact#[i,c,e]
 rw[Rx.putL];show Mx.D.tup (bG<|mulR (bL<|row (dB x) 1) (br (putL V k) V<|aL<|row (dB x) 1)++[])=_;rw[aw,aM,cY,XO];have O:mulR 1 (aI V x)=rs:=by
  unfold mulR;rw[e];show rs.map _=rs;refine gM λr h=>?_
  obtain⟨i,k,rfl⟩:=w r h;rw[aw,aM,Int.one_mul]
 rw[O,X.MO w,e]
theorem uw(hL:L<=5)(h:gw P L n d):bH 5 P n d:=(h.U hL).N
theorem tW{V:List (Str×Mx.D)}{K k n L:Nat}(H:∀p∈V,bH 200 Pos k p.2)(g:1<=k)(i:∀x,bH K Pos k<|aI V x)(u:∀x,o4 1 k (aI V x)<=M)(hd:bH 200 ku n d):eT (n+k) (putL V n d)<=o4 M n d:=by rw[lC (iJ H g hd)];exact yA (by decide) i u hd
section
variable{W V:List (Str×Mx.D)}(hW:jW Pg 2 W)(hV:jW P3 1 V)
include hW hV
theorem kY(x):gw Pg 2 2 (aI W x):=BJ (by decide) (by decide) hW.fm x
theorem tm(x):gw P3 1 2 (aI V x):=BJ (by decide) (by decide) hV.fm x
theorem tu:∀p∈V,bH 200 Pos 2 p.2:=λp J=>(uw (by decide)<|hV.fm p J).mono (by decide) (λc z=>z.1)<|Xb _
theorem Ka:∀p∈W,bH 200 Pos 2 p.2:=λp J=>(uw (by decide)<|hW.fm p J).mono (by decide) (λc z=>z.1)<|Xb _
theorem mz(x):bH 200 ku 2 (aI W x):=(uw (by decide)<|kY hW hV x).mono (by decide) (λc z=>#[z.1,by have:c<=300000000:=z.2;lia])<|Xb _
theorem vH(x):bH 5 Pos 2 (aI V x):=(uw (by decide)<|tm hW hV x).mono (Xb _) (λc z=>z.1)<|Xb _
theorem Co(x):bH 5 Pos 2 (aI W x):=(uw (by decide)<|kY hW hV x).mono (Xb _) (λc z=>z.1)<|Xb _
theorem MB(x):eT (2+2) (putL V 2<|aI W x)<=86:=by
 have h:=tW (M:=7) (L:=2) (tu hW hV) (by decide) (vH hW hV) (λx=>by have:=kK (m:=1) (by decide)<|tm hW hV x;lia)<|mz hW hV x;have:=kK (m:=7) (by decide) (kY hW hV x)
 lia
theorem QT(x):bH 200 Pos 4 (putL V 2<|aI W x):=(vN (D:=300000000) (B:=3) (K:=5) (m:=2) (by decide) (by decide) (by decide) (by decide) (λx=>(uw (by decide)<|tm hW hV x).mono (Xb _) (λc z=>z)<|Xb _) (by decide)<|(kY hW hV x).mono (λc z=>z)<|Xb _).mono (by decide) (λc z=>z.1)<|Xb _
theorem Si(x):(bc<|aI W x).length<=2:=yv<|kY hW hV x
theorem FU(x):(bc<|aI V x).length<=1:=yv<|tm hW hV x
theorem HG(x):Aw V 2 (aI W x):=dG (by decide) (FU hW hV) (by decide)<|uw (by decide)<|kY hW hV x
theorem both(o:21<=N):∃C:List (Str×Mx.D),az fs N 23 [ai W,ai V] G'= .ok (ai C,G')/\az fs N 9 [ai W,ai V] G'= .ok (ai C,G')/\(C.map (·.1)).Nodup/\C.length<=6/\(∀p∈C,bH 200 Pos 4 p.2)/\∀x,aI C x=putL V 2 (aI W x):=by
 obtain⟨O,g,J⟩:=B9 ((W++V).map (·.1));have z:∀x,x∈O↔x∈(W++V).map (·.1):=λx=>by rw[J.mem_iff,Ez]
 have a:O.Nodup:=J.nodup_iff.mpr LI;refine#[O.map λx=>(x,putL V 2<|aI W x),Hi (m:=4) ⋯ (by decide) hW.nd hV.nd hW.sz hV.sz g J (λp h=>?_) (λp h L=>?_) (λx _=>iJ (tu hW hV) (by decide)<|mz hW hV x),pT ⋯ hW.sz hV.sz g J (λx _=>fY (tu hW hV) (by decide) (by decide) (by decide) (mz hW hV x) (HG hW hV x) ⋯ (by have:=MB hW hV x;lia)),?_,?_,λp h=>?_,λx=>?_]
 ·have:=cP hW.nd h;rw[this];have hd:=mz hW hV p.1;have g:=HG hW hV p.1;rw[this]at hd g;exact xH (tu hW hV) (by decide) (by decide) (by decide) hd g ⋯
 ·rw[dq L,jJ (tm hW hV p.1),cP hV.nd h]
 ·rw[YC];exact(List.map_id' O).symm▸a
 ·rw[Xf,J.length_eq];have Z:=QW (l:=(W++V).map (·.1));have Y:=hW.sz;have u:=hV.sz;rw[Xf,Xm]at Z
  lia
 ·obtain⟨x,_,rfl⟩:=XH.mp h;exact QT hW hV x
 ·by_cases L:x∈O
  ·have nd:((O.map λx=>(x,putL V 2<|aI W x)).map (·.1)).Nodup:=by rw[YC];exact(List.map_id' O).symm▸a
   exact cP nd (p:=(x,putL V 2<|aI W x))<|XH.mpr #[x,L,rfl]
  ·have Z:x∉W.map (·.1):=λh=>L ((z x).mpr<|by rw[XU];exact YE _ h)
   have Y:x∉V.map (·.1):=λh=>L ((z x).mpr<|by rw[XU];exact XC _ h)
   rw[dq (by rw[YC];exact λh=>L<|by simpa using h),dq Z,jJ (tm hW hV x),dq Y]
end
section
variable{W V C:List (Str×Mx.D)}(hW:jW Pg 2 W)(hV:jW P3 1 V)(hC:∀p∈C,bH 200 Pos 4 p.2)(hJ:∀x,aI C x=putL V 2 (aI W x)){d:Mx.D}(hd:gw P3 3 2 d){N:Nat}(hN:40<=N)
include hW hV hC hJ hd hN
theorem six:az fs N 17 [ofD d,cJ W] G'= .ok (ofD<|putL W 2 d,G')/\az fs N 6 [ofD d,ai C] G'= .ok (ofD<|putL C 2 d,G')/\az fs N 17 [ofD (putL W 2 d),cJ V] G'= .ok (ofD<|putL C 2 d,G')/\
  az fs N 20 [ofD (putL C 2 d),ofD (putL C 2 d)] G'= .ok (.bl J',G')/\az fs N 6 [ofD d,ai W] G'= .ok (ofD<|putL W 2 d,G')/\az fs N 6 [ofD (putL W 2 d),ai V] G'= .ok (ofD<|putL C 2 d,G'):=by
 have E:bH 200 ku 2 d:=(uw (by decide) hd).mono (by decide) (λc z=>#[z.1,by have:c<=3:=z.2;lia])<|Xb _;have n:=uw (by decide) hd;have b:=dG (by decide) (Si hW hV) (by decide) n;have j:Aw C 2 d:=dG (K:=2) (by decide) (λx=>by rw[hJ];exact Gf (by decide) (FU hW hV)<|kY hW hV x) (by decide) n;have hf:=(vN (D:=3) (B:=300000000) (K:=5) (m:=2) (by decide) (by decide) (by decide) (by decide) (λx=>(uw (by decide)<|kY hW hV x).mono (Xb _) (λc z=>z)<|Xb _) (by decide)<|hd.mono (λc z=>z)<|Xb _);have kV:=dG (by decide) (FU hW hV) (by decide) hf
 replace hf:bH 200 ku (2+2) (putL W 2 d):=hf.mono (by decide) (λc z=>#[z.1,by have:=z.2;lia]) (Xb _)
 have a:putL V (2+2) (putL W 2 d)=putL C 2 d:=yi (P:=ku) (λc z=>z.1) (by decide) (Co hW hV) (λx r I=>by
  obtain⟨_,_,u⟩:=iq<|vH hW hV x;obtain⟨i,c,e,hc,_⟩:=u r I;exact#[i,c,e,hc]) hJ E
 have g:eT (2+4) (putL C 2 d)<=1551:=by
  have h:=tW (M:=86) (K:=200) (L:=3) hC (by decide) (λx=>by rw[hJ];exact QT hW hV x) (λx=>by
   rw[hJ,<-lC (QT hW hV x)];exact MB hW hV x) E
  have:=kK (m:=86) (by decide) hd
  lia
 have O:eT (2+2) (putL W 2 d)<=255:=by
  have h:=tW (M:=14) (K:=5) (L:=3) (Ka hW hV) (by decide) (Co hW hV) (λx=>by have:=kK (m:=1) (by decide)<|kY hW hV x;lia) E;have:=kK (m:=14) (by decide) hd
  lia
 refine#[xH (Ka hW hV) (by decide) (by decide) (by decide) E b ⋯,fY hC (by decide) (by decide) (by decide) E j ⋯ ⋯,?_,K4 hC (by decide) (by decide) (by decide) E ⋯,fY (Ka hW hV) (by decide) (by decide) (by decide) E b ⋯ ⋯,?_]
 ·rw[xH (tu hW hV) (by decide) (by decide) (by decide) hf kV ⋯,a]
 ·rw[fY (tu hW hV) (by decide) (by decide) (by decide) hf kV ⋯ (by rw[a];exact Int.le_trans g<|by decide),a]
end
theorem Rh:fs[16]?=B' #[1,4,K',DW K9]:=rfl
theorem Rj:fs[15]?=B' #[5,11,J',AD 11 16 15]:=rfl
def Mv:C:=(.tup<|.cons (.var 1)<|.cons (.callD 18<|.cons (.var 2) .nil) .nil)
theorem Tz(o:2<=N):∀(W:List (Str×Mx.D))(s:List Int),(∀p∈W,gw P3 2 2 p.2)->
  ∃(U:List (Str×Mx.D))(l:List Int),aP (aU (.tp [1,2]) (bM (az fs N) .nil) (bz (az fs N) Mv) [G',G',G',G']) (aa<|W.map aC) (B' s)= .ok (aa<|U.map aC,B' l)/\U.map (·.1)=W.map (·.1)/\∀p∈U,gw Pg 2 2 p.2
 |[],s,_=>#[[],s,rfl,rfl,λ_ h=>by cases h]
 |p::W,s,h=>by
  obtain⟨d,s1,Z,Y⟩:=Jg (fs:=fs) (it:=11) (ig:=18) D2 rfl o (h p Xc) (by decide) s;obtain⟨U,t,u,Q,n⟩:=Tz o W s1 λq hq=>h q (W9 _ hq)
  have g:=dJ (F:=az fs N) (f:=18) (ρ:=[G',B' (.str p.1),B' (ofD p.2),G']) (es:=.cons (.var 2) .nil) (args:=[ofD p.2]) (s:=s) (by simp only[RX]) Z;have O:aU (.tp [1,2]) (bM (az fs N) .nil) (bz (az fs N) Mv) [G',G',G',G'] (ofD<|aC p) (B' s)= .ok ([ofD (aC (p.1,d))],B' s1):=
   bt (ρ1:=[G',B' (.str p.1),B' (ofD p.2),G']) rfl (by unfold Mv;simp only[RX,g];simp[aC,ofD,aa]) rfl
  refine#[(p.1,d)::U,t,by rw[XT,aa,aP,O,R.ah,u,R.ah];rfl,by rw[XT,XT,Q],λq hq=>?_];rcases Xi.mp hq with rfl|hq
  ·exact Y
  ·exact n q hq
def uB:Ts:=(.cons (.asg 5<|.callD 15<|.cons (.con<|.int 1)<|.cons (.var 2)<|.cons (.var 3)<|.cons (.con<|.int 3) .nil)<|.cons (.asg 10<|.call 17 (.cons (.var 5)<|.cons (.bi .dict<|.cons (.var 4) .nil) .nil) [])<|.cons (.ifs (.nt<|.call 20 (.cons (.call 6 (.cons (.var 5)<|.cons (.var 8) .nil) [])<|.cons (.call 17 (.cons (.var 10)<|.cons (.bi .dict<|.cons (.var 6) .nil) .nil) []) .nil) []) (.cons (.ret<|.con<|.bl K') .nil) .nil)<|.cons (.ifs (.nt<|.call 20 (.cons (.call 6 (.cons (.call 6 (.cons (.var 5)<|.cons (.var 4) .nil) [])<|.cons (.var 6) .nil) [])<|.cons (.call 6 (.cons (.var 5)<|.cons (.var 8) .nil) []) .nil) []) (.cons (.ret<|.con<|.bl K') .nil) .nil) .nil)
def uE:Ts:=(.cons (.ret<|.and (.call 20 (.cons (.call 9 (.cons (.var 4)<|.cons (.tup .nil) .nil) [])<|.cons (.var 4) .nil) [])<|.call 20 (.cons (.call 9 (.cons (.tup .nil)<|.cons (.var 6) .nil) [])<|.cons (.var 6) .nil) []) .nil)
def uG:Ts:=(.cons (.asg 6<|.callD 19<|.cons (.var 2)<|.cons (.var 2)<|.cons (.var 3)<|.cons (.con<|.int 1) .nil)<|.cons (.asg 7<|.call 23 (.cons (.var 4)<|.cons (.var 6) .nil) [])<|.cons (.asg 8<|.call 9 (.cons (.var 4)<|.cons (.var 6) .nil) [])<|.cons (.ifs (.nt<|.call 20 (.cons (.var 8)<|.cons (.var 7) .nil) []) (.cons (.ret<|.con<|.bl K') .nil) .nil)<|.cons (.fr (.nm 9) (.rng1<|.con<|.int 2) uB) uE)
theorem G0{W V C:List (Str×Mx.D)}(v:jW Pg 2 W)(H:jW P3 1 V)(u:∀p∈C,bH 200 Pos 4 p.2)(i:∀x,aI C x=putL V 2 (aI W x))(A:Dt.lst [.str a,.str b,.str c]=nm)(nQ:Dt.lst [.str a',.str b',.str c']=sg)(Y x5 B P x10)(s):
  ∃h x10' l,aO (az fs 59) uB [Y,G',B' nm,B' sg,B' (ai W),x5,B' (ai V),B,B' (ai C),P,x10] (B' s)= .ok (.next,[Y,G',B' nm,B' sg,B' (ai W),h,B' (ai V),B,B' (ai C),P,x10'],B' l):=by
 obtain⟨rs,s1,m1,o⟩:=xK (fs:=fs) (it:=11) (ig:=16) (im:=15) D2 Rh Rj A nQ 1 (by decide) (N:=59) (most:=3) s (by decide) (by decide);obtain⟨E,L,j,X,m,k⟩:=six v H u i o (N:=59) (by decide);rw[bw]at E L m;generalize Mx.D.tup rs=d at *;have g:=dJ (F:=az fs 59) (f:=15) (ρ:=[Y,G',B' nm,B' sg,B' (ai W),x5,B' (ai V),B,B' (ai C),P,x10]) (es:=.cons (.con<|.int 1)<|.cons (.var 2)<|.cons (.var 3)<|.cons (.con<|.int 3) .nil) (args:=[.int (1:Nat),nm,sg,.int (3:Nat)]) (s:=s) (by simp only[RX];rfl) m1;have n:=pM v.nd;have I:=pM H.nd;refine#[B'<|.tup<|aa rs,B'<|ofD<|putL W 2 d,s1,bh (d:=.tup<|aa rs) (S1:=B' s1) g (by unfold bP;rw[<-bw,cT,X7])<|bh (d:=ofD<|putL W 2 d) (S1:=B' s1) (by simp only[RX,n,E]) (by unfold bP;rw[cT,X7])<|jE (S1:=B' s1) (by simp only[RX,I,L,j,X,X5])<|jE (S1:=B' s1) (by simp only[RX,L,X,m,k,X5]) rfl]
theorem uk{C:List (Str×Mx.D)}(u:∀p∈C,bH 200 Pos 4 p.2)(o:40<=N):az fs N 20 [ai C,ai C] G'= .ok (.bl J',G'):=by
 have hd:Mx.D.dep (.tup<|C.map aC)<=20:=by
  have:=eV (n:=18) (ms:=C.map aC) λd hd=>by
   obtain⟨p,J,rfl⟩:=XH.mp hd;have:=lO<|u p J;simp[aC,Mx.D.dep,Mx.D.bq]
   lia
  simp[Mx.D.dep]
  lia
 have:=lB (fs:=fs) (is:=20) rfl N (ofD<|.tup<|C.map aC) (yy _) (by rw[rY];lia);rwa [bw]at this
theorem oP(h:(ys.map Mx.D.str).Pairwise λa b=>Mx.D.lt a b=J'):aG ((dd ys).map Mx.D.str)=ys.map Mx.D.str/\ys.Perm (dd ys):=by
 have nd:ys.Nodup:=List.Pairwise.imp (λ {a b} z e=>by rw[e,Mx.D.lt_irrefl]at z;cases z)<|YQ.mp h;have c:((dd ys).map Mx.D.str).Nodup:=List.Pairwise.map _ (λa b h e=>h<|by cases e;rfl)<|LI (l:=ys);refine#[eG (dH c) h λd=>?_,(List.perm_ext_iff_of_nodup nd LI).mpr λx=>Ez.symm];rw[bR,XH,XH];constructor
 ·rintro⟨x,L,rfl⟩;exact#[x,Ez.mp L,rfl]
 ·rintro⟨x,L,rfl⟩;exact#[x,Ez.mpr L,rfl]
theorem uh{W:List (Str×Mx.D)}(nd:(W.map (·.1)).Nodup):((W.map (·.1)).map λx=>(x,aI W x))=W:=by rw[YC];exact gM λp J=>by show (p.1,aI W p.1)=p;rw[cP nd J]
theorem me(x):bH 5 Pos 1 (bK x):=(uw (L:=1) (by decide)<|iT (P:=P3) (by decide) (by decide) x).mono (Xb _) (λc z=>z.1)<|Xb _
section
variable{W V:List (Str×Mx.D)}(hW:jW Pg 2 W)(hV:jW P3 1 V)
include hW hV
theorem MH:az fs 59 9 [ai W,.tup []] G'= .ok (ai W,G'):=by
 have X:((((W++([]:List (Str×Mx.D))).map (·.1))).map Mx.D.str).Pairwise λa b=>Mx.D.lt a b=J':=by rw[XO,YC];exact hW.up
 obtain⟨hk,J⟩:=oP X;have h:=pT (N:=59) (by decide) (W:=W) (V:=[]) hW.sz (by decide) (g:=λx=>aI W x) hk J λx _=>by have hd:=mz hW hV x;have e:putL [] 2 (aI W x)=aI W x:=yh ((kY hW hV x).U (by decide));have sb:=tW (V:=[]) (K:=5) (k:=1) (L:=2) (M:=1) (λp J=>by cases J) (by decide) me (λx=>by have:=Do (m:=1) (by decide) (iT (P:=P3) (n:=0) (L:=1) (by decide) (by decide) x);exact this) hd;have:=kK (m:=1) (by decide) (kY hW hV x);have l:=fY (W:=[]) (m:=1) (n:=2) (λp J=>by cases J) (by decide) (by decide) (by decide) hd (dG (W:=[]) (K:=1) (by decide) (λ_=>Xb 1) (by decide) (uw (by decide) (kY hW hV x))) (N:=58) (by decide) ⋯;rw[e]at l;exact l
 rw[XO,uh hW.nd]at h;exact h
theorem MI:az fs 59 9 [.tup [],ai V] G'= .ok (ai V,G'):=by
 have X:(((([]:List (Str×Mx.D))++V).map (·.1)).map Mx.D.str).Pairwise λa b=>Mx.D.lt a b=J':=by rw[YK,YC];exact hV.up
 obtain⟨hk,J⟩:=oP X;have h:=pT (N:=59) (by decide) (W:=[]) (V:=V) (by decide) hV.sz (g:=λx=>aI V x) hk J λx _=>by have hd:bH 200 ku 1 (bK x):=(uw (L:=1) (by decide)<|iT (P:=ku) (by decide) (by decide) x).mono (by decide) (λc z=>z)<|Xb _;have e:putL V 1 (bK x)=aI V x:=jJ<|tm hW hV x;have sb:=tW (V:=V) (K:=5) (k:=2) (L:=1) (M:=7) (tu hW hV) (by decide) (vH hW hV) (λx=>by have:=kK (m:=1) (by decide)<|tm hW hV x;lia) hd;have:=Do (m:=7) (by decide)<|iT (P:=P3) (n:=0) (L:=1) (by decide) (by decide) x;have l:=fY (W:=V) (m:=2) (n:=1) (tu hW hV) (by decide) (by decide) (by decide) hd (dG (by decide) (FU hW hV) (by decide)<|uw (L:=1) (by decide)<|iT (P:=ku) (by decide) (by decide) x) (N:=58) (by decide) ⋯;rw[e]at l;exact l
 rw[YK,uh hV.nd]at h;exact h
end
theorem Pb(y:L<=5)(l:∀c,P c->0<c)(h:jW P L W)(o:40<=N):az fs N 20 [ai W,ai W] G'= .ok (.bl J',G'):=
 uk (λp J=>(uw y<|h.fm p J).mono (by decide) l<|by decide) o
theorem yt(A:Dt.lst [.str a,.str b,.str c]=nm)(L:Dt.lst [.str a',.str b',.str c']=sg)(fP:a≠b)(xl:b≠c)(xh:a≠c)(v:jW Pg 2 W)(Y x5 x6 B x8 P x10)(s):
  ∃l,fin (aO (az fs 59) uG [Y,G',B' nm,B' sg,B' (ai W),x5,x6,B,x8,P,x10]<|B' s)= .ok (.bl J',B' l):=by
 obtain⟨V,s1,k,hV⟩:=DL (fs:=fs) (it:=11) (ig:=16) (im:=15) (iw:=19) D2 Rh Rj rfl A L fP xl xh (N:=59) (most:=1) (by decide) (by decide) s;obtain⟨C,u,H,w,S,E,c6⟩:=both v hV (N:=59) (by decide);have cs:=uk E (N:=59) (by decide);have g:=dJ (F:=az fs 59) (f:=19) (ρ:=[Y,G',B' nm,B' sg,B' (ai W),x5,x6,B,x8,P,x10]) (es:=.cons (.var 2)<|.cons (.var 2)<|.cons (.var 3)<|.cons (.con<|.int 1) .nil) (args:=[nm,nm,sg,.int (1:Nat)]) (s:=s) (by simp only[RX];rfl) k;obtain⟨i,l,hl,j,p,m,rfl⟩:=k9 (tg:=.nm 9) (body:=aO (az fs 59) uB) (ds:=bD 0 2) (s:=s1) (ρ:=[Y,G',B' nm,B' sg,B' (ai W),x5,B' (ai V),B' (ai C),B' (ai C),P,x10])
  (λ_ ρ _=>∃j p m,ρ=[Y,G',B' nm,B' sg,B' (ai W),j,B' (ai V),B' (ai C),B' (ai C),p,m]) #[x5,P,x10,rfl] (by
   rintro pre x o ρ s e ⟨j,p,m,rfl⟩;obtain⟨q,t,l,h⟩:=G0 v hV E c6 A L Y j (B'<|ai C) (B' x) m s;exact#[_,_,l,rfl,h,q,B' x,t,rfl])
 have y:=MH v hV;have r:=MI v hV;have O:=Pb (by decide) (λc(z:Pg c)=>z.1) v (N:=59) (by decide);have I:=Pb (by decide) (λc(z:P3 c)=>z.1) hV (N:=59) (by decide);have Q:∀U:List (Str×Mx.D),lx (ai U)=J':=λU=>by unfold ai;rw[<-bw];exact cT _
 refine#[l,aN (d:=ai V) (S1:=B' s1) g (by unfold bP;rw[Q,X7])<|aN (d:=ai C) (S1:=B' s1) (by simp only[RX,u]) (by unfold bP;rw[Q,X7])<|aN (d:=ai C) (S1:=B' s1) (by simp only[RX,H]) (by unfold bP;rw[Q,X7])<|dR (S1:=B' s1) (by simp only[RX,cs,X5])<|cn (ds:=bD 0 2) (S1:=B' s1) (gJ (n:=2) rfl<|by decide) rfl hl<|aA<|by simp only[RX,y,r,O,I]]
theorem j0:∀{l:List Nat},(∀i∈l,f (.int i) S= .ok ([g i],S))->aP f (l.map λ(i:Nat)=>Dt.int i) S= .ok (l.map g,S)
 |[],_=>rfl
 |i::l,h=>by rw[XT,aP,h i Xc,R.ah,j0 λy m=>h y<|W9 _ m];rfl
theorem yu(n):bD 0 n=(List.range n).map λ(i:Nat)=>Dt.int i:=by unfold bD;exact YB λi _=>by rw[Int.zero_add]
theorem tY{a b:List Int}(h:a.Perm b):a.sum=b.sum:=by
 induction h with
 |nil=>rfl
 |cons x _ ih=>rw[YR,YR,ih]
 |swap x y l=>simp only[YR];lia
 |trans _ _ Z Y=>exact Z.trans Y
theorem kl:∀{l:List Int},(∀x∈l,x=c)->l.sum=l.length*c
 |[],_=>by simp
 |x::l,h=>by
  rw[YR,h x Xc,kl λy m=>h y<|W9 _ m,Xo,Int.natCast_add,Int.add_mul]
  lia
section
variable(s0 s1 s2 x:Str)(M:Nat)
def nT(j:Nat):Mx.D:=ofT s1 [.tup [row (ofT s0 []) (j+1)]]
def kF:Mx.D:=.tup<|(List.range M).map λj=>row (nT s0 s1 j) 1
def pF(k:Nat):Mx.D:=.tup [row (dB x) (k+1)]
def fF(w:Nat):Mx.D:=.tup<|(List.range w).map λk=>row (ofT s2 [pF x k]) 1
def qF(k:Nat):Mx.D:=putL [(x,kF s0 s1 M)] 1<|pF x k
variable{s0 s1 s2 x M}
theorem NO(u:M<=200):bH 200 Pos 2 (kF s0 s1 M):=#[_,rfl,by simpa using u,λr h=>by
 obtain⟨j,_,rfl⟩:=XH.mp h;refine#[_,_,rfl,by decide,.inr #[s1,_,rfl,by simp,λp J=>?_]];rw[XF]at J;subst J;refine#[_,rfl,by simp,λr h=>?_];rw[XF]at h;subst h;exact#[_,_,rfl,by show (0:Int)<j+1;lia,.inr #[s0,[],rfl,by simp,λp J=>by cases J]]]
theorem ML(y:w<=200):bH 200 ku 2 (fF s2 x w):=#[_,rfl,by simpa using y,λr h=>by
 obtain⟨k,g,rfl⟩:=XH.mp h;have:=XX.mp g;refine#[_,_,rfl,by decide,.inr #[s2,_,rfl,by simp,λp J=>?_]];rw[XF]at J;subst J;refine#[_,rfl,by simp,λr h=>?_];rw[XF]at h;subst h;exact#[_,_,rfl,#[by show (0:Int)<k+1;lia,by show (k:Int)+1<_;lia],.inl #[x,rfl]]]
theorem Fq(h:nT s0 s1 i=nT s0 s1 j):i=j:=by
 simp[nT,ofT,row]at h
 lia
theorem nodup_range{α:Type}{f:Nat->α}(h:∀i j,f i=f j->i=j)(n):((List.range n).map f).Nodup:=List.Pairwise.map f (λi j n e=>n<|h i j e) List.nodup_range
theorem mJ(k):qF s0 s1 x M k= .tup (aG<|(List.range M).map λj=>row (nT s0 s1 j)<|(k+1)*1):=by
 have e:((bc<|pF x k).flatMap λr=>mulR (bL r)<|br (putL [(x,kF s0 s1 M)] 0) [(x,kF s0 s1 M)]<|aL r)=(List.range M).map λj=>row (nT s0 s1 j) (((k:Int)+1)*1):=by
  show mulR (k+1) (aI [(x,kF s0 s1 M)] x)++[]=_;have:aI [(x,kF s0 s1 M)] x=kF s0 s1 M:=by unfold aI;rw[bI,Zn rfl];rfl
  rw[this,XO];show (((List.range M).map λj=>row (nT s0 s1 j) 1).map λr=>row (aL r)<|(k+1)*bL r)=_;rw[YC];rfl
 unfold qF;rw[Rx.putL,e,lY]
 ·rw[YC];exact nodup_range (λi j h=>Fq (s0:=s0) (s1:=s1) h) M
 ·intro r I;obtain⟨j,_,rfl⟩:=XH.mp I;exact#[_,_,rfl]
theorem Om(u:0<M)(h:qF s0 s1 x M i=qF s0 s1 x M j):i=j:=by
 rw[mJ,mJ]at h;injection h with h;have m:row (nT s0 s1 0) (((i:Int)+1)*1)∈aG ((List.range M).map λW=>row (nT s0 s1 W)<|((j:Int)+1)*1):=by rw[<-h];exact bR.mpr (XH.mpr #[0,XX.mpr u,rfl])
 obtain⟨W,_,e⟩:=XH.mp<|bR.mp m;have:=Zj bL e;rw[aM,aM]at this
 lia
theorem Sk(k):eT 3 (qF s0 s1 x M k)=M*2:=by
 rw[mJ];show ((aG<|(List.range M).map λj=>row (nT s0 s1 j)<|((k:Int)+1)*1).map λr=>1+((aX<|aL r).map<|eT 2).sum).sum=_;rw[tY ((aY _).map _),kl (c:=2)]
 ·simp
 ·intro y m;obtain⟨r,I,rfl⟩:=XH.mp m;obtain⟨j,_,rfl⟩:=XH.mp I;rfl
theorem Bp(w):((bc<|fF s2 x w).flatMap λr=>mulR (bL r)<|br (putL [(x,kF s0 s1 M)] 1) [(x,kF s0 s1 M)]<|aL r)=(List.range w).map λk=>row (ofT s2 [qF s0 s1 x M k]) 1:=by show (((List.range w).map λk=>row (ofT s2 [pF x k]) 1).flatMap _)=_;rw[List.flatMap_map];exact kI (λk=>row (ofT s2 [qF s0 s1 x M k]) 1)<|List.range w
theorem MM(u:0<M)(w):eT 4 (putL [(x,kF s0 s1 M)] 2<|fF s2 x w)=w*(1+2*M):=by
 rw[Rx.putL,Bp,lY]
 ·show ((aG<|(List.range w).map λk=>row (ofT s2 [qF s0 s1 x M k]) 1).map λr=>1+((aX<|aL r).map<|eT 3).sum).sum=_;rw[tY ((aY _).map _),kl (c:=1+2*M)]
  ·simp
  ·intro y m;obtain⟨r,I,rfl⟩:=XH.mp m;obtain⟨k,_,rfl⟩:=XH.mp I;rw[aw,mD];simp only[XT,YD,YR,List.sum_nil,Sk]
   lia
 ·rw[YC];refine nodup_range (λi j h=>?_) w;have h:ofT s2 [qF s0 s1 x M i]=ofT s2 [qF s0 s1 x M j]:=h;simp[ofT]at h;exact Om u h
 ·intro r I;obtain⟨j,_,rfl⟩:=XH.mp I;exact#[_,_,rfl]
end
section
variable{F:FT}{ρ:aj}{S S1:Sx}{r:R (Dt×Sx)}{ts:Ts}
theorem zi(h:ev F c ρ S= .ok (.lst<|l.map Dt.int,S1))(j:(decide (lk c=0)&&decide (i<ρ.length))=J')(k:fin (aO F ts (ρ.set i G')<|B' l)=r):fin (aO F (.cons (.asgD i c) ts) ρ S)=r:=by refine fk ?_ k;rw[tO,h,R.ah];show (match intsOf (l.map Dt.int)with|some ns=>af (decide (lk c=0)&&decide (i<ρ.length)) (.ok (Fl.next,ρ.set i G',B' ns))|none=>R.bad)=_;rw[Rx.ints_map,j];rfl
end
def uC:Ts:=(.cons (.asg 4<|.callD 19<|.cons (.var 2)<|.cons (.var 2)<|.cons (.var 3)<|.cons (.con<|.int 2) .nil)<|.cons (.ifs (.cmp .Eq (.callD 11<|.cons (.con<|.int 2) .nil)<|.con<|.int 0) (.cons (.asg 4<|.bi .tuple<|.cons (.comp [G',G',G',B' 1] (.seq<|.var 4) (.tp [1,2]) .nil Mv) .nil) .nil) .nil) uG)
theorem Kb(A:Dt.lst [.str a,.str b,.str c]=nm)(L:Dt.lst [.str a',.str b',.str c']=sg)(fP:a≠b)(xl:b≠c)(xh:a≠c)(Y)(s):
  ∃l,fin (aO (az fs 59) uC [Y,G',B' nm,B' sg,G',G',G',G',G',G',G']<|B' s)= .ok (.bl J',B' l):=by
 have X:lim=1000000:=rfl;obtain⟨W,s1,w1,v⟩:=DL (fs:=fs) (it:=11) (ig:=16) (im:=15) (iw:=19) D2 Rh Rj rfl A L fP xl xh (N:=59) (most:=2) (by decide) (by decide) s;have g:=dJ (F:=az fs 59) (f:=19) (ρ:=[Y,G',B' nm,B' sg,G',G',G',G',G',G',G']) (es:=.cons (.var 2)<|.cons (.var 2)<|.cons (.var 3)<|.cons (.con<|.int 2) .nil) (args:=[nm,nm,sg,.int (2:Nat)]) (s:=s) (by simp only[RX];rfl) w1;obtain⟨z,t,r,S⟩:=cj D2 (N:=59) (by decide) (m:=2) (by decide) s1;have i:=r (c:=.con<|.int 2) (ρ:=[Y,G',B' nm,B' sg,B' (ai W),G',G',G',G',G',G']) λ_=>rfl
 have Q:∀U:List (Str×Mx.D),lx (ai U)=J':=λU=>by unfold ai;rw[<-bw];exact cT _
 by_cases k:z=0
 ·subst k;obtain⟨U,w,u1,n,y⟩:=Tz (N:=59) (by decide) W t v.fm;have j:jW Pg 2 U:=#[by rw[n];exact v.nd,y,by have:=Zj List.length n;rw[Xf,Xf]at this;rw[this];exact v.sz,by
   have h:=v.up;have e:∀Z:List (Str×Mx.D),(Z.map λp=>Mx.D.str p.1)=(Z.map (·.1)).map Mx.D.str:=λZ=>by rw[YC];rfl
   rw[e]at h ⊢;rw[n];exact h]
  obtain⟨E,I⟩:=yt A L fP xl xh j Y G' G' G' G' G' G' w;have u:=v.sz;have K:ev (az fs 59) (.comp [G',G',G',B' 1] (.seq<|.var 4) (.tp [1,2]) .nil Mv) [Y,G',B' nm,B' sg,B' (ai W),G',G',G',G',G',G'] (B' t)= .ok (.lst<|aa<|U.map aC,B' w):=
   bN (ds:=aa<|W.map aC) (S1:=B' t) (cQ (d:=ai W) rfl rfl) (by rw[ar,Xf];lia) rfl u1
  exact#[E,aN (d:=ai W) (S1:=B' s1) g (by unfold bP;rw[Q,X7])<|jj (S1:=B' t) (by simp only[RX,i];rfl)<|aN (d:=ai U) (S1:=B' w) (by rw[cv];exact(Zj (λq=>R.bind q λx=>R.bind (dU .tuple [x.1]) λd=>R.ok (d,x.2)) K).trans rfl) (by unfold bP;rw[Q,X7]) I]
 ·have o:jW Pg 2 W:=#[v.nd,λp J=>(v.fm p J).mono (λc z=>#[z.1,by have:c<=3:=z.2;lia])<|Xb _,v.sz,v.up];obtain⟨E,I⟩:=yt A L fP xl xh o Y G' G' G' G' G' G' t;have H:(((z:Nat):Int)==0)=K':=Zg.mpr ⋯;exact#[E,aN (d:=ai W) (S1:=B' s1) g (by unfold bP;rw[Q,X7])<|dR (S1:=B' t) (by simp only[RX,i,H]) I]
theorem JP(o:∀(a b c s0 s1 t:Str),a≠b->b≠c->a≠c->∀s:List Int,∃s',az fs 59 22 [.lst [.str a,.str b,.str c],.lst [.str s0,.str s1,.str t]] (B' s)= .ok (.bl J',B' s')):∀ns:List Int,ns.length<=63->∃S,az fs 60 24 [.ir ns] G'= .ok (.bl J',S):=λns _=>by
 obtain⟨ds,u⟩:=Bh (fs:=fs) (id:=10) rfl (N:=59) (by decide) ns;obtain⟨⟨a,b,c,s1,Q,fP,xl,xh⟩,_⟩:=xI (N:=59) (by decide) ds;obtain⟨_,E,h,A,t,l2⟩:=xI (N:=59) (by decide) s1;have B:=o a b c E h A fP xl xh;generalize i0:Dt.lst [.str a,.str b,.str c]=nm at *;generalize L:Dt.lst [.str E,.str h,.str A]=sg at *;obtain⟨z,w,M,Z⟩:=cj D2 (N:=59) (by decide) (m:=6) (by decide) t;have g1:=dJ (F:=az fs 59) (f:=13) (ρ:=[B' (.ir ns),G',G',G',G',G',G',G',G',G',G']) (es:=.nil) (args:=[]) (s:=ds) (by simp only[RX]) Q;have r:=dJ (F:=az fs 59) (f:=14) (ρ:=[B' (.ir ns),G',B' nm,G',G',G',G',G',G',G',G']) (es:=.nil) (args:=[]) (s:=s1) (by simp only[RX]) l2;have j:=M (c:=.con<|.int 6) (ρ:=[B' (.ir ns),G',B' nm,B' sg,G',G',G',G',G',G',G']) λ_=>rfl
 have st:∀{x y z:Str}{d:Dt},Dt.lst [.str x,.str y,.str z]=d->True:=λ_=>trivial
 obtain⟨s4,n⟩:=B w;have i:=dJ (F:=az fs 59) (f:=22) (ρ:=[B' (.ir ns),G',B' nm,B' sg,G',G',G',G',G',G',G']) (es:=.cons (.var 2)<|.cons (.var 3) .nil) (args:=[nm,sg]) (s:=w) (by simp only[RX]) n;have key:∃P,cz (az fs 59) (.and (.cmp .Eq (.callD 11<|.cons (.con<|.int 6) .nil)<|.con<|.int 5)<|.nt<|.callD 22<|.cons (.var 2)<|.cons (.var 3) .nil) [B' (.ir ns),G',B' nm,B' sg,G',G',G',G',G',G',G'] (B' t)= .ok (K',B' P):=by
  have X:cz (az fs 59) (.callD 22<|.cons (.var 2)<|.cons (.var 3) .nil) [B' (.ir ns),G',B' nm,B' sg,G',G',G',G',G',G',G'] (B' w)= .ok (J',B' s4):=by show R.bind _ _=_;exact(Zj (λq=>R.bind q λx=>(cK x.1).bind λb=>R.ok (b,x.2)) i).trans rfl
  by_cases k:((z:Nat):Int)=5
  ·exact#[s4,by simp only[RX,j,X,k];rfl]
  ·have H:(((z:Nat):Int)==5)=K':=Zg.mpr k;exact#[w,by simp only[RX,j,H,Zl,X2]]
 obtain⟨P,g⟩:=key;obtain⟨Y,I⟩:=Kb i0 L fP xl xh (B'<|.ir ns) P;refine#[B' Y,bg (body:=QP) rfl (by decide) rfl ?_];show fin (aO (az fs 59) QP [B' (.ir ns),G',G',G',G',G',G',G',G',G',G'] G')=_;exact zi (l:=ds) (S1:=G') (by simp only[RX,u]) rfl<|aN (d:=nm) (S1:=B' s1) g1 (by rw[<-i0];rfl)<|aN (d:=sg) (S1:=B' t) r (by rw[<-L];rfl)<|dR (S1:=B' P) g I
theorem fy(h:Mx.D.gi a b=J'):Mx.D.gi (x::a) (x::b)=J':=by rw[Mx.D.b8,Zn rfl];exact h
theorem eY(h:Mx.D.lt x y=J'):Mx.D.gi (x::a) (y::b)=J':=by
 have ne:x≠y:=λe=>by rw[e,Mx.D.lt_irrefl]at h;cases h
 rw[Mx.D.b8,Zm ne];exact h
theorem gL(h:Mx.D.gi a b=J'):Mx.D.lt (.tup a) (.tup b)=J':=by simp only[Mx.D.lt];exact h
theorem JU(h:i<j):Mx.D.lt (nT s0 s1 i) (nT s0 s1 j)=J':=by
 have hi:Mx.D.lt (.int<|(i:Int)+1) (.int<|(j:Int)+1)=J':=by simp only[Mx.D.lt];exact Xz ⋯
 exact gL<|fy<|fy<|eY<|gL<|eY<|gL<|eY<|gL<|fy<|eY hi
theorem HA(M):Up ((List.range M).map λj=>row (nT s0 s1 j) 1):=by unfold Up;rw[YC];exact List.Pairwise.map _ (λi j h=>JU h) List.pairwise_lt_range
theorem Sl(u:0<M)(h:i<j):Mx.D.lt (qF s0 s1 x M i) (qF s0 s1 x M j)=J':=by
 have a:∀k:Nat,aG ((List.range M).map λj=>row (nT s0 s1 j)<|(k+1)*1)=(List.range M).map λj=>row (nT s0 s1 j) ((k+1)*1):=λk=>Up.sort (by
  have:=HA (s0:=s0) (s1:=s1) M;unfold Up at this ⊢;rw[YC]at this ⊢;exact this) λr I=>by
  obtain⟨j,_,rfl⟩:=XH.mp I;exact#[_,_,rfl]
 obtain⟨m,rfl⟩:∃m,M=m+1:=#[M-1,⋯];rw[mJ,mJ,a,a,List.range_succ_eq_map];exact gL<|eY<|gL<|fy<|eY<|by simp only[Mx.D.lt];exact Xz ⋯
theorem Fx(h:Mx.D.lt a b=J'):Mx.D.lt b a=K':=by
 cases e:Mx.D.lt b a with
 |false=>rfl
 |true=>exact absurd (Mx.D.lt_trans _ _ _ h e) (by rw[Mx.D.lt_irrefl];simp)
theorem NP(M):gw Pos M 2 (kF s0 s1 M):=#[_,rfl,by simp,HA M,λr h=>by
 obtain⟨j,_,rfl⟩:=XH.mp h;refine#[_,_,rfl,by decide,.inr #[s1,_,rfl,by simp,λp J=>?_]];rw[XF]at J;subst J;refine#[_,rfl,by simp,List.pairwise_singleton _ _,λr h=>?_];rw[XF]at h;subst h;exact#[_,_,rfl,by show (0:Int)<j+1;lia,.inr #[s0,[],rfl,by simp,λp J=>by cases J]]]
theorem Ac{C:List (Str×Mx.D)}(u:∀p∈C,bH L Pos 4 p.2)(o:40<=N):az fs N 20 [ai C,ai C] G'= .ok (.bl J',G'):=by
 have hd:Mx.D.dep (.tup<|C.map aC)<=20:=by
  have:=eV (n:=18) (ms:=C.map aC) λd hd=>by
   obtain⟨p,J,rfl⟩:=XH.mp hd;have:=lO<|u p J;simp[aC,Mx.D.dep,Mx.D.bq]
   lia
  simp[Mx.D.dep]
  lia
 have:=lB (fs:=fs) (is:=20) rfl N (ofD<|.tup<|C.map aC) (yy _) (by rw[rY];lia);rwa [bw]at this
section
variable{a b c s0 s1 s2:Str}{M w:Nat}{W:List (Str×Mx.D)}
structure uK(a b c s0 s1 s2:Str)(M w:Nat)(W:List (Str×Mx.D)):Prop where
 m0:0<M
 m1:M<=40
 w1:w<=119
 fP:a≠b
 xl:b≠c
 xh:a≠c
 pm:W.Perm [(b,fF s2 a w),(c,bK a)]
variable(G:uK a b c s0 s1 s2 M w W)
include G
theorem uK.nd:(W.map (·.1)).Nodup:=(G.pm.map (·.1)).nodup_iff.mpr (by simp[G.xl])
theorem uK.na:a∉W.map (·.1):=λh=>by have:=(G.pm.map (·.1)).mem_iff.mp h;simp[G.fP,G.xh]at this
theorem uK.hN(x):bH 200 ku 2 (aI W x)/\(aI W x=bK a\/aI W x=fF s2 a w\/aI W x=bK x):=by
 have F:∀y,bH 200 ku 2 (bK y):=λy=>(uw (L:=1) (by decide)<|iT (P:=ku) (by decide) (by decide) y).mono (by decide) (λc z=>z) (Xb _)
 by_cases hx:x∈W.map (·.1)
 ·obtain⟨p,J,rfl⟩:=XH.mp hx;rw[cP G.nd J];have:=G.pm.mem_iff.mp J;simp only[Xi,Xj,Zs]at this;rcases this with rfl|rfl
  ·exact#[ML<|by have:=G.w1;lia,.inr<|.inl rfl]
  ·exact#[F a,.inl rfl]
 ·rw[dq hx];exact#[F x,.inr<|.inr rfl]
theorem uK.Cr:∀p∈[(a,kF s0 s1 M)],bH 200 Pos 2 p.2:=λp J=>by rw[XF]at J;subst J;exact NO (by have:=G.m1;lia)
theorem uK.pj:putL [(a,kF s0 s1 M)] 2 (bK a)=kF s0 s1 M:=by have e:aI [(a,kF s0 s1 M)] a=kF s0 s1 M:=cP (by simp) (p:=(a,kF s0 s1 M)) Xc;have h:=jJ (V:=[(a,kF s0 s1 M)]) (x:=a) (k:=1) (by rw[e];exact NP M);rw[h,e]
end
section
variable{a b c s0 s1 s2:Str}{M w:Nat}{W:List (Str×Mx.D)}(G:uK a b c s0 s1 s2 M w W)
include G
theorem uK.sz:W.length=2:=G.pm.length_eq
theorem uK.sp(x)(L:x∈W.map (·.1)\/x=a):(aI W x=fF s2 a w/\eT (2+2) (putL [(a,kF s0 s1 M)] 2<|aI W x)=w*(1+2*M))\/(aI W x=bK a/\eT (2+2) (putL [(a,kF s0 s1 M)] 2<|aI W x)<=2000):=by
 have F:eT (2+2) (putL [(a,kF s0 s1 M)] 2<|bK a)<=2000:=by
  have A:=G.m1;have b:=NO (s0:=s0) (s1:=s1) (M:=M) ⋯;rw[G.pj,lC (b.mono (Xb _) (λc z=>z)<|show 2<=2+2 by decide),mW b (show 2<=2+2 by decide)];have:=kK (m:=1) (by decide) (NP (s0:=s0) (s1:=s1) M)
  lia
 have t:aI W a=bK a:=dq G.na;rcases L with L|rfl
 ·obtain⟨p,J,rfl⟩:=XH.mp L;have e:=cP G.nd J;have:=G.pm.mem_iff.mp J;simp only[Xi,Xj,Zs]at this;rcases this with rfl|rfl
  ·refine .inl #[e,?_];rw[e];exact MM G.m0 w
  ·refine .inr #[e,?_];rw[e];exact F
 ·exact .inr #[t,by rw[t];exact F]
theorem uK.hR(x):(bc<|aI [(a,kF s0 s1 M)] x).length<=40:=by
 have:=G.m1;unfold aI;rw[bI];split
 ·show ((List.range M).map _).length<=40;rw[Xf,Yw];exact this
 ·exact Nat.le_add_left 1 39
theorem uK.pk(x):Aw [(a,kF s0 s1 M)] 2 (aI W x):=by
 have j:∀(n:Nat)(y:Str)(c:Int),0<c->Aw [(a,kF s0 s1 M)] (n+1) (.tup [row (dB y) c]):=λn y c K=>dG (by decide) G.hR (L:=1) (by decide) (Rx.me (Xb 1) y c K)
 rcases (G.hN x).2 with e|e|e<;>rw[e]
 ·exact j _ _ _ (by decide)
 ·refine#[?_,λr h p J=>?_]
  ·rw[Bp];refine Mx.SL.rise (by rw[Xf,Yw];have:=G.w1;lia)<|List.Pairwise.map _ (λi j h=>?_) List.pairwise_lt_range;exact Fx<|vy<|gL<|fy<|fy<|eY<|gL<|eY<|Sl G.m0 h
  ·obtain⟨k,_,rfl⟩:=XH.mp h;rw[aw,mD,XF]at J;subst J;exact j _ _ _ ⋯
 ·exact j _ _ _ (by decide)
theorem uK.fit(hb:(w:Int)*(1+2*M)<=2000):∃C:List (Str×Mx.D),az fs 58 23 [ai W,ai [(a,kF s0 s1 M)]] G'= .ok (ai C,G')/\az fs 58 9 [ai W,ai [(a,kF s0 s1 M)]] G'= .ok (ai C,G')/\az fs 58 20 [ai C,ai C] G'= .ok (.bl J',G'):=by
 obtain⟨O,g,J⟩:=B9 ((W++[(a,kF s0 s1 M)]).map (·.1));have z:∀x,x∈O->x∈W.map (·.1)\/x=a:=λx h=>by rw[J.mem_iff,Ez,XU,Xs]at h;simpa using h
 have P:∀x,bH 40000 Pos 4 (putL [(a,kF s0 s1 M)] 2<|aI W x):=λx=>iJ G.Cr (by decide) (G.hN x).1
 refine#[O.map λx=>(x,putL [(a,kF s0 s1 M)] 2<|aI W x),Hi (N:=58) (m:=4) (V:=[(a,kF s0 s1 M)]) (by decide) (by decide) G.nd (by simp) (by rw[G.sz];decide) (by simp) g J (λp h=>?_) (λp h hx=>?_) λx _=>P x,pT (N:=58) (V:=[(a,kF s0 s1 M)]) (by decide) (by rw[G.sz];decide) (by simp) g J λx h=>fY G.Cr (by decide) (by decide) (by decide) (G.hN x).1 (G.pk x) (by decide) ?_,Ac (L:=40000) (λp h=>?_)<|by decide]
 ·have e:=cP G.nd h;have hd:=(G.hN p.1).1;have g:=G.pk p.1;rw[e]at hd g ⊢;exact xH G.Cr (by decide) (by decide) (by decide) hd g (by decide)
 ·rw[XF]at h;subst h;rw[dq hx];exact G.pj
 ·rcases G.sp x (z x h)with ⟨_,Y⟩|⟨_,Y⟩<;>lia
 ·obtain⟨x,_,rfl⟩:=XH.mp h;exact P x
end
theorem kA:∀{ds:List Dt},(∀d∈ds,(∃q,f d S= .ok (q,S))\/f d S= .ex k)->(∃d∈ds,f d S= .ex k)->aP f ds S= .ex k
 |[],_,#[d,h,_]=>by cases h
 |d::ds,h,L=>by
  rw[aP];rcases h d Xc with ⟨q,e⟩|e
  ·rw[e,R.ah];have:=kA (ds:=ds) (λy m=>h y<|W9 _ m) (by
    obtain⟨y,m,a⟩:=L;rcases Xi.mp m with rfl|m
    ·rw[e]at a;cases a
    ·exact#[y,m,a])
   show R.bind (aP f ds S) _=_;rw[this];rfl
  ·rw[e];rfl
theorem GZ(w:dS tg d ρ= .ok ρ1)(P:ev F e ρ1 S= .ex k):aU tg (bM F .nil) (bz F e) ρ d S= .ex k:=by unfold aU bz;rw[w,R.ah,kc,R.ah];simp only[Zo,P];rfl
theorem lS(h:eO F it ρ S= .ok (ds,S1))(W:ds.length<=lim)(g:(decide (uI it<=1)||iA F it ρ S)=J')(K:aP (aU tg (bM F cs) (bz F e)<|iM cap ρ) ds S1= .ex k):
  ev F (.comp cap it tg cs e) ρ S= .ex k:=by
 rw[jK,h,R.ah,Xz W,g,XZ,guard_true];show (aP (aU tg (bM F cs) (bz F e)<|iM cap ρ) ds S1).bind _=_;rw[K];rfl
theorem Eu(o:3<=N){W V:List (Str×Mx.D)}(v:W.length<=3)(H:V.length<=3){g:Str->Mx.D}{O:List Str}(hk:aG ((dd ((W++V).map (·.1))).map Mx.D.str)=O.map Mx.D.str)(J:O.Perm (dd ((W++V).map (·.1))))
  (j:∀x∈O,az fs (N-1) 6 [ofD (aI W x),ai V] G'= .ok (ofD<|g x,G')\/az fs (N-1) 6 [ofD (aI W x),ai V] G'= .ex 0) (L:∃x∈O,az fs (N-1) 6 [ofD (aI W x),ai V] G'= .ex 0):az fs N 9 [ai W,ai V] G'= .ex 0:=by
 have X:lim=1000000:=rfl;have hl:((W++V).map (·.1)).length<=6:=by rw[Xf,Xm];lia
 have a:qE .Add (ai W) (ai V)= .ok (.tup<|aa<|(W++V).map aC):=by show af (decide ((aa<|W.map aC).length+(aa<|V.map aC).length<=lim)) (R.ok<|Dt.tup<|aa (W.map aC)++aa (V.map aC))=_;rw[Xz (by rw[ar,ar,Xf,Xf];lia),XU,aK];rfl
 have b:=wI (ys:=(W++V).map (·.1)) (d:=.lst (aa (((W++V).map (·.1)).map Mx.D.str))) rfl ⋯;rw[hk]at b;refine bg (body:=b9) rfl ⋯ rfl ?_;show fin (aO (az fs<|N-1) b9 [B' (ai W),B' (ai V),G'] G')=_;have k1:aP (aU (.tp [1,2]) (bM (az fs<|N-1) .nil) (bz (az fs<|N-1)<|.var 1) [G',G',G']) (aa<|(W++V).map aC) G'= .ok (((W++V).map aC).map λr=>ofD<|Mx.D.str (D7 r).1,G'):=cN λr h=>by obtain⟨p,_,rfl⟩:=XH.mp h;exact bt (ρ1:=[G',B' (.str p.1),B' (ofD p.2)]) rfl rfl rfl
 have B:(((W++V).map aC).map λr=>ofD<|Mx.D.str (D7 r).1)=aa (((W++V).map (·.1)).map Mx.D.str):=by rw[aQ,YC,YC,YC];rfl
 rw[B]at k1;have u:ev (az fs<|N-1) (.comp [G',G',G'] (.seq<|.bin .Add (.var 0)<|.var 1) (.tp [1,2]) .nil<|.var 1) [B' (ai W),B' (ai V),G'] G'= .ok (.lst (aa (((W++V).map (·.1)).map Mx.D.str)),G'):=
  bN (ds:=aa<|(W++V).map aC) (S1:=G') (cQ (d:=.tup<|aa<|(W++V).map aC) (by simp only[RX,a]) rfl) (by rw[ar,Xf,Xm];lia) rfl k1
 have P:O.length<=6:=by rw[J.length_eq];exact Xh QW hl
 have k2:aP (aU (.nm 1) (bM (az fs<|N-1) .nil) (bz (az fs<|N-1)<|.tup<|.cons (.var 1)<|.cons (.call 6 (.cons (.call 5 (.cons (.var 2)<|.cons (.var 1) .nil) [])<|.cons (.var 3) .nil) []) .nil) [G',G',B' (ai W),B' (ai V)]) (aa<|O.map Mx.D.str) G'= .ex 0:=by
  have c:∀x∈O,az fs (N-1) 6 [ofD (aI W x),ai V] G'= .ex 0->aU (.nm 1) (bM (az fs<|N-1) .nil) (bz (az fs<|N-1)<|.tup<|.cons (.var 1)<|.cons (.call 6 (.cons (.call 5 (.cons (.var 2)<|.cons (.var 1) .nil) [])<|.cons (.var 3) .nil) []) .nil) [G',G',B' (ai W),B' (ai V)] (.str x) G'= .ex 0:=λx _ l=>by have n:=qi (fs:=fs) (ij:=4) (ih:=5) rfl rfl (N:=N-1) ⋯ W x;refine GZ (ρ1:=[G',B' (.str x),B' (ai W),B' (ai V)]) rfl ?_;simp only[RX,n,l];rfl
  refine kA (λd hd=>?_) ?_
  ·rw[aQ,YC]at hd;obtain⟨x,L,rfl⟩:=XH.mp hd;have n:=qi (fs:=fs) (ij:=4) (ih:=5) rfl rfl (N:=N-1) ⋯ W x;rcases j x L with l|l
   ·exact .inl #[_,bt (y:=.tup [.str x,ofD (g x)]) (ρ1:=[G',B' (.str x),B' (ai W),B' (ai V)]) rfl (by simp only[RX,n,l]) rfl]
   ·exact .inr<|c x L l
  ·obtain⟨x,L,l⟩:=L;exact#[.str x,by rw[aQ,YC];exact XH.mpr #[x,L,rfl],c x L l]
 refine aN (d:=.lst<|aa<|O.map Mx.D.str) (S1:=G') (by rw[cv,u];exact(Zj (R.bind · _) b).trans rfl) rfl<|wZ ?_;rw[ex,cv,lS (ds:=aa<|O.map Mx.D.str) (S1:=G') (cQ (d:=.lst<|aa<|O.map Mx.D.str) rfl rfl) (by rw[ar,Xf];lia) rfl k2];rfl
def eK:C:=(.tup<|.cons (.tup<|.cons (.con<|.str "of")<|.cons (.idx (.var 2)<|.con<|.int 1)<|.cons (.tup<|.cons (.tup<|.cons (.tup<|.cons (.var 3)<|.cons (.bin .Add (.var 1)<|.con<|.int 1) .nil) .nil) .nil) .nil)<|.cons (.con<|.int 1) .nil)
def QY:C:=(.bi .tuple<|.cons (.comp [G',G',B' 2,B' 5] (.rng1<|.var 3) (.nm 1) .nil eK) .nil)
def eF:C:=(.tup<|.cons (.tup<|.cons (.con<|.str "of")<|.cons (.idx (.var 3)<|.con<|.int 2)<|.cons (.tup<|.cons (.tup<|.cons (.tup<|.cons (.tup<|.cons (.con<|.str "any")<|.cons (.idx (.var 2)<|.con<|.int 0) .nil)<|.cons (.bin .Add (.var 1)<|.con<|.int 1) .nil) .nil) .nil) .nil)<|.cons (.con<|.int 1) .nil)
section
variable{a b c s0 s1 s2:Str}{M w:Nat}{W:List (Str×Mx.D)}(G:uK a b c s0 s1 s2 M w W)
include G
theorem uK.over(hb:2000<(w:Int)*(1+2*M)):az fs 58 21 [ai W,ai [(a,kF s0 s1 M)]] G'= .ok (.bl J',G'):=by
 obtain⟨O,hk,J⟩:=B9 ((W++[(a,kF s0 s1 M)]).map (·.1));have z:∀x,x∈O↔x∈W.map (·.1)\/x=a:=λx=>by rw[J.mem_iff,Ez,XU,Xs];simp
 have c:(b,fF s2 a w)∈W:=G.pm.mem_iff.mpr Xc;have L:=cP G.nd c;have six:=λx=>Oi (N:=56) G.Cr (by decide) (by decide) (by decide) (G.hN x).1 (G.pk x) (by decide)
 have h:az fs 57 9 [ai W,ai [(a,kF s0 s1 M)]] G'= .ex 0:=Eu (N:=57) (V:=[(a,kF s0 s1 M)]) (by decide) (by rw[G.sz];decide) (by simp) (g:=λx=>putL [(a,kF s0 s1 M)] 2<|aI W x) hk J (λx h=>by
  have:=six x;by_cases q:2000<eT (2+2) (putL [(a,kF s0 s1 M)] 2<|aI W x)
  ·rw[Zn q]at this;exact .inr this
  ·rw[Zm q]at this;exact .inl this) #[b,(z b).mpr<|.inl<|XH.mpr #[_,c,rfl],by
  have l:=six b;have E:eT (2+2) (putL [(a,kF s0 s1 M)] 2<|aI W b)=w*(1+2*M):=by rw[L];exact MM G.m0 w
  rw[Zn (by rw[E];exact hb)]at l;exact l]
 refine bg (body:=QM) rfl (by decide) rfl ?_;show fin (aO (az fs 57) QM [B' (ai W),B' (ai [(a,kF s0 s1 M)]),G'] G')=_;refine qb (ρ1:=[B' (ai W),B' (ai [(a,kF s0 s1 M)]),G']) (S1:=G') ?_;have e:aO (az fs 57) (.cons (.LJ<|.call 9 (.cons (.var 0)<|.cons (.var 1) .nil) []) .nil) [B' (ai W),B' (ai [(a,kF s0 s1 M)]),G'] G'= .ex 0:=by refine N5 ?_;rw[ex];simp only[RX,h];rfl
 rw[ex,e];rfl
end
section
variable{F:FT}{ρ:aj}{S S1:Sx}{nm sg a b d r x y W V:Dt}{u v M q j:Int}{t:Bool}{c:C}{f:Nat}
theorem zM1(h:ev F c ρ S= .ok (.int u,S1))(e:8+u=M):ev F (.bin .Add (.con (.int 8)) c) ρ S= .ok (.int M,S1):=by simp only[RX,h,e]
theorem zM2(h3:bZ ρ 3= .ok (.int M))(m1:qE .Mult (.int 2) (.int M)= .ok (.int (2*M)))(f1:qE .FloorDiv (.int 2000) (.int (1+2*M))= .ok (.int q))(h:ev F c ρ S= .ok (.int v,S1))(e:j=q+v-1):
 ev F (.bin .Sub (.bin .Add (.bin .FloorDiv (.con (.int 2000)) (.bin .Add (.con (.int 1)) (.bin .Mult (.con (.int 2)) (.var 3)))) c) (.con (.int 1))) ρ S= .ok (.int j,S1):=by simp only[RX,h3,m1,f1,h,e]
theorem zM3(h2:bZ ρ 2= .ok sg)(g0:cD sg (.int 0)= .ok x):ev F (.tup (.cons (.con (.str "of")) (.cons (.idx (.var 2) (.con (.int 0))) (.cons (.tup .nil) .nil)))) ρ S= .ok (.tup [.str "of",x,.tup []],S):=by simp only[RX,h2,g0]
theorem zM4(h1:bZ ρ 1= .ok nm)(n0:cD nm (.int 0)= .ok a)(h:ev F c ρ S= .ok (d,S))(e:.tup [.tup [a,d]]=r):ev F (.tup (.cons (.tup (.cons (.idx (.var 1) (.con (.int 0))) (.cons c .nil))) .nil)) ρ S= .ok (r,S):=by simp only[RX,h1,n0,h,e]
theorem zM5(h1:bZ ρ 1= .ok nm)(h7:bZ ρ 7= .ok d)(n0:cD nm (.int 0)= .ok a)(n1:cD nm (.int 1)= .ok b)(n2:cD nm (.int 2)= .ok y)(e:.lst [.tup [b,d],.tup [y,.tup [.tup [.tup [.str "any",a],.int 1]]]]=x)(hs:dU .sorted [x]= .ok W)(ht:dU .tuple [W]= .ok V):
 ev F (.bi .tuple (.cons (.bi .sorted (.cons (.lst (.cons (.tup (.cons (.idx (.var 1) (.con (.int 1))) (.cons (.var 7) .nil))) (.cons (.tup (.cons (.idx (.var 1) (.con (.int 2))) (.cons (.tup (.cons (.tup (.cons (.tup (.cons (.con (.str "any")) (.cons (.idx (.var 1) (.con (.int 0))) .nil))) (.cons (.con (.int 1)) .nil))) .nil)) .nil))) .nil))) .nil)) .nil)) ρ S= .ok (V,S):=by
 simp only[RX,h1,h7,n0,n1,n2,e,hs,ht]
theorem zM6(h3:bZ ρ 3= .ok (.int M))(h4:bZ ρ 4= .ok (.int v))(m1:qE .Mult (.int 2) (.int M)= .ok (.int (2*M)))(m2:qE .Mult (.int v) (.int (1+2*M))= .ok (.int q))(e:decide (2000<q)=t):
 cz F (.cmp .Gt (.bin .Mult (.var 4) (.bin .Add (.con (.int 1)) (.bin .Mult (.con (.int 2)) (.var 3)))) (.con (.int 2000))) ρ S= .ok (t,S):=by simp only[RX,h3,h4,m1,m2,e]
theorem zM7(h8:bZ ρ 8= .ok a)(h6:bZ ρ 6= .ok b)(h:F f [a,b] none= .ok (r,none)):ev F (.call f (.cons (.var 8) (.cons (.var 6) .nil)) []) ρ S= .ok (r,S):=by simp only[RX,h8,h6,List.append_nil,h]
theorem zM8(h8:bZ ρ 8= .ok a)(h6:bZ ρ 6= .ok b)(c1:F 9 [a,b] none= .ok (x,none))(c2:F 23 [a,b] none= .ok (y,none))(c3:F 20 [x,y] none= .ok (r,none)):
 ev F (.call 20 (.cons (.call 9 (.cons (.var 8) (.cons (.var 6) .nil)) []) (.cons (.call 23 (.cons (.var 8) (.cons (.var 6) .nil)) []) .nil)) []) ρ S= .ok (r,S):=by simp only[RX,zM7 h8 h6 c1,zM7 h8 h6 c2,List.append_nil,c3]
theorem zM9(h1:bZ ρ 1= .ok (.int j))(h2:bZ ρ 2= .ok sg)(g1:cD sg (.int 1)= .ok x)(h3:bZ ρ 3= .ok d):ev F eK ρ S= .ok (.tup [.tup [.str "of",x,.tup [.tup [.tup [d,.int (j+1)]]]],.int 1],S):=by unfold eK;simp only[RX,h1,h2,g1,h3]
theorem zM0(h1:bZ ρ 1= .ok (.int j))(h2:bZ ρ 2= .ok nm)(n0:cD nm (.int 0)= .ok a)(h3:bZ ρ 3= .ok sg)(g2:cD sg (.int 2)= .ok x):ev F eF ρ S= .ok (.tup [.tup [.str "of",x,.tup [.tup [.tup [.tup [.str "any",a],.int (j+1)]]]],.int 1],S):=by unfold eF;simp only[RX,h1,h2,n0,h3,g2]
end
theorem EC(a b c s0 s1 t)(fP:a≠b)(xl:b≠c)(xh:a≠c)(s):∃l,az fs 59 22 [.lst [.str a,.str b,.str c],.lst [.str s0,.str s1,.str t]] (B' s)= .ok (.bl J',B' l):=by
 have X:lim=1000000:=rfl;generalize A:Dt.lst [.str a,.str b,.str c]=nm;generalize L:Dt.lst [.str s0,.str s1,.str t]=sg;have h:cD nm (.int 0)= .ok (.str a):=by rw[<-A];rfl
 have q:cD sg (.int 0)= .ok (.str s0):=by rw[<-L];rfl
 have g1:cD sg (.int 1)= .ok (.str s1):=by rw[<-L];rfl
 have r:cD sg (.int 2)= .ok (.str t):=by rw[<-L];rfl
 have n1:cD nm (.int 1)= .ok (.str b):=by rw[<-A];rfl
 have n2:cD nm (.int 2)= .ok (.str c):=by rw[<-A];rfl
 obtain⟨u,t1,P,l2⟩:=cj D2 (N:=58) (by decide) (m:=33) (by decide) s;obtain⟨v,t2,E,Z⟩:=cj D2 (N:=58) (by decide) (m:=3) (by decide) t1;have K:=P (c:=.con (.int 33)) (ρ:=[G',B' nm,B' sg,G',G',G',G',G',G']) λ_=>rfl
 obtain⟨M,hM⟩:∃M:Nat,M=8+u:=#[_,rfl];have eM:(8:Int)+u=M:=⋯
 have q3:=E (c:=.con (.int 3)) (ρ:=[G',B' nm,B' sg,B' (.int M),G',G',G',G',G']) λ_=>rfl
 have m1:=cC (i:=2) (j:=(M:Int)) (.inl (by decide));have Y:=qG (i:=2000) (j:=1+2*(M:Int)) ⋯ (by
  have:(1+2*(M:Int)).natAbs<2^9000:=Xr (show _<2^10 by lia) (Nat.pow_le_pow_right (by decide) (by decide));exact(Nat.log2_lt ⋯).mpr this)
 have d1:2000/(1+2*(M:Int))>=1:=Int.le_ediv_of_mul_le ⋯ ⋯;have d2:2000/(1+2*(M:Int))<=117:=by
  have:2000/(1+2*(M:Int))<118:=Int.ediv_lt_of_lt_mul ⋯ ⋯
  lia
 obtain⟨w,y⟩:∃w:Nat,(w:Int)=2000/(1+2*(M:Int))+v-1:=#[(2000/(1+2*(M:Int))+v-1).toNat,⋯];have V5:w<=119:=⋯
 have o:=cC (i:=(w:Int)) (j:=1+2*(M:Int)) (.inl ⋯);have t0:ofD (ofT s0 [])= .tup [.str "of",.str s0,.tup []]:=by rw[td];rfl
 have x:aP (aU (.nm 1) (bM (az fs 58) .nil) (bz (az fs 58) eK) [G',G',B' sg,B' (.tup [.str "of",.str s0,.tup []])]) (bD 0 M) (B' t2)= .ok ((List.range M).map λj=>ofD (row (nT s0 s1 j) 1),B' t2):=by
  rw[yu];refine j0 λj _=>bt (ρ1:=[G',B' (.int j),B' sg,B' (.tup [.str "of",.str s0,.tup []])]) rfl ((zM9 rfl rfl g1 rfl).trans ?_) rfl
  rw[dy,nT,td,aa,aa,bw,aa,aa,dy,t0]
 have B:aP (aU (.nm 1) (bM (az fs 58) .nil) (bz (az fs 58) eF) [G',G',B' nm,B' sg]) (bD 0 w) (B' t2)= .ok ((List.range w).map λk=>ofD (row (ofT t [pF a k]) 1),B' t2):=by
  rw[yu];refine j0 λj _=>bt (ρ1:=[G',B' (.int j),B' nm,B' sg]) rfl ((zM0 rfl rfl h rfl r).trans ?_) rfl
  rw[dy,td,aa,aa,pF,bw,aa,aa,dy,wF]
 have g:((List.range M).map λj=>ofD (row (nT s0 s1 j) 1))=aa ((List.range M).map λj=>row (nT s0 s1 j) 1):=by rw[aQ,YC];rfl
 have O:((List.range w).map λk=>ofD (row (ofT t [pF a k]) 1))=aa ((List.range w).map λk=>row (ofT t [pF a k]) 1):=by rw[aQ,YC];rfl
 rw[g]at x;rw[O]at B;have RW:ai [(a,kF s0 s1 M)]= .tup [.tup [.str a,.tup (aa ((List.range M).map λj=>row (nT s0 s1 j) 1))]]:=by simp[ai,aC,kF,ofD,aa]
 have Vw:ofD (fF t a w)= .tup (aa ((List.range w).map λk=>row (ofT t [pF a k]) 1)):=by rw[fF,bw]
 have hj:bH 40000 Pos 2 (bK a):=(me a).mono (by decide) (λc z=>z) (by decide);obtain⟨W,w1,wp,w3⟩:=rk (m:=2) (by decide) (V:=[(b,fF t a w),(c,bK a)]) (λp J=>by
  simp only[Xi,Xj,Zs]at J;rcases J with rfl|rfl
  ·exact(ML ⋯).mono (by decide) (λc z=>z.1) (Xb _)
  ·exact hj) (by simp) (by decide)
 have G:uK a b c s0 s1 t M w W:=#[⋯,⋯,V5,fP,xl,xh,wp];have hs:=(gV w3).1;rw[w1]at hs;have Q:∀U:List (Str×Mx.D),lx (ai U)=J':=λU=>by unfold ai;rw[<-bw];exact cT _
 refine#[t2,cV (body:=QN) rfl (by decide) rfl ?_];show fin (aO (az fs 58) QN [G',B' nm,B' sg,G',G',G',G',G',G'] (B' s))=_;refine aN (d:=.int M) (S1:=B' t1) (zM1 K eM) rfl (aN (d:=.int w) (S1:=B' t2) (zM2 rfl m1 Y q3 y) rfl (aN (d:=.tup [.str "of",.str s0,.tup []]) (S1:=B' t2) (zM3 rfl q) rfl ?_));have h6:=bN (F:=az fs 58) (cap:=[G',G',B' 2,B' 5]) (it:=.rng1 (.var 3)) (tg:=.nm 1) (cs:=.nil) (e:=eK) (ρ:=[G',B' nm,B' sg,B' (.int M),B' (.int w),B' (.tup [.str "of",.str s0,.tup []]),G',G',G']) (S:=B' t2) (ds:=bD 0 M) (S1:=B' t2) (gJ (n:=M) rfl ⋯) (by simp[bD];lia) rfl x;have U8:ev (az fs 58) QY [G',B' nm,B' sg,B' (.int M),B' (.int w),B' (.tup [.str "of",.str s0,.tup []]),G',G',G'] (B' t2)= .ok (.tup (aa ((List.range M).map λj=>row (nT s0 s1 j) 1)),B' t2):=by unfold QY;rw[cv,h6];rfl
 refine aN (c:=.tup (.cons (.tup (.cons (.idx (.var 1) (.con (.int 0))) (.cons QY .nil))) .nil)) (d:=ai [(a,kF s0 s1 M)]) (S1:=B' t2) (zM4 rfl h U8 RW.symm) (by unfold bP;rw[Q,X7]) ?_;have h7:=bN (F:=az fs 58) (cap:=[G',G',B' 1,B' 2]) (it:=.rng1 (.var 4)) (tg:=.nm 1) (cs:=.nil) (e:=eF) (ρ:=[G',B' nm,B' sg,B' (.int M),B' (.int w),B' (.tup [.str "of",.str s0,.tup []]),B' (ai [(a,kF s0 s1 M)]),G',G']) (S:=B' t2) (ds:=bD 0 w) (S1:=B' t2) (gJ (n:=w) rfl ⋯) (by simp[bD];lia) rfl B;refine aN (d:=ofD (fF t a w)) (S1:=B' t2) (by rw[cv];refine(Zj (R.bind · _) h7).trans ?_;rw[Vw];rfl) (by unfold bP;rw[cT,X7]) ?_;have e8:Dt.lst [.tup [.str b,ofD (fF t a w)],.tup [.str c,.tup [.tup [.tup [.str "any",.str a],.int 1]]]]= .lst (aa ([(b,fF t a w),(c,bK a)].map aC)):=by simp[aC,ofD,aa,bK,row,dB]
 refine aN (d:=ai W) (S1:=B' t2) (zM5 rfl rfl h n1 n2 e8 hs rfl) (by unfold bP;rw[Q,X7]) ?_;by_cases hb:2000<(w:Int)*(1+2*(M:Int))
 ·have I:=G.over hb;exact jj (S1:=B' t2) (zM6 rfl rfl m1 o (Xz hb)) (aA (zM7 rfl rfl I))
 ·obtain⟨C,c1,H,c3⟩:=G.fit ⋯;exact dR (S1:=B' t2) (zM6 rfl rfl m1 o (Xv hb)) (aA (zM8 rfl rfl H c1 c3))
theorem law_true:∀ns:List Int,ns.length<=63->∃S,az fs 60 24 [.ir ns] G'= .ok (.bl J',S):=JP EC
end K32
end
end Lake
section
namespace PySem.W.Fast
def tw2029624182798201710:=0
def tw12338415099239670212:=0
def tw13494379565271926803:=0
def tw15540520718559069449:=0
def tw6893856236766387567:=0
def tw12095504275003523020:=0
def tw10714242959757671712:=0
def tw7045446240683741485:=0
def tw3392438234648201123:=0
def tw17364405636449005407:=0
def tw2272118101386803932:=0
def tw7493576121597930172:=0
def tw16671406853818041161:=0
def tw4455940140417338404:=0
def tw3653383852104245310:=0
def tw5703727866784580057:=0
def tw37198995716623999:=0
def tw12203865500032133861:=0
def tw17599678905917476018:=0
def tw8084934905908302798:=0
def tw3971181828768308102:=0
def tw10259700200882201440:=0
def tw18415396771222529190:=0
def tw10225467631496999196:=0
def tw8053247907282391682:=0
def tw7657036155093340897:=0
def tw12065105636183104798:=0
def tw8651570783143530019:=0
def tw3261702197104613453:=0
def tw8539818632382802710:=0
def tw10424992259721315120:=0
def tw1820188126676921688:=0
def tw8790934537268965432:=0
def tw252761561083307211:=0
def tw14859190648878238846:=0
def tw11872244526518513994:=0
def tw914388931600312053:=0
def tw7481135177645743973:=0
def tw11077096009103454626:=0
def tw9774874067871913051:=0
def tw15177038215235256848:=0
def tw8456861765755416303:=0
def tw12624658464418101967:=0
def tw12700839518110028214:=0
def tw14429666569743107650:=0
def tw5437454853950987163:=0
def tw18213425092863381963:=0
def tw3118974774450092597:=0
def tw8243367066667950961:=0
def tw5165093272498270026:=0
def tw15814560907407319126:=0
def tw10762691960737916347:=0
def tw8846153938767190353:=0
def tw12757085799614780326:=0
def tw6780156623819354110:=0
def tw15572492845776464636:=0
def tw10948571049219356972:=0
def tw11858079450472528281:=0
def tw12881424306535908645:=0
def tw4961453256679635541:=0
def tw11693110289810785915:=0
def tw14005532094954768223:=0
def tw12083453240860003847:=0
def tw12877707448115180593:=0
def tw11792910972221798507:=0
def tw1537765492301472648:=0
def tw1631644227406620314:=0
def tw3578772106526404094:=0
def tw9910977314630143617:=0
def tw6187946763554832524:=0
def tw15859461374537818229:=0
def tw6914987232480426176:=0
def tw8481735728520866302:=0
def tw16442233913310053471:=0
def tw7830633683142849459:=0
def tw8176203410685664850:=0
def tw16534652939182743493:=0
def tw17024414609177583535:=0
def tw7411204140403731410:=0
def tw14409684626377153742:=0
def tw7681051684016976162:=0
def tw6006118153723835860:=0
def tw6655075622365227441:=0
def tw8156855505051645343:=0
def tw14362214258715309682:=0
def tw18303941378775920613:=0
def tw17671797320801094870:=0
def tw2790195556257007490:=0
def tw14336583777195526181:=0
def tw17017185817285448048:=0
def tw13206727214422276425:=0
def tw2348857341293649219:=0
def tw1677551372090687695:=0
def tw2062759703922812624:=0
def tw758285095391161377:=0
def tw10660447505069669103:=0
def tw8839535296151533449:=0
def tw7489609280903850723:=0
def tw3209078627876427992:=0
def tw17037036281659011544:=0
def tw18117319528728625336:=0
def tw6246629872628448617:=0
def tw6567012307937181531:=0
def tw1684321378740601303:=0
def tw7178610324070372003:=0
def tw1600311291892421905:=0
def tw15172242546407123217:=0
def tw7971786914261879683:=0
def tw1516998330468345249:=0
def tw11045549276173654826:=0
def tw2688416211065108947:=0
def tw10588452986571798022:=0
def tw16395740657160678790:=0
def tw6888632743597937710:=0
def tw6488163956913631020:=0
def tw17943190834415114267:=0
def tw6786024563612188771:=0
def tw10969601246699091608:=0
def tw1955296584196762333:=0
def tw15069421899518359763:=0
def tw8262401921368636782:=0
def tw7911895317819808100:=0
def tw7366511736784173639:=0
def tw1438201035021255605:=0
def tw941329931469741816:=0
def tw15874856191340867123:=0
def tw12268970943327130904:=0
def tw16091533881170396142:=0
def tw11664251207664101556:=0
def tw9346101119102374774:=0
def tw7905721611267469114:=0
def tw17143600512073933760:=0
def tw14937703265709531020:=0
def tw9802208704588531386:=0
def tw9111108200585789814:=0
def tw8315651954353247120:=0
def tw6471959760409774187:=0
def tw5479096811182737019:=0
def tw4155488230563144099:=0
def tw4069411725352613289:=0
def tw4003242280575999995:=0
def tw3964206803775587742:=0
def tw3935686067910920521:=0
def tw3739950449160339442:=0
def tw2622992139056026349:=0
def tw2579933266387468299:=0
def tw2397104603303506007:=0
def tw18221237009286824880:=0
def tw17092639429433176245:=0
def tw17087402284284576176:=0
def tw16719179173736732230:=0
def tw1661544474798955741:=0
def tw16394688109124320535:=0
def tw16015943921667932269:=0
def tw15910171231626427902:=0
def tw15879030695316830525:=0
def tw15742223586930228666:=0
def tw15289279434493806727:=0
def tw15257668949331788874:=0
def tw14949945110182638449:=0
def tw14574815736904456436:=0
def tw14551099474885149956:=0
def tw14477799239643740349:=0
def tw13997711138446085870:=0
def tw13978526376606578072:=0
def tw13919066756166264538:=0
def tw13533975624162574853:=0
def tw13505614854276462761:=0
def tw13502503567533570564:=0
def tw13126794330773823749:=0
def tw12921928281446637968:=0
def tw12520392464495129461:=0
def tw12116784529746134479:=0
def tw11835075096581033596:=0
def tw11561598409780333046:=0
def tw11298185092845621493:=0
def tw11287261184369742821:=0
def tw10195474320395662527:=0
def tw10093120193804578165:=0
end PySem.W.Fast
open PySem PySem.W PyProof.Rows Lake.Rx
set_option maxHeartbeats 0 in
theorem PySem.Challenge.cw_mixform_k32_whole_chained_holds : PySem.Challenge.rw_mixform_k32_whole_chained.Holds := by
 w_on;o_law;k_head;(case hw=>w_witness2)
 k_fill
 refine walkR (k:=60) (l:=PySem.Challenge.rw_mixform_k32_whole_chained) rfl rfl #[rfl,by decide,by decide] (λw h Y=>kIn_of Y) ?F
 case F=>
  intro w mg fa h KX G hmg;refine law_mk (rs:=Lake.K32.rows) (cons:=Lake.K32.cons) (bls:=Lake.K32.bls) (xs:=Lake.K32.xs) (L:=24) (n:=59) KX G hmg rfl Lake.K32.hok Lake.K32.hfs (λs v _ _ _ _ _ _=>.of_eq rfl) Lake.K32.law_true ?B ?C ?D ?E
  case B=>exact#[by k_is,by k_is,by k_is,by k_is,by k_is,by k_is,by k_is,by k_is,by k_is,by k_is,by k_is,by k_is,by k_is,by k_is,by k_is,trivial]
  case C=>exact#[#[_,by k_is,rfl,by first|rfl|exact#[_,rfl]],trivial]
  case D=>
   refine#[?_,?_,?_,?_,?_,?_,?_,?_,?_,?_,?_,?_,?_,?_,?_,?_,?_,?_,?_,?_,?_,?_,?_,?_,?_,trivial]
   all_goals exact#[_,_,_,_,_,_,_,_,_,_,_,by k_is,by k_is,by k_is,by k_is,λ_=>rfl,binds0 (by repeat first|exact len0 rfl|refine lenS λ_=>?_)]
  case E=>exact#[#[_,by k_is,by k_exc,#[by k_is,by k_is,by k_is,by k_is,by k_is,by k_is,by k_is],#[#[_,.inl #[by k_is,_,rfl],by kit_is,λ_=>by kts_exm],#[_,.inl #[by k_is,_,rfl],by kit_is,λ_=>by kts_exm],trivial]],trivial]
end