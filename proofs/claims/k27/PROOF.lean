import PyProof.Rows.All
import Wide.All
import OpenK.AllK
import Wide.FinOn
import Lean
import PyProof.EqAt
import PyProof.EqKinds
import PyProof.TupleCall
import KE.KUnpack
import PyProof.NeKinds
import PyProof.FactsAll.tuple_2
import PyProof.WalksMore
import PyProof.AttrMissHeap
import KE.KDictOf
import PyProof.ExcBaseAll.ValueError
import KE.KTryMore
import PyProof.Rows.CallKwBuiltin
import PySem.Challenge.RW_mixform_k27_lines_of_solutions
set_option Elab.async false
set_option linter.all false
set_option maxRecDepth 100000
set_option maxHeartbeats 4000000
set_option bootstrap.genMatcherCode false
set_option genSizeOf false
set_option compiler.extract_closed false
local macro_rules|`(command|def $i:declId $s:optDeclSig $v:declVal)=>`(command|noncomputable def $i:declId $s:optDeclSig $v:declVal)
local macro_rules|`(command|abbrev $i:declId $s:optDeclSig $v:declVal)=>`(command|noncomputable abbrev $i:declId $s:optDeclSig $v:declVal)
local macro_rules|`(())=>`(by lia)
local macro_rules|`(⋯)=>`(by decide)
local macro_rules|`(∅)=>`(by simp)
local macro_rules|`(‹$t›)=>`(by simpa using $t)
namespace Lake
open PySem PySem.Spec PyProof.Rows
section
open PySem.W
def Tv:=@wpAny_bind
def Tw:=@Option.bind_eq_some_iff
def Tx:=@Heap.get?_push_of_some
def Tz:=@wpAny_pure
def TC:=@Bool.and_eq_true
def TF:=@List.size_toArray
def TH:=@of_decide_eq_true
def TJ:=@List.getElem?_eq_some_iff
def TK:=@List.mem_cons_of_mem
def TL:=@kasC_bind
def TM:=@Nat.le_refl
def TN:=@List.mem_cons_self
def TQ:=@Heap.get?_push_size
def TR:=@kasC_pure
def TU:=@List.length_map
def TV:=@Heap.lt_size
def TX:=@Nat.le_trans
def TY:=@List.mem_cons
def TZ:=@List.not_mem_nil
def T4:=@List.append_assoc
def T5:=@Option.map_eq_some_iff
def T6:=@List.length_append
def T7:=@List.getElem?_set_ne
def T8:=@List.length_cons
def T9:=@List.getElem?_map
def Ua:=@Array.length_toList
def Ub:=@Nat.lt_of_lt_of_le
def Uc:=@List.mem_append
def Ud:=@eq_of_beq
def Ue:=@List.getElem?_eq_getElem
def Ug:=@decide_eq_false
def Uh:=@List.lookup_cons
def Ui:=@KeyOrd.kle_trans
def Uj:=@Heap.get?_update_other
def Uk:=@decide_eq_true
def Ul:=@Heap.size_push
def Um:=@Nat.ne_of_lt
def Uo:=@List.mem_append_right
def Uq:=@wpAny_setField_rec
def Ur:=@List.mem_singleton
def Us:=@List.mem_map
def Ut:=@List.all_eq_true
def Uu:=@List.any_eq_true
def Uv:=@Int.emod_nonneg
def Uw:=@Int.emod_lt_of_pos
def Ux:=@List.append_nil
def Uy:=@Bool.or_eq_true
def Uz:=@List.getElem?_append_left
def UA:=@List.getElem?_append_right
def UB:=@List.map_cons
def UC:=@List.map_append
def UD:=@List.getElem?_set_self
def UE:=@List.mem_range
def UF:=@Array.eq_empty_of_size_eq_zero
def UG:=@Array.getD_eq_getD_getElem?
def UH:=@Array.toList_append
def UI:=@Array.toList_extract
def UJ:=@Array.toList_inj
def UK:=@Array.toList_reverse
def UL:=@Bool.and_false
def UM:=@Bool.and_true
def UN:=@Bool.eq_iff_iff
def UO:=@Bool.false_eq_true
def UP:=@Bool.false_ne_true
def UQ:=@Bool.not_eq_true'
def UR:=@Bool.not_true
def US:=@Bool.or_eq_true_iff
def UT:=@Bool.or_true
def UU:=@Classical.byContradiction
def UV:=@F.args_tuple_iterator_next_1
def UW:=@F.entry_tuple_iterator_next
def UX:=@F.slot_tuple_iterator_next
def UY:=@F.slot_zip_next
def UZ:=@Int.le_refl
def U0:=@Int.lt_or_gt_of_ne
def U1:=@Int.mul_comm
def U2:=@Int.mul_le_mul_of_nonneg_left
def U3:=@Int.mul_le_mul_of_nonneg_right
def U4:=@Int.mul_nonneg
def U5:=@Int.mul_zero
def U6:=@Int.natAbs_mul
def U7:=@Int.natCast_mul
def U8:=@Int.sub_self
def U9:=@Int.sub_zero
def Va:=@Int.toNat_natCast
def Vb:=@Int.zero_add
def Vc:=@Int.zero_mul
def Vd:=@KeyOrd.kle_of_klt
def Ve:=@KeyOrd.kle_refl
def Vf:=@KeyOrd.klt_of_kle_of_klt
def Vg:=@KeyOrd.klt_of_klt_of_kle
def Vh:=@List.Perm.append_left
def Vi:=@List.Perm.refl
def Vj:=@List.all_cons
def Vk:=@List.any_eq_false
def Vl:=@List.any_map
def Vm:=@List.cons.injEq
def Vn:=@List.cons_append
def Vo:=@List.dropLast_concat_getLast
def Vp:=@List.drop_eq_getElem_cons
def Vq:=@List.drop_of_length_le
def Vr:=@List.drop_sublist
def Vs:=@List.drop_succ_cons
def Vt:=@List.drop_zero
def Vu:=@List.eq_nil_of_length_eq_zero
def Vv:=@List.eq_of_mem_replicate
def Vw:=@List.exists_mem_of_ne_nil
def Vx:=@List.filterMap_cons
def Vy:=@List.flatMap_cons
def Vz:=@List.flatten_cons
def VA:=@List.forIn_cons
def VB:=@List.getD_eq_getElem?_getD
def VC:=@List.getElem?_cons_zero
def VD:=@List.getElem?_replicate
def VE:=@List.getElem?_set
def VF:=@List.getElem?_take_of_lt
def VG:=@List.getElem_mem
def VH:=@List.getElem_of_mem
def VI:=@List.getElem_toArray
def VJ:=@List.length_drop
def VL:=@List.length_nil
def VM:=@List.length_range
def VN:=@List.length_range'
def VO:=@List.length_replicate
def VP:=@List.length_set
def VQ:=@List.length_singleton
def VR:=@List.length_take
def VS:=@List.length_zip
def VT:=@List.map_congr_left
def VU:=@List.map_flatMap
def VV:=@List.map_map
def VW:=@List.map_nil
def VX:=@List.mem_append_left
def VY:=@List.mem_filter
def VZ:=@List.mem_filterMap
def V0:=@List.mem_flatMap
def V1:=@List.mem_iff_getElem?
def V2:=@List.mem_of_getElem?
def V3:=@List.mem_of_mem_take
def V4:=@List.nil_append
def V5:=@List.nodup_cons
def V6:=@List.of_mem_zip
def V7:=@List.pairwise_append
def V8:=@List.pairwise_cons
def V9:=@List.pairwise_iff_getElem
def Wa:=@List.pairwise_map
def Wb:=@List.perm_append_comm
def Wc:=@List.replicate_succ
def Wd:=@List.set_eq_take_append_cons_drop
def We:=@List.sum_cons
def Wf:=@List.take_add_one
def Wg:=@List.take_append_drop
def Wh:=@List.take_length
def Wi:=@List.take_of_length_le
def Wj:=@List.take_sublist
def Wl:=@List.take_succ_cons
def Wm:=@List.take_zero
def Wn:=@List.zipIdx_cons
def Wo:=@List.zip_cons_cons
def Wp:=@List.zip_nil_left
def Wq:=@List.zip_nil_right
def Wr:=@Nat.le_mul_of_pos_left
def Ws:=@Nat.le_of_lt
def Wt:=@Nat.le_succ
def Wu:=@Nat.lt_irrefl
def Wv:=@Nat.lt_of_le_of_lt
def Ww:=@Nat.lt_succ_of_lt
def Wx:=@Nat.lt_succ_self
def Wz:=@Nat.mul_le_mul
def WA:=@Nat.mul_le_mul_right
def WB:=@Nat.ne_of_gt
def WC:=@Nat.sub_self
def WD:=@Nat.succ_mul
def WE:=@Nat.zero_add
def WG:=@Nat.zero_le
def WH:=@Ne.symm
def WI:=@Option.some.inj
def WJ:=@PyProof.Rows.callWith_type1
def WK:=@PyProof.Rows.slot_tuple_getitem
def WL:=@PySem.F.args_tuple_add_2
def WM:=@PySem.F.entry_tuple_add
def WN:=@PySem.F.slot_tuple_add
def WO:=@PySem.F.slot_tuple_mul
def WQ:=@PySem.W.cellsFrom_some
def WR:=@PySem.W.kia_one
def WS:=@PySem.mem_of_lookup
def WT:=@beq_eq_false_iff_ne
def WU:=@beq_self_eq_true
def WV:=@call_meets
def WW:=@congrArg
def WX:=@decide_eq_true_eq
def WY:=@if_false
def WZ:=@if_neg
def W0:=@if_pos
def W1:=@if_true
def W2:=@kasC_get
def W3:=@kasC_lift
def W4:=@kasC_modify
def W5:=@kasC_range
def W6:=@noFill_tuple_add
def W7:=@of_decide_eq_false
def W8:=@or_false
def W9:=@pushCells_keeps
def Xa:=@sizeLine_eq
def Xb:=@wpAny_Call_Name_kw
def Xc:=@wpAny_callSpecial?_slot
def Xd:=@wpAny_call_entry
def Xe:=@wpAny_field
def Xf:=@wpAny_holding
def Xg:=@wpAny_mono
def Xh:=@wpAny_newObj_type
def Xi:=@wpAny_onRaise
def Xj:=@wpAny_passesOwn
def Xk:=@wpAny_pyIter_list
def Xl:=@wpAny_pyIter_tuple
def Xm:=@wpAny_rule
def Xn:=@wpAny_seqItems
def Xo:=@wpAny_standAt
def Xp:=@wpAny_truthy_bool
def Xq:=@wpAny_typeOf
def Xr:=@wpAny_updateSeq_pair
end
section
namespace L2
abbrev Key:=Sum Int Str
def EK:Key->Value->Bool
 |.inl k,v=>Value.isInt k v
 |.inr x,v=>Value.isStrOf x v
def Oz(w:World):Key->Int
 |.inl k=>hashInt k
 |.inr x=>hashStr w x
theorem bq:∀{k:Key}{v:Value},EK k v=true->(∃i t,k=Sum.inl i/\v=Value.int i t)\/(∃x t,k=Sum.inr x/\v=Value.str x t)
 |.inl i,v,h=>by obtain⟨t,e⟩:=Value.isInt_shape (k:=i) (v:=v) h;exact .inl ⟨i,t,rfl,e⟩
 |.inr x,v,h=>by obtain⟨t,e⟩:=Value.isStrOf_shape (x:=x) (v:=v) h;exact .inr ⟨x,t,rfl,e⟩
theorem Gx(a b:Int):decide ((Sum.inl a:Key)=Sum.inl b)=(a==b):=by
 by_cases e:a=b
 ·subst e;simp
 ·have h:¬(Sum.inl a:Key)=Sum.inl b:=λq=>e (Sum.inl.inj q)
  rw[Ug h];exact(WT.mpr e).symm
theorem GA(a b:Str):decide ((Sum.inr a:Key)=Sum.inr b)=decide (a=b):=by
 by_cases e:a=b
 ·subst e;simp
 ·have h:¬(Sum.inr a:Key)=Sum.inr b:=λq=>e (Sum.inr.inj q)
  rw[Ug h,Ug e]
theorem Gy(a:Int)(b:Str):decide ((Sum.inl a:Key)=Sum.inr b)=false:=Ug (λq=>nomatch q)
theorem Gz(a:Str)(b:Int):decide ((Sum.inr a:Key)=Sum.inl b)=false:=Ug (λq=>nomatch q)
def pI(prog:Program)(w:World):PySem.KeyKind prog w Key where
 is:=EK
 hash:=Oz w
 inj:=λv a b ha hb=>by
  rcases bq ha with ⟨i,t,rfl,rfl⟩|⟨x,t,rfl,rfl⟩
  ·rcases bq hb with ⟨j,u,rfl,e⟩|⟨y,u,rfl,e⟩
   ·injection e with e1 _;rw[e1]
   ·exact nomatch e
  ·rcases bq hb with ⟨j,u,rfl,e⟩|⟨y,u,rfl,e⟩
   ·exact nomatch e
   ·injection e with e1 _;rw[e1]
 byValue:=λk v h=>by rcases bq h with ⟨i,t,rfl,rfl⟩|⟨x,t,rfl,rfl⟩<;>rfl
 pyHash:=λhv h=>by
  rcases bq hv with ⟨i,t,rfl,rfl⟩|⟨x,t,rfl,rfl⟩
  ·exact wpAny_pyHash_int h
  ·exact wpAny_pyHash_str h
 eqBool:=λhu hv h=>by
  rcases bq hu with ⟨i,t,rfl,rfl⟩|⟨x,t,rfl,rfl⟩
  ·rcases bq hv with ⟨j,u,rfl,rfl⟩|⟨y,u,rfl,rfl⟩
   ·rw[Gx]at h;exact wpAny_eqBool_int h
   ·rw[Gy]at h;exact SeqAt.EqAt.int_str i t y u _ _ _ _ h
  ·rcases bq hv with ⟨j,u,rfl,rfl⟩|⟨y,u,rfl,rfl⟩
   ·rw[Gz]at h;exact SeqAt.EqAt.str_int x t j u _ _ _ _ h
   ·rw[GA]at h;exact wpAny_eqBool_str h
 «strs»:=λk x t v h=>by
  rcases bq h with ⟨i,u,rfl,e⟩|⟨y,u,rfl,e⟩
  ·exact nomatch e
  ·injection e with e1 _;subst e1;cases v<;>rfl
end L2
namespace L2
inductive V where
 |bg|bl (b:Bool)|int (i:Int)|str (x:Str)|FD (b:Array UInt8)|BD (b:UInt64)|ref (a:Addr)|ty (n:String)
 deriving DecidableEq
def RelV:V->Value->Prop
 |.bg,u=>u=Value.none
 |.bl b,u=>u=Value.bool b
 |.int i,u=>∃t,u=Value.int i t
 |.str x,u=>∃t,u=Value.str x t
 |.FD b,u=>∃t,u=Value.bytes b t
 |.BD b,u=>∃t,u=Value.float b t
 |.ref a,u=>u=Value.ref a
 |.ty n,u=>u=Value.type n
abbrev aw:List V->List Value->Prop:=Paired RelV
theorem aw.length{xs:List V}{us:List Value}(r:aw xs us):xs.length=us.length:=Paired.length r
theorem aw.get:∀{xs:List V}{us:List Value}{i:Nat}{x:V},aw xs us->xs[i]?=some x->∃u,us[i]?=some u/\RelV x u
 |_,_,_,_,.nil,e=>by simp at e
 |_,_,0,_,.cons r _,e=>by simp at e;subst e;exact⟨_,rfl,r⟩
 |_,_,i+1,x,.cons _ t,e=>by obtain⟨u,h1,h2⟩:=aw.get (i:=i) (x:=x) t ‹e›;exact⟨u,by simpa using h1,h2⟩
theorem aw.set{x:V}{u:Value}(r:RelV x u):∀{xs:List V}{us:List Value}(i:Nat),aw xs us->aw (xs.set i x) (us.set i u)
 |_,_,_,.nil=>.nil
 |_,_,0,.cons _ t=>.cons r t
 |_,_,i+1,.cons q t=>.cons q (aw.set r i t)
theorem aw.append:∀{xs ys:List V}{us ws:List Value},aw xs us->aw ys ws->aw (xs++ys) (us++ws)
 |_,_,_,_,.nil,s=>s
 |_,_,_,_,.cons r t,s=>.cons r (aw.append t s)
theorem aw.take:∀{xs:List V}{us:List Value}(n:Nat),aw xs us->aw (xs.take n) (us.take n)
 |_,_,0,_=>.nil
 |_,_,_+1,.nil=>.nil
 |_,_,n+1,.cons r t=>.cons r (aw.take n t)
theorem aw.drop:∀{xs:List V}{us:List Value}(n:Nat),aw xs us->aw (xs.drop n) (us.drop n)
 |_,_,0,r=>r
 |_,_,_+1,.nil=>.nil
 |_,_,n+1,.cons _ t=>aw.drop n t
def Fi:Option V->Option Value->Prop
 |some v,some u=>RelV v u
 |none,none=>True
 |_,_=>False
def KV{κ:Type}:List (κ×V)->List (κ×Value)->Prop:=Paired λ(p:κ×V)(q:κ×Value)=>p.1=q.1/\RelV p.2 q.2
def kV:Key->V
 |.inl i=>.int i
 |.inr x=>.str x
inductive HO where
 |lst (xs:List V)
 |tup (xs:List V)
 |dK (dG:List (Key×V))|dT (dG:List (List Key×V))
 |set (S:Int->Bool) (n:Nat)
 |ins (C dx:Addr) (fs:List (Str×V))
 |own (x:Addr)
 |xd (fs:List (Str×V))
 |met (f x:Addr)
 |O9 (lo hi:Int)
 |vo (o:Obj) (u:HO)
 |BS (ps:Array Value)
 |ext (φ:Heap->Prop)
abbrev Hp:=Addr->Option HO
def upd(H:Hp)(a:Addr)(o:HO):Hp:=λb=>if b=a then some o else H b
theorem aN{H:Hp}{a:Addr}{o:HO}:upd H a o a=some o:=by unfold upd;rw[W0 rfl]
theorem aJ{H:Hp}{a b:Addr}{o:HO}(h:b≠a):upd H a o b=H b:=by unfold upd;rw[WZ h]
theorem aZ{H:Hp}{a b:Addr}{o:HO}(h:H a=some o)(h':H b=none):a≠b:=by intro e;subst e;rw[h]at h';cases h'
def mX(h:Heap)(a:Addr)(items:Array Value):Prop:=∃o,h.get? a=some o/\o.cls= .type "tuple"/\∃n,o.data= .seq items n/\o.dict=none/\o.slots=#[]
theorem mX.is{h:Heap}{a:Addr}{items:Array Value}:mX h a items->IsTup h a items
 |⟨o,a,b,n,c,_⟩=>⟨o,a,b,n,c⟩
theorem mX.new(h:Heap)(items:Array Value):mX (h.push {cls:=.type "tuple",data:=.seq items}) h.objs.size items:=⟨_,TQ _ rfl,rfl,_,rfl,rfl,rfl⟩
section
variable(P:Program)(w:World)
def bW(H:Hp)(h:Heap)(a:Addr):HO->Prop
 |.lst xs=>xs.length<=sizeLine/\∃(its:List Value)(n:Nat),aw xs its/\h.get? a=some {cls:=.type "list",data:=.seq its.toArray n}
 |.tup xs=>xs.length<=sizeLine/\∃its:List Value,aw xs its/\mX h a its.toArray
 |.dK dG=>dG.length<=sizeLine/\(a==sysModules)=false/\∃vs,KV dG vs/\h.DictOf (pI P w) a vs
 |.dT dG=>dG.length<=sizeLine/\(a==sysModules)=false/\∃xs:List (List Key×Addr×Value),
   Paired (λ(p:List Key×V)(q:List Key×Addr×Value)=>p.1=q.1/\H q.2.1=some (.tup (p.1.map kV))/\RelV p.2 q.2.2) dG xs/\
   ∃o es ep,h.get? a=some o/\o.ExactDict/\o.data= .dict es ep/\es.toList=xs.map (entryOfKey (tupleKind (pI P w)))/\(xs.map (·.1)).Nodup
 |.set S n=>h.SetOf (intKind P w) a S n
 |.ins C dx fs=>H dx=some (.own a)/\fs.length<=1000/\dx≠a/\h.get? a=some (PySem.W.instObj C dx)/\
   ∃mA,h.Ns1 dx mA/\(∀f,Fi (fs.lookup f) (mA f))/\PySem.Within mA (fs.map (·.1))
 |.own _=>∃o,h.get? a=some o
 |.xd fs=>∃mA,h.Ns1 a mA/\∀f,Fi (fs.lookup f) (mA f)
 |.O9 lo hi=>∃t u v,h.get? a=some {cls:=.type "range",data:=.fields #[.int lo t,.int hi u,.int 1 v]}
 |.vo o u=>h.get? a=some o/\bW H h a u
 |.BS ps=>h.get? a=some {cls:=.none,data:=.fields ps}
 |.met f x=>h.get? a=some (PySem.W.methodObj (.ref f) (.ref x))
 |.ext φ=>φ h/\(∃o,h.get? a=some o)/\∀h1 h2:Heap,φ h1->(∀o,h1.get? a=some o->h2.get? a=some o)->φ h2
def fi(H:Hp)(h:Heap):Prop:=∀a o,H a=some o->bW P w H h a o
end
section
variable{P:Program}{w:World}{H H':Hp}{h h':Heap}{a:Addr}{o:HO}
theorem bW.lt(x:bW P w H h a o):a<h.objs.size:=by
 cases o with
 |lst xs=>obtain⟨_,_,_,_,e⟩:=x;exact TV e
 |tup xs=>obtain⟨_,_,_,p⟩:=x;exact p.is.lt
 |dK dG=>obtain⟨_,_,_,_,o,_,_,e,_⟩:=x;exact TV e
 |dT dG=>obtain⟨_,_,_,_,o,_,_,e,_⟩:=x;exact TV e
 |set S n=>obtain⟨o,_,_,_,e,_⟩:=x;exact TV e
 |ins C dx fs=>obtain⟨_,_,_,e,_⟩:=x;exact TV e
 |own y=>obtain⟨_,e⟩:=x;exact TV e
 |xd fs=>obtain⟨_,⟨_,_,_,e,_⟩,_⟩:=x;exact TV e
 |O9 lo hi=>obtain⟨_,_,_,e⟩:=x;exact TV e
 |vo ob u=>obtain⟨e,_⟩:=x;exact TV e
 |BS ps=>exact TV (show h.get? a=some _ from x)
 |met f y=>exact TV (show h.get? a=some _ from x)
 |ext φ=>obtain⟨_,⟨_,e⟩,_⟩:=x;exact TV e
theorem Paired.KN{α β:Type}{F G:α->β->Prop}:∀{l₁:List α}{l₂:List β},Paired F l₁ l₂->(∀a b,F a b->G a b)->Paired G l₁ l₂
 |_,_,.nil,_=>.nil
 |_,_,.cons r t,f=>.cons (f _ _ r) (Paired.KN t f)
theorem bW.uF(x:bW P w H h a o)(k:∀b u,(b=a\/H b=some (.own a))->h.get? b=some u->h'.get? b=some u)
  (ho:∀b,H b=some (.own a)->H' b=some (.own a)) (ht:∀b xs,H b=some (.tup xs)->H' b=some (.tup xs)):bW P w H' h' a o:=by
 induction o with
 |lst xs=>obtain⟨z,its,n,r,e⟩:=x;exact⟨z,its,n,r,k _ _ (.inl rfl) e⟩
 |tup xs=>obtain⟨z,its,r,ob,e,c⟩:=x;exact⟨z,its,r,ob,k _ _ (.inl rfl) e,c⟩
 |dK dG=>obtain⟨z,y,vs,r,ob,es,ep,e,c⟩:=x;exact⟨z,y,vs,r,ob,es,ep,k _ _ (.inl rfl) e,c⟩
 |dT dG=>obtain⟨z,y,xs,r,ob,es,ep,e,c⟩:=x;exact⟨z,y,xs,Paired.KN r λp q z=>⟨z.1,ht _ _ z.2.1,z.2.2⟩,ob,es,ep,k _ _ (.inl rfl) e,c⟩
 |set S n=>obtain⟨ob,es,ep,t,e,c⟩:=x;exact⟨ob,es,ep,t,k _ _ (.inl rfl) e,c⟩
 |ins C dx fs=>obtain⟨d,z,ne,e,mA,⟨od,es,ep,e2,c⟩,r⟩:=x;exact⟨ho _ d,z,ne,k _ _ (.inl rfl) e,mA,⟨od,es,ep,k _ _ (.inr d) e2,c⟩,r⟩
 |own y=>obtain⟨ob,e⟩:=x;exact⟨ob,k _ _ (.inl rfl) e⟩
 |xd fs=>obtain⟨mA,⟨od,es,ep,e,c⟩,r⟩:=x;exact⟨mA,⟨od,es,ep,k _ _ (.inl rfl) e,c⟩,r⟩
 |O9 lo hi=>obtain⟨t,u,v,e⟩:=x;exact⟨t,u,v,k _ _ (.inl rfl) e⟩
 |vo ob u ih=>obtain⟨e,q⟩:=x;exact⟨k _ _ (.inl rfl) e,ih q⟩
 |BS ps=>have e:h.get? a=some {cls:=.none,data:=.fields ps}:=x;show h'.get? a=some {cls:=.none,data:=.fields ps};exact k a _ (.inl rfl) e
 |met f y=>have e:h.get? a=some (PySem.W.methodObj (.ref f) (.ref y)):=x;show h'.get? a=some (PySem.W.methodObj (.ref f) (.ref y));exact k a _ (.inl rfl) e
 |ext φ=>obtain⟨p,⟨o,e⟩,st⟩:=x;exact⟨st _ _ p λo q=>k _ _ (.inl rfl) q,⟨o,k _ _ (.inl rfl) e⟩,st⟩
theorem fi.lt(x:fi P w H h)(e:H a=some o):a<h.objs.size:=(x a o e).lt
theorem fi.fresh(x:fi P w H h)(e:h.objs.size<=a):H a=none:=by
 cases q:H a with
 |none=>rfl
 |some u=>exact absurd (Ub (x.lt q) e) (Wu _)
theorem fi.kept(x:fi P w H h)(k:∀b u,h.get? b=some u->h'.get? b=some u):fi P w H h':=λa o e=>
 (x a o e).uF (λb u _ q=>k b u q) (λ_ q=>q) λ_ _ q=>q
theorem fi.laid(x:fi P w H h)(k:∀b u,h.get? b=some u->h'.get? b=some u)(hp:h.objs.size<=a)(new:bW P w (upd H a o) h' a o):fi P w (upd H a o) h':=λb u e=>by
 have hn:=x.fresh hp;by_cases hb:b=a
 ·subst hb;rw[aN]at e;cases e;exact new
 ·rw[aJ hb]at e;exact(x b u e).uF (λc v _ q=>k c v q) (λc q=>by rw[aJ (aZ q hn)];exact q) λc xs q=>by rw[aJ (aZ q hn)];exact q
end
def Rd(H:Hp)(a:Addr)(u:HO):Prop:=H a=some u\/∃o,H a=some (.vo o u)
theorem Rd.ok{P:Program}{w:World}{H:Hp}{h:Heap}{a:Addr}{u:HO}(r:Rd H a u)(x:fi P w H h):bW P w H h a u:=by
 rcases r with r|⟨o,r⟩
 ·exact x a u r
 ·obtain⟨_,q⟩:=x a _ r;exact q
def Mo:Option HO->Prop
 |some (.lst _)=>True
 |some (.dK _)=>True
 |some (.dT _)=>True
 |some (.set _ _)=>True
 |some (.ins _ _ _)=>True
 |some (.ext _)=>True
 |_=>False
section
variable{P:Program}{w:World}{H:Hp}{h h':Heap}{x e:Addr}{o':HO}
theorem fi.write(ok:fi P w H h)(mu:Mo (H x))(he:e=x\/H e=some (.own x))(k:∀b u,b≠e->h.get? b=some u->h'.get? b=some u)(IV:∃u,h'.get? e=some u)
  (new:bW P w (upd H x o') h' x o'):fi P w (upd H x o') h':=λb u q=>by
 have KY:∀c y,H c=some (.own y)->c≠x:=λc y r z=>by subst z;rw[r]at mu;exact mu
 have OK:∀c xs,H c=some (.tup xs)->c≠x:=λc xs r z=>by subst z;rw[r]at mu;exact mu
 by_cases hb:b=x
 ·subst hb;rw[aN]at q;cases q;exact new
 ·rw[aJ hb]at q;by_cases hbe:b=e
  ·have q':H b=some (.own x):=by
    rcases he with z|z
    ·exact absurd (hbe.trans z) hb
    ·rw[hbe];exact z
   rw[q]at q';cases q';obtain⟨v,hv⟩:=IV;exact⟨v,by rw[hbe];exact hv⟩
  ·refine(ok b u q).uF (λc v hc r=>k c v ?_ r) (λc r=>by rw[aJ (KY c b r)];exact r) λc xs r=>by rw[aJ (OK c xs r)];exact r
   rcases hc with rfl|hc
   ·exact hbe
   ·rintro rfl;rcases he with z|z
    ·exact KY c b hc z
    ·rw[hc]at z;cases z;exact hb rfl
end
structure Un(fs ex:List Addr)(H H':Hp)(h h':Heap):Prop where
 keep:∀b o,h.get? b=some o->H b=none->b∉fs->b∉ex->h'.get? b=some o
 slot:∀b o,h.get? b=some o->H b=none->b∈fs->b∉ex->∃sl,h'.get? b=some {o with slots:=sl}
 free:∀b o,h.get? b=some o->H b=none->b∉ex->H' b=none
 there:∀b o,h.get? b=some o->b∉ex->∃o',h'.get? b=some o'
 tups:∀b xs,H b=some (.tup xs)->H' b=some (.tup xs)
 frzs:∀b o u,H b=some (.vo o u)->H' b=some (.vo o u)
 tbls:∀b ps,H b=some (.BS ps)->∃more,H' b=some (.BS (ps++more))
section
variable{fs ex:List Addr}{H H1 H2:Hp}{h h1 h2 h':Heap}{a x e:Addr}{o:HO}
theorem Un.any(u:Un fs ex H H1 h h1){b:Addr}{ob:Obj}(q:h.get? b=some ob)(n:H b=none)(hx:b∉ex):∃sl,h1.get? b=some {ob with slots:=sl}:=by
 by_cases hb:b∈fs
 ·exact u.slot b ob q n hb hx
 ·exact⟨ob.slots,u.keep b ob q n hb hx⟩
theorem Un.trans(a:Un fs ex H H1 h h1)(b:Un fs ex H1 H2 h1 h2):Un fs ex H H2 h h2 where
 keep:=λc ob q n hc hx=>b.keep c ob (a.keep c ob q n hc hx) (a.free c ob q n hx) hc hx
 slot:=λc ob q n hc hx=>by obtain⟨sl,e1⟩:=a.slot c ob q n hc hx;obtain⟨Pi,e2⟩:=b.slot c _ e1 (a.free c ob q n hx) hc hx;exact⟨Pi,e2⟩
 free:=λc ob q n hx=>by obtain⟨o',e1⟩:=a.there c ob q hx;exact b.free c o' e1 (a.free c ob q n hx) hx
 there:=λc ob q hx=>by obtain⟨o',e1⟩:=a.there c ob q hx;exact b.there c o' e1 hx
 tups:=λc xs q=>b.tups c xs (a.tups c xs q)
 frzs:=λc ob xs q=>b.frzs c ob xs (a.frzs c ob xs q)
 tbls:=λc ps q=>by obtain⟨m1,e1⟩:=a.tbls c ps q;obtain⟨m2,e2⟩:=b.tbls c _ e1;exact⟨m1++m2,by rw[e2,Array.append_assoc]⟩
theorem Un.kept(k:∀b u,h.get? b=some u->h'.get? b=some u):Un fs ex H H h h':=
 ⟨λb ob q _ _ _=>k b ob q,λb ob q _ _ _=>⟨ob.slots,k b ob q⟩,λ_ _ _ n _=>n,λb ob q _=>⟨ob,k b ob q⟩,λ_ _ q=>q,λ_ _ _ q=>q,λ_ ps q=>⟨#[],by rw[q];simp⟩⟩
theorem Un.refl:Un fs ex H H h h:=Un.kept λ_ _ q=>q
theorem Un.laid(k:∀b u,h.get? b=some u->h'.get? b=some u)(hp:h.objs.size<=a)(hn:H a=none):Un fs ex H (upd H a o) h h' where
 keep:=λb u q _ _ _=>k b u q
 slot:=λb u q _ _ _=>⟨u.slots,k b u q⟩
 free:=λb u q n _=>by rw[aJ (Um (Ub (TV q) hp))];exact n
 there:=λb u q _=>⟨u,k b u q⟩
 tups:=λb xs q=>by rw[aJ (aZ q hn)];exact q
 frzs:=λb u xs q=>by rw[aJ (aZ q hn)];exact q
 tbls:=λb ps q=>⟨#[],by rw[aJ (aZ q hn),q];simp⟩
theorem Un.write(mu:Mo (H x))(he:e=x\/H e=some (.own x))(k:∀b u,b≠e->h.get? b=some u->h'.get? b=some u)(IV:∃u,h'.get? e=some u):Un fs ex H (upd H x o) h h':=by
 have hx:∀b,H b=none->b≠x:=λb n z=>by subst z;rw[n]at mu;exact mu
 have hb:∀b,H b=none->b≠e:=λb n z=>by
  subst z;rcases he with r|r
  ·exact hx b n r
  ·rw[n]at r;cases r
 have hm:∀b u,H b=some u->¬Mo (some u)->b≠x:=λb u q nm z=>by subst z;rw[q]at mu;exact nm mu
 refine⟨λb u q n _ _=>k b u (hb b n) q,λb u q n _ _=>⟨u.slots,k b u (hb b n) q⟩,λb u q n _=>by rw[aJ (hx b n)];exact n,λb u q _=>?_,
  λb xs q=>by rw[aJ (hm b _ q λz=>z)];exact q,λb u xs q=>by rw[aJ (hm b _ q λz=>z)];exact q,λb ps q=>⟨#[],by rw[aJ (hm b _ q λz=>z),q];simp⟩⟩
 by_cases hbe:b=e
 ·subst hbe;exact IV
 ·exact⟨u,k b u hbe q⟩
end
def M1(h:Heap)(H:Hp):List Addr:=(List.range h.objs.size).filter λa=>(H a).isSome
def pv(h:Heap)(H:Hp):Heap:=PySem.W.hideAll h (M1 h H)
theorem xy(h:Heap)(H:Hp):(pv h H).objs.size=h.objs.size:=PySem.W.hideAll_size _ _
theorem zT{h:Heap}{H:Hp}{b:Addr}{o:Obj}(e:h.get? b=some o)(n:H b=none):(pv h H).get? b=some o:=
 PySem.W.hideAll_get _ e λhm=>by have q:(H b).isSome=true:=(VY.mp hm).2;rw[n]at q;simp at q
theorem Da{h:Heap}{H:Hp}{b:Addr}{o:Obj}(e:(pv h H).get? b=some o):h.get? b=some o/\H b=none:=by
 have e':h.get? b=some o:=PySem.W.of_hideAll (M1 h H) e;refine⟨e',?_⟩;cases q:H b with
 |none=>rfl
 |some x=>have hm:b∈M1 h H:=VY.mpr ⟨UE.mpr (TV e'),by simp[q]⟩;have z:(pv h H).get? b=none:=PySem.W.hideAll_none (M1 h H) hm;rw[z]at e;cases e
def B2(g h:Heap)(L:Addr):List (Addr×Obj):=(List.range h.objs.size).filterMap λa=>if a=L\/(g.get? a).isSome=true then none else(h.get? a).map λo=>(a,o)
def rest(g h:Heap)(L d:Addr):List (Addr×Obj):=(B2 g h L).filter λp=>decide (p.1≠d)
end L2
namespace L2
structure Mod(K:PySem.W.Frag)(mg:Str->Option Value)(base:Heap):Prop where
 GB:K.In base
 glob:base.Ns mainGlobals mg
 blt:∃mb,base.Ns builtinsNs mb/\∀x:Str,x≠"__name__"->mb x=bootBuiltins x
 nolimit:base.NoLimit
structure Cx where
 prog:Program
 w:World
 K:PySem.W.Frag
 mg:Str->Option Value
 base:Heap
 A:Around
 N:List Str
 s₀:Shared
 H₀:Hp
 env:Env
 outer:List Env
 stack:List Env
 ex:List Addr
 fn:Str->Bool
 calm:Bool
 pn:List (Addr×Obj)
 xe:Value->Shared->Prop
def kC(l:List Env):List Addr:=l.filterMap (·.frame)
abbrev Cx.fs(X:Cx):List Addr:=kC X.outer
def Jl(sc:Scope)(x:Str):Prop:=sc.names.lookup x=some .local\/sc.names.lookup x=some .cell\/sc.names.lookup x=some .free
def Loc(sc:Scope)(x:Str):Prop:=sc.names.lookup x=some .local\/sc.names.lookup x=some .cell
def Look(env:Env)(h:Heap)(m:Str->Option Value)(x:Str)(u:Value):Prop:=
 (env.kindOf x=some .local/\m x=some u)\/((env.kindOf x=some .cell\/env.kindOf x=some .free)/\∃c,env.cells.lookup x=some c/\h.IsCell c (some u))
structure Cx.Ok(X:Cx):Prop where
 mod:Mod X.K X.mg X.base
 kind:X.env.scope.kind= .function
 glob:X.env.globals=mainGlobals
 blt:X.env.builtins=builtinsNs
 above:X.s₀.heap.objs.size<=X.env.locals
 inj:∀x y c,X.env.cells.lookup x=some c->X.env.cells.lookup y=some c->x=y
 has:∀x,(X.env.kindOf x=some .cell\/X.env.kindOf x=some .free)->∃c,X.env.cells.lookup x=some c
 FH:∀x c,X.fn x=true->X.env.cells.lookup x=some c->X.s₀.heap.objs.size<=c
 hd:X.calm=true->X.A.handled=none
 frames:X.A.frames=some X.stack
 MX:X.stack=X.outer\/(X.stack=X.env::X.outer/\X.env.frame=some X.env.locals)
 JN:∀b∈X.ex,b≠X.env.locals/\∀x c,X.env.cells.lookup x=some c->c≠b
 bs:∀b o,X.base.get? b=some o->X.s₀.heap.get? b=some o/\X.H₀ b=none
 En:X.base.objs.size<=X.s₀.heap.objs.size
 uh:∀b o,X.base.get? b=some o->b∉X.ex
 xl:∀b∈X.ex,b∉X.fs
 lQ:X.s₀.heap.FunFrames X.base X.outer
 IQ:∀b∈X.fs,X.H₀ b=none
structure Inv(X:Cx)(pins:List (Addr×Obj))(σ:List (Option V))(H:Hp)(s:Shared):Prop where
 ok:X.Ok
 os:s.os=X.s₀.os
 bare:AllBare s.gens
 base:Un X.fs X.ex X.H₀ H X.s₀.heap s.heap
 loc:∃m,s.heap.Ns X.env.locals m/\∀(i:Nat)(x:Str)(v:V),X.N[i]?=some x->σ[i]?=some (some v)->Jl X.env.scope x->∃u,RelV v u/\Look X.env s.heap m x u
 cell:∀x c,X.env.cells.lookup x=some c->∃v,s.heap.IsCell c v
 free:H X.env.locals=none
 fm:∀x c,X.env.cells.lookup x=some c->H c=none
 pin:∀p∈X.pn++pins,s.heap.get? p.1=some p.2/\H p.1=none/\p.1≠X.env.locals/\p.1∉X.fs/\∀v,p.2.data≠ .cell v
 hok:fi X.prog X.w H s.heap
 len:σ.length=X.N.length
section
variable{X:Cx}{pins:List (Addr×Obj)}{σ:List (Option V)}{H H':Hp}{s:Shared}{h':Heap}
theorem Cx.Ok.OG(ok:X.Ok){b:Addr}{o:Obj}(e:X.base.get? b=some o):b∉X.fs:=λhb=>by have:=(ok.lQ.mem hb).1;rw[e]at this;cases this
theorem Inv.bs(I:Inv X pins σ H s):∀b o,X.base.get? b=some o->s.heap.get? b=some o/\H b=none:=λb o e=>
 ⟨I.base.keep b o (I.ok.bs b o e).1 (I.ok.bs b o e).2 (I.ok.OG e) (I.ok.uh b o e),I.base.free b o (I.ok.bs b o e).1 (I.ok.bs b o e).2 (I.ok.uh b o e)⟩
theorem Inv.bk(I:Inv X pins σ H s):∀b o,X.base.get? b=some o->s.heap.get? b=some o:=λb o e=>(I.bs b o e).1
theorem Inv.mod(I:Inv X pins σ H s):Mod X.K X.mg X.base:=I.ok.mod
theorem Inv.qX(I:Inv X pins σ H s):X.K.In s.heap:=I.ok.mod.GB.keeps I.bk
theorem Inv.fr(I:Inv X pins σ H s):∃m,Fr X.base X.env.locals s.heap m:=
 let ⟨m,hn,_⟩:=I.loc
 ⟨m,hn,I.bk,TX I.ok.En I.ok.above⟩
theorem Inv.lt(I:Inv X pins σ H s):X.env.locals<s.heap.objs.size:=let ⟨_,hn,_⟩:=I.loc;hn.lt
theorem Inv.sz(I:Inv X pins σ H s):X.s₀.heap.objs.size<=s.heap.objs.size:=TX I.ok.above (Ws I.lt)
theorem Inv.OJ(I:Inv X pins σ H s){a:Addr}(h:s.heap.objs.size<=a):a∉X.fs:=λhb=>by obtain⟨_,o,ho,_⟩:=I.ok.lQ.mem hb;exact absurd (Ub (TV ho) (TX I.sz h)) (Wu _)
theorem Inv.FJ(I:Inv X pins σ H s):∀x c,X.env.cells.lookup x=some c->c≠X.env.locals:=λx c e z=>by obtain⟨v,o,ho,hd⟩:=I.cell x c e;obtain⟨m,⟨o',es,ep,CC,pq,_⟩,_⟩:=I.loc;rw[z,CC]at ho;cases ho;rw[pq]at hd;cases hd
theorem Inv.lQ(I:Inv X pins σ H s):s.heap.FunFrames X.base X.outer:=by
 have all:∀(l:List Env),(∀b∈kC l,b∈X.fs)->X.s₀.heap.FunFrames X.base l->s.heap.FunFrames X.base l:=by
  intro l
  induction l with
  |nil=>intro _ _;trivial
  |cons env r ih=>
   intro hs hl;obtain⟨hk,⟨L,o,hf,hn,ho,hd⟩,hr⟩:=hl;have hL:L∈X.fs:=hs L (by unfold kC;rw[Vx,hf];exact TN);obtain⟨sl,e⟩:=I.base.slot L o ho (I.ok.IQ L hL) hL λz=>I.ok.xl L z hL
   exact⟨hk,⟨L,_,hf,hn,e,hd⟩,ih (λb hb=>hs b (by unfold kC;rw[Vx,hf];exact TK _ hb)) hr⟩
 exact all X.outer (λ_ hb=>hb) I.ok.lQ
theorem Inv.stack(I:Inv X pins σ H s):s.heap.FunFrames X.base X.stack:=by
 rcases I.ok.MX with e|⟨e,hf⟩
 ·rw[e];exact I.lQ
 ·rw[e];obtain⟨m,hn,_⟩:=I.loc;refine .cons (by rw[I.ok.kind];decide) hf hn ?_ I.lQ;exact Heap.get?_none_of_le (TX I.ok.En I.ok.above)
theorem Inv.qe(I:Inv X pins σ H s):∀b∈kC X.stack,b∈X.env.locals::X.fs:=λb hb=>by
 rcases I.ok.MX with e|⟨e,hf⟩
 ·rw[e]at hb;exact TK _ hb
 ·rw[e]at hb;unfold kC at hb;rw[Vx,hf]at hb;exact hb
theorem Inv.wC(I:Inv X pins σ H s):∀b∈kC X.stack,H b=none:=λb hb=>by
 rcases TY.mp (I.qe b hb)with e|hb
 ·rw[e];exact I.free
 ·obtain⟨_,o,ho,_⟩:=I.ok.lQ.mem hb;exact I.base.free b o ho (I.ok.IQ b hb) λz=>I.ok.xl b z hb
theorem Inv.step{g':Array GenState}{t':Nat}{d':Drawn}{ch:List Addr}(I:Inv X pins σ H s)
  (BF:∀b∈ch,(b∈X.ex\/X.s₀.heap.objs.size<=b)/\b≠X.env.locals/\(∀x c,X.env.cells.lookup x=some c->c≠b)/\∀p∈X.pn++pins,p.1≠b)
  (keep:∀b o,b≠X.env.locals->b∉X.fs->b∉ch->s.heap.get? b=some o->H b=none->h'.get? b=some o)
  (slot:∀b o,b≠X.env.locals->b∈X.fs->b∉ch->s.heap.get? b=some o->H b=none->∃sl,h'.get? b=some {o with slots:=sl}) (free:∀b o,b∉ch->s.heap.get? b=some o->H b=none->H' b=none)
  (there:∀b o,b∉ch->s.heap.get? b=some o->∃o',h'.get? b=some o')
  (tups:∀b xs,H b=some (.tup xs)->H' b=some (.tup xs)) (frzs:∀b o u,H b=some (.vo o u)->H' b=some (.vo o u)) (tbls:∀b ps,H b=some (.BS ps)->∃more,H' b=some (.BS (ps++more)))
  (ns:∀m,s.heap.Ns X.env.locals m->h'.Ns X.env.locals m) (hok:fi X.prog X.w H' h') (hg:AllBare g'):
  Inv X pins σ H' {s with heap:=h',gens:=g',drawn:=d',toks:=t'}:=by
 have QB:∀b o,X.s₀.heap.get? b=some o->b≠X.env.locals:=λb o e=>Um (Ub (TV e) I.ok.above)
 have MS:∀b o,X.s₀.heap.get? b=some o->b∉X.ex->b∉ch:=λb o e hx hb=>by
  rcases (BF b hb).1 with z|z
  ·exact hx z
  ·exact absurd (Ub (TV e) z) (Wu _)
 have cellK:∀x c,X.env.cells.lookup x=some c->∀v,s.heap.IsCell c v->h'.IsCell c v:=λx c e v⟨o,ho,hd⟩=>by
  have KP:c∉ch:=λz=>(BF c z).2.2.1 x c e rfl
  by_cases hc:c∈X.fs
  ·obtain⟨sl,q⟩:=slot c o (I.FJ x c e) hc KP ho (I.fm x c e);exact⟨_,q,hd⟩
  ·exact⟨o,keep c o (I.FJ x c e) hc KP ho (I.fm x c e),hd⟩
 refine⟨I.ok,I.os,hg,⟨λb o e n hb hx=>?_,λb o e n hb hx=>?_,λb o e n hx=>?_,λb o e hx=>?_,λb xs e=>tups b xs (I.base.tups b xs e),λb o xs e=>frzs b o xs (I.base.frzs b o xs e),λb ps e=>?_⟩,?_,λx c e=>?_,?_,λx c e=>?_,λp hp=>?_,hok,I.len⟩
 ·exact keep b o (QB b o e) hb (MS b o e hx) (I.base.keep b o e n hb hx) (I.base.free b o e n hx)
 ·obtain⟨sl,e1⟩:=I.base.slot b o e n hb hx;obtain⟨Pi,e2⟩:=slot b _ (QB b o e) hb (MS b o e hx) e1 (I.base.free b o e n hx);exact⟨Pi,e2⟩
 ·obtain⟨o',e1⟩:=I.base.there b o e hx;exact free b o' (MS b o e hx) e1 (I.base.free b o e n hx)
 ·obtain⟨o',e1⟩:=I.base.there b o e hx;exact there b o' (MS b o e hx) e1
 ·obtain⟨m1,e1⟩:=I.base.tbls b ps e;obtain⟨m2,e2⟩:=tbls b _ e1;exact⟨m1++m2,by rw[e2,Array.append_assoc]⟩
 ·obtain⟨m,hn,hl⟩:=I.loc;refine⟨m,ns m hn,λi x v e1 e2 e3=>?_⟩;obtain⟨u,r,l⟩:=hl i x v e1 e2 e3;refine⟨u,r,?_⟩;rcases l with l|⟨k,c,e,z⟩
  ·exact .inl l
  ·exact .inr ⟨k,c,e,cellK x c e _ z⟩
 ·obtain⟨v,z⟩:=I.cell x c e;exact⟨v,cellK x c e v z⟩
 ·obtain⟨m,⟨o,_,_,ho,_⟩,_⟩:=I.loc;exact free _ o (λz=>(BF _ z).2.1 rfl) ho I.free
 ·obtain⟨v,o,ho,hd⟩:=I.cell x c e;exact free c o (λz=>(BF c z).2.2.1 x c e rfl) ho (I.fm x c e)
 ·obtain⟨e,n,ne,nf,d⟩:=I.pin p hp;have KP:p.1∉ch:=λz=>(BF p.1 z).2.2.2 p hp rfl
  exact⟨keep p.1 p.2 ne nf KP e n,free p.1 p.2 KP e n,ne,nf,d⟩
theorem Inv.un{t':Nat}(I:Inv X pins σ H s)(u:Un X.fs [] H H' s.heap h')(hok:fi X.prog X.w H' h'):Inv X pins σ H' {s with heap:=h',toks:=t'}:=by
 obtain⟨m,⟨o,es,ep,ho,r⟩,_⟩:=id I.loc;obtain⟨sl,hL⟩:=u.any ho I.free ∅;exact I.step (g':=s.gens) (d':=s.drawn) (ch:=[]) (λ_ z=>nomatch z) (λb o _ hb _ e n=>u.keep b o e n hb ∅) (λb o _ hb _ e n=>u.slot b o e n hb ∅) (λb o _ e n=>u.free b o e n ∅) (λb o _ e=>u.there b o e ∅) u.tups u.frzs u.tbls (λm' hm=>by
  obtain⟨o',iG,NI,CC,r'⟩:=hm;rw[ho]at CC;cases CC;exact⟨_,iG,NI,hL,r'⟩) hok I.bare
theorem Inv.call{g':Array GenState}{t':Nat}{d':Drawn}{ch:List Addr}(I:Inv X pins σ H s)(u:Un (kC X.stack) ch H H' s.heap h')(hok:fi X.prog X.w H' h')(hg:AllBare g')
  (BF:∀b∈ch,(b∈X.ex\/X.s₀.heap.objs.size<=b)/\b≠X.env.locals/\(∀x c,X.env.cells.lookup x=some c->c≠b)/\∀p∈X.pn++pins,p.1≠b):
  Inv X pins σ H' {s with heap:=h',gens:=g',drawn:=d',toks:=t'}:=by
 obtain⟨m,⟨o,es,ep,ho,r⟩,_⟩:=id I.loc;obtain⟨sl,hL⟩:=u.any ho I.free λz=>(BF _ z).2.1 rfl
 exact I.step (ch:=ch) BF (λb o hL hb hc e n=>u.keep b o e n (λz=>(TY.mp (I.qe b z)).elim hL hb) hc) (λb o _ _ hc e n=>u.any e n hc) (λb o hc e n=>u.free b o e n hc) (λb o hc e=>u.there b o e hc) u.tups u.frzs u.tbls (λm' hm=>by
  obtain⟨o',iG,NI,CC,r'⟩:=hm;rw[ho]at CC;cases CC;exact⟨_,iG,NI,hL,r'⟩) hok hg
theorem Inv.turned{t':Nat}{it:Addr}(I:Inv X pins σ H s)(k:∀b o,b≠it->s.heap.get? b=some o->h'.get? b=some o)(hn:H it=none)(hL:it≠X.env.locals)
  (h1:it∈X.ex\/X.s₀.heap.objs.size<=it) (h2:∀x c,X.env.cells.lookup x=some c->c≠it) (h3:∀p∈X.pn++pins,p.1≠it):Inv X pins σ H {s with heap:=h',toks:=t'}:=by
 have QC:∀b u,H b=some u->b≠it:=λb u e z=>by rw[z,hn]at e;cases e
 refine I.step (g':=s.gens) (d':=s.drawn) (ch:=[it]) (λb hb=>?_) (λb o _ _ hc e _=>k b o (λz=>hc (by simp[z])) e) (λb o _ _ hc e _=>⟨o.slots,k b o (λz=>hc (by simp[z])) e⟩) (λ_ _ _ _ n=>n)
  (λb o hc e=>⟨o,k b o (λz=>hc (by simp[z])) e⟩) (λ_ _ e=>e) (λ_ _ _ e=>e) (λb ps e=>⟨#[],by rw[e];simp⟩) (λm hm=>?_) (λb u e=>?_) I.bare
 ·have e:b=it:=by simpa using hb
  subst e;exact⟨h1,hL,h2,h3⟩
 ·obtain⟨o,es,ep,ho,r⟩:=hm;exact⟨o,es,ep,k _ o (WH hL) ho,r⟩
 ·refine(I.hok b u e).uF (λc v hc q=>k c v ?_ q) (λ_ q=>q) λ_ _ q=>q
  rcases hc with z|z
  ·rw[z];exact QC b u e
  ·exact QC c _ z
theorem Inv.tok(I:Inv X pins σ H s)(t:Nat):Inv X pins σ H {s with toks:=t}:=I.un (h':=s.heap) (t':=t) Un.refl I.hok
theorem Inv.kept{t':Nat}(I:Inv X pins σ H s)(k:∀b u,s.heap.get? b=some u->h'.get? b=some u):Inv X pins σ H {s with heap:=h',toks:=t'}:=I.un (Un.kept k) (I.hok.kept k)
theorem Inv.laid{a:Addr}{o:HO}{t':Nat}(I:Inv X pins σ H s)(k:∀b u,s.heap.get? b=some u->h'.get? b=some u)(hp:s.heap.objs.size<=a)(new:bW X.prog X.w (upd H a o) h' a o):
  Inv X pins σ (upd H a o) {s with heap:=h',toks:=t'}:=I.un (Un.laid k hp (I.hok.fresh hp)) (I.hok.laid k hp new)
theorem Inv.write{x e:Addr}{o:HO}{t':Nat}(I:Inv X pins σ H s)(mu:Mo (H x))(he:e=x\/H e=some (.own x))(k:∀b u,b≠e->s.heap.get? b=some u->h'.get? b=some u)(IV:∃u,h'.get? e=some u)
  (new:bW X.prog X.w (upd H x o) h' x o):Inv X pins σ (upd H x o) {s with heap:=h',toks:=t'}:=I.un (Un.write mu he k IV) (I.hok.write mu he k IV new)
theorem Inv.weak{σ':List (Option V)}(I:Inv X pins σ H s)(hl:σ'.length=σ.length)(w:∀(i:Nat)v,σ'[i]?=some (some v)->σ[i]?=some (some v)):Inv X pins σ' H s:=
 ⟨I.ok,I.os,I.bare,I.base,let ⟨m,hn,Kk⟩:=I.loc;⟨m,hn,λi x v e1 e2 e3=>Kk i x v e1 (w i v e2) e3⟩,I.cell,I.free,I.fm,I.pin,I.hok,hl.trans I.len⟩
theorem Inv.vX{EV:List (Addr×Obj)}(I:Inv X pins σ H s)(h:∀p∈EV,s.heap.get? p.1=some p.2/\H p.1=none/\p.1≠X.env.locals/\p.1∉X.fs/\∀v,p.2.data≠ .cell v):Inv X EV σ H s:=
 ⟨I.ok,I.os,I.bare,I.base,I.loc,I.cell,I.free,I.fm,λp hp=>(Uc.mp hp).elim (λz=>I.pin p (VX _ z)) (h p),I.hok,I.len⟩
theorem jq{N:List Str}(hN:N.Nodup){i j:Nat}{x:Str}(a:N[i]?=some x)(b:N[j]?=some x):i=j:=by obtain⟨h1,e1⟩:=TJ.mp a;obtain⟨h2,e2⟩:=TJ.mp b;exact(List.getElem_inj hN).mp (e1.trans e2.symm)
theorem ou{M:Model}{A:Around}{E:Value->Shared->Prop}{i:Nat}{x:Str}{v:V}{u:Value}{Q:Unit->Shared->Prop}(I:Inv X pins σ H s)(hN:X.N.Nodup)(hi:X.N[i]?=some x)(hx:Loc X.env.scope x)(r:RelV v u)
  (h:∀s',Inv X pins (σ.set i (some v)) H s'->(∃a,Heap.SameBut a s.heap s'.heap/\(a=X.env.locals\/X.env.cells.lookup x=some a))->Q .unit s') (hf:X.fn x=true\/X.env.scope.names.lookup x=some .local:=by first|exact .inl rfl|exact .inr rfl|assumption):wpAny M A (storeName X.env x u) Q E s:=by
 obtain⟨m,hn,hl⟩:=id I.loc;have N7:(X.env.scope.kind== .class||(X.env.scope.kind== .module&&X.env.locals != X.env.globals))=false:=by rw[I.ok.kind];rfl
 have hiσ:i<σ.length:=by rw[I.len];exact(TJ.mp hi).1
 have FJ:=I.FJ;have tracked:∀{a:Addr}{h':Heap},(∃o,s.heap.get? a=some o/\H a=none)->Heap.SameBut a s.heap h'->fi X.prog X.w H h':=λ {a h'} ha hs b ob e=>by
  obtain⟨_,_,EH⟩:=ha;refine(I.hok b ob e).uF (λc w' hc q=>(hs.2 c ?_).trans q) (λ_ q=>q) λ_ _ q=>q
  rintro rfl;rcases hc with rfl|hc
  ·rw[EH]at e;cases e
  ·rw[EH]at hc;cases hc
 rcases hx with hk|hk
 ·refine wpAny_storeName_local hk hn (λh' RZ hs=>?_) N7;obtain⟨oL,_,_,MN,_⟩:=id hn;refine h _ ⟨I.ok,I.os,I.bare,⟨λb o e n hb hx=>?_,λb o e n hb hx=>?_,I.base.free,λb o e hx=>?_,I.base.tups,I.base.frzs,I.base.tbls⟩,⟨_,RZ,λj y v' e1 e2 e3=>?_⟩,λy c e=>?_,I.free,I.fm,λp hp=>?_,tracked ⟨oL,MN,I.free⟩ hs,by simpa using I.len⟩ ⟨_,hs,.inl rfl⟩
  ·exact(hs.2 b (Um (Ub (TV e) I.ok.above))).trans (I.base.keep b o e n hb hx)
  ·obtain⟨sl,e1⟩:=I.base.slot b o e n hb hx;exact⟨sl,(hs.2 b (Um (Ub (TV e) I.ok.above))).trans e1⟩
  ·obtain⟨o',e1⟩:=I.base.there b o e hx;exact⟨o',(hs.2 b (Um (Ub (TV e) I.ok.above))).trans e1⟩
  ·by_cases hj:j=i
   ·subst hj;rw[hi]at e1;cases e1;rw[UD hiσ]at e2;cases e2;exact⟨u,r,.inl ⟨hk,∅⟩⟩
   ·rw[T7 (WH hj)]at e2;obtain⟨u',r',q⟩:=hl j y v' e1 e2 e3;refine⟨u',r',?_⟩;rcases q with ⟨k,e⟩|⟨k,c,e,z⟩
    ·refine .inl ⟨k,?_⟩;have:y≠x:=λe=>hj (jq hN e1 (e▸hi))
     simp[this,e]
    ·exact .inr ⟨k,c,e,z.sameBut hs (FJ y c e)⟩
  ·obtain⟨w',z⟩:=I.cell y c e;exact⟨w',z.sameBut hs (FJ y c e)⟩
  ·obtain⟨e,n,ne,nf,d⟩:=I.pin p hp;exact⟨(hs.2 p.1 ne).trans e,n,ne,nf,d⟩
 ·have zS:X.fn x=true:=by
   rcases hf with z|z
   ·exact z
   ·rw[z]at hk;cases hk
  obtain⟨c,hc⟩:=I.ok.has x (.inl hk);obtain⟨w',z⟩:=I.cell x c hc;refine wpAny_storeName_cell I.ok.kind hk hc z (λh' ph hs=>?_);obtain⟨oc,Qo,Of⟩:=id z;refine h {s with heap:=h'} ⟨I.ok,I.os,I.bare,⟨λb o e n hb hx=>?_,λb o e n hb hx=>?_,I.base.free,λb o e hx=>?_,I.base.tups,I.base.frzs,I.base.tbls⟩,⟨m,hn.sameBut hs (WH (FJ x c hc)),λj y v' e1 e2 e3=>?_⟩,λy c' e=>?_,I.free,I.fm,λp hp=>?_,tracked ⟨oc,Qo,I.fm x c hc⟩ hs,by simpa using I.len⟩ ⟨c,hs,.inr hc⟩
  ·exact(hs.2 b (Um (Ub (TV e) (I.ok.FH x c zS hc)))).trans (I.base.keep b o e n hb hx)
  ·obtain⟨sl,e1⟩:=I.base.slot b o e n hb hx;exact⟨sl,(hs.2 b (Um (Ub (TV e) (I.ok.FH x c zS hc)))).trans e1⟩
  ·obtain⟨o',e1⟩:=I.base.there b o e hx;exact⟨o',(hs.2 b (Um (Ub (TV e) (I.ok.FH x c zS hc)))).trans e1⟩
  ·by_cases hj:j=i
   ·subst hj;rw[hi]at e1;cases e1;rw[UD hiσ]at e2;cases e2;exact⟨u,r,.inr ⟨.inl hk,c,hc,ph⟩⟩
   ·rw[T7 (WH hj)]at e2;obtain⟨u',r',q⟩:=hl j y v' e1 e2 e3;refine⟨u',r',?_⟩;rcases q with q|⟨k,c',e,z'⟩
    ·exact .inl q
    ·refine .inr ⟨k,c',e,z'.sameBut hs ?_⟩;rintro rfl;exact hj (jq hN e1 (I.ok.inj _ _ _ e hc▸hi))
  ·by_cases hcc:c'=c
   ·subst hcc;exact⟨_,ph⟩
   ·obtain⟨w2,z2⟩:=I.cell y c' e;exact⟨w2,z2.sameBut hs hcc⟩
  ·obtain⟨e,n,ne,nf,d⟩:=I.pin p hp;refine⟨(hs.2 p.1 ?_).trans e,n,ne,nf,d⟩;intro q;rw[q,Qo]at e;have q':oc=p.2:=WI e;exact d w' (by rw[<-q'];exact Of)
theorem jC{M:Model}{A:Around}{E:Value->Shared->Prop}{i:Nat}{x:Str}{v:V}{u:Value}{Q:Unit->Shared->Prop}(I:Inv X pins σ H s)(hN:X.N.Nodup)(hi:X.N[i]?=some x)(hx:Loc X.env.scope x)(r:RelV v u)
  (h:∀s',Inv X pins (σ.set i (some v)) H s'->Q .unit s') (hf:X.fn x=true\/X.env.scope.names.lookup x=some .local:=by first|exact .inl rfl|exact .inr rfl|assumption):wpAny M A (storeName X.env x u) Q E s:=
 ou I hN hi hx r (λs' I' _=>h s' I') hf
theorem Inv.Jx{s':Shared}{ch:List Addr}(I:Inv X pins σ H s)(ho:s'.os=s.os)(u:Un (kC X.stack) ch H H' s.heap s'.heap)(hok:fi X.prog X.w H' s'.heap)(hg:AllBare s'.gens)
  (BF:∀b∈ch,(b∈X.ex\/X.s₀.heap.objs.size<=b)/\b≠X.env.locals/\(∀x c,X.env.cells.lookup x=some c->c≠b)/\∀p∈X.pn++pins,p.1≠b):Inv X pins σ H' s':=by
 obtain⟨h',g',d',t',o'⟩:=s';have e:o'=s.os:=ho;subst e;exact I.call (g':=g') (t':=t') (d':=d') u hok hg BF
end
abbrev XK:=Value->Option Addr->Hp->Prop
abbrev St:=List (Option V)
abbrev VK:=V->Hp->Prop
abbrev TE:=St->Hp->VK->Prop
abbrev TT:=St->Hp->(Bool->Hp->Prop)->Prop
abbrev TA:=St->Hp->(List V->Hp->Prop)->Prop
structure Ends where
 nx:St->Hp->Prop
 rt:VK
 bk:St->Hp->Prop:=λ_ _=>False
 ct:St->Hp->Prop:=λ_ _=>False
abbrev TS:=Ends->St->Hp->Prop
inductive EP(X:Cx)(pins:List (Addr×Obj))(σ:St)(Q:VK)(u:Value)(s':Shared):Prop
 |mk (v:V) (H':Hp) (i:Inv X pins σ H' s') (r:RelV v u) (q:Q v H'):EP X pins σ Q u s'
inductive TP(X:Cx)(pins:List (Addr×Obj))(σ:St)(Q:Bool->Hp->Prop)(b:Bool)(s':Shared):Prop
 |mk (H':Hp) (i:Inv X pins σ H' s') (q:Q b H'):TP X pins σ Q b s'
inductive AP(X:Cx)(pins:List (Addr×Obj))(σ:St)(Q:List V->Hp->Prop)(us:List Value)(s':Shared):Prop
 |mk (vs:List V) (H':Hp) (i:Inv X pins σ H' s') (r:aw vs us) (q:Q vs H'):AP X pins σ Q us s'
def SP(X:Cx)(pins:List (Addr×Obj))(D:Ends)(f:Flow)(s':Shared):Prop:=
 match f with
 |.next=>∃σ' H',Inv X pins σ' H' s'/\D.nx σ' H'
 |.brk=>∃σ' H',Inv X pins σ' H' s'/\D.bk σ' H'
 |.cont=>∃σ' H',Inv X pins σ' H' s'/\D.ct σ' H'
 |.ret u=>∃v σ' H',Inv X pins σ' H' s'/\RelV v u/\D.rt v H'
def PE(X:Cx)(e:Expr)(t:TE):Prop:=
 ∀(pins:List (Addr×Obj))(s:Shared)(σ:St)(H:Hp)(Q:VK),Inv X pins σ H s->t σ H Q->wpAny (model X.prog X.w) X.A (eval e X.env) (EP X pins σ Q) X.xe s
def PT(X:Cx)(e:Expr)(t:TT):Prop:=
 ∀(pins:List (Addr×Obj))(s:Shared)(σ:St)(H:Hp)(Q:Bool->Hp->Prop),Inv X pins σ H s->t σ H Q->wpAny (model X.prog X.w) X.A (isTrue e X.env (eval e X.env)) (TP X pins σ Q) X.xe s
def PW(X:Cx)(e:Expr)(t:TT):Prop:=
 ∀(whole:Sem Value)(pins:List (Addr×Obj))(s:Shared)(σ:St)(H:Hp)(Q:Bool->Hp->Prop),Inv X pins σ H s->t σ H Q->wpAny (model X.prog X.w) X.A (isTrue e X.env whole) (TP X pins σ Q) X.xe s
theorem PW.pt{X:Cx}{e:Expr}{t:TT}(h:PW X e t):PT X e t:=h _
def PA(X:Cx)(es:List Expr)(t:TA):Prop:=
 ∀(pos:Pos)(pins:List (Addr×Obj))(s:Shared)(σ:St)(H:Hp)(Q:List V->Hp->Prop),Inv X pins σ H s->t σ H Q->wpAny (model X.prog X.w) X.A (spliced (backTo pos (starEach es X.env))) (AP X pins σ Q) X.xe s
def PS(X:Cx)(st:Stmt)(t:TS):Prop:=
 ∀(pins:List (Addr×Obj))(s:Shared)(σ:St)(H:Hp)(D:Ends),Inv X pins σ H s->t D σ H->wpAny (model X.prog X.w) X.A (exec st X.env) (SP X pins D) X.xe s
def sT(X:Cx)(st:List Stmt)(t:TS):Prop:=
 ∀(pins:List (Addr×Obj))(s:Shared)(σ:St)(H:Hp)(D:Ends),Inv X pins σ H s->t D σ H->wpAny (model X.prog X.w) X.A (execs st X.env) (SP X pins D) X.xe s
theorem bV{α:Type}{t:Sem α}{Q Q':α->Shared->Prop}{M:Model}{A:Around}{E:Value->Shared->Prop}{s:Shared}(h:wpAny M A t Q E s)(hQ:∀a s,Q a s->Q' a s):wpAny M A t Q' E s:=Xg h hQ λ_ _ x=>x
end L2
namespace L2
section
variable{X:Cx}
theorem bin{a b:Expr}{ta tb:TE}(ha:PE X a ta)(hb:PE X b tb){pins:List (Addr×Obj)}{s:Shared}{σ:St}{H:Hp}{R:V->V->Hp->Prop}(I:Inv X pins σ H s)(h:ta σ H λx H1=>tb σ H1 λy H2=>R x y H2)
  {α:Type} {Q:α->Shared->Prop} {f:Value->Value->Sem α}
  (hf:∀v u s2 x y H2,Inv X pins σ H2 s2->RelV x v->RelV y u->R x y H2->wpAny (model X.prog X.w) X.A (f v u) Q X.xe s2):
  wpAny (model X.prog X.w) X.A (eval a X.env) (λv s₁=>wpAny (model X.prog X.w) X.A (eval b X.env) (λu s₂=>wpAny (model X.prog X.w) X.A (f v u) Q X.xe s₂) X.xe s₁) X.xe s:=by
 refine bV (ha pins s σ H _ I h) λv s1⟨x,H1,I1,r1,q1⟩=>?_
 refine bV (hb pins s1 σ H1 _ I1 q1) λu s2⟨y,H2,I2,r2,q2⟩=>?_
 exact hf v u s2 x y H2 I2 r1 r2 q2
def qh(i:Nat):TE:=λσ H Q=>∃v,σ[i]?=some (some v)/\Q v H
def tC(v:V):TE:=λ_ H Q=>Q v H
theorem Az{i:Nat}{x:Str}{pos:Pos}(hN:X.N[i]?=some x)(hv:Jl X.env.scope x)(hd:(x==("__debug__":Str))=false:=by decide)(BE:(x==("__classdict__":Str))=false:=by decide):PE X (.Name x pos) (qh i):=by
 intro pins s σ H Q I h;obtain⟨v,e,h⟩:=h;obtain⟨m,hn,hl⟩:=I.loc;obtain⟨u,r,l⟩:=hl i x v hN e hv;have fin:EP X pins σ Q u s:=⟨v,H,I,r,h⟩;rcases l with ⟨hk,hm⟩|⟨hk,c,hc,EF⟩
 ·exact wpAny_Name (wpAny_loadName_local I.ok.kind hk hn hm fin) hd
 ·rcases hk with hk|hk
  ·exact wpAny_Name (wpAny_loadName_cell I.ok.kind hk hc EF fin) hd
  ·exact wpAny_Name (wpAny_loadName_free I.ok.kind hk hc EF fin BE) hd
theorem Hk{i j pos}:PE X (.Constant (.int i) j pos) (tC (.int i)):=λ_ _ _ H _ I h=>wpAny_Constant_int ⟨.int i,H,I.tok _,⟨_,rfl⟩,h⟩
theorem K9{b j pos}:PE X (.Constant (.bool b) j pos) (tC (.bl b)):=λ_ _ _ H _ I h=>Constant_bool ⟨.bl b,H,I,rfl,h⟩
theorem Hm{j pos}:PE X (.Constant .none j pos) (tC .bg):=λ_ _ _ H _ I h=>Constant_none ⟨.bg,H,I,rfl,h⟩
theorem Hq{x j pos}:PE X (.Constant (.str x) j pos) (tC (.str x)):=λ_ _ _ H _ I h=>Calls.Constant_str ⟨.str x,H,I.tok _,⟨_,rfl⟩,h⟩
def Gl(X:Cx)(x:Str):Prop:=X.env.kindOf x=some .globalImplicit
theorem vO{E:Value->Shared->Prop}{pins:List (Addr×Obj)}{s:Shared}{σ:St}{H:Hp}{x:Str}{u:Value}{pos:Pos}{Q:Value->Shared->Prop}(I:Inv X pins σ H s)(hg:Gl X x)(hm:X.mg x=some u)(h:Q u s)
  (hd:(x==("__debug__":Str))=false:=by decide):wpAny (model X.prog X.w) X.A (eval (.Name x pos) X.env) Q E s:=
 Calls.Name_function_global I.ok.kind hg (Calls.loadGlobal_global (by rw[I.ok.glob];exact I.mod.glob.keeps I.bk) hm h) hd
theorem jR{E:Value->Shared->Prop}{pins:List (Addr×Obj)}{s:Shared}{σ:St}{H:Hp}{x:Str}{u:Value}{pos:Pos}{Q:Value->Shared->Prop}(I:Inv X pins σ H s)(hg:Gl X x)(hm:X.mg x=none)(hv:bootBuiltins x=some u)(h:Q u s)
  (hn:x≠"__name__":=by decide) (hd:(x==("__debug__":Str))=false:=by decide):wpAny (model X.prog X.w) X.A (eval (.Name x pos) X.env) Q E s:=by
 obtain⟨mb,h1,h2⟩:=I.mod.blt;exact Calls.Name_function_global I.ok.kind hg (Calls.loadGlobal_builtin (by rw[I.ok.glob];exact I.mod.glob.keeps I.bk) hm (by rw[I.ok.blt];exact h1.keeps I.bk) ((h2 x hn).trans hv) h) hd
theorem Dr{x:Str}{v:V}{u:Value}{pos:Pos}(hg:Gl X x)(hm:X.mg x=some u)(r:RelV v u)(hd:(x==("__debug__":Str))=false:=by decide):PE X (.Name x pos) (tC v):=
 λ_ _ _ H _ I h=>vO I hg hm ⟨v,H,I,r,h⟩ hd
theorem Do{x:Str}{v:V}{u:Value}{pos:Pos}(hg:Gl X x)(hm:X.mg x=none)(hv:bootBuiltins x=some u)(r:RelV v u)(hn:x≠"__name__":=by decide)(hd:(x==("__debug__":Str))=false:=by decide):PE X (.Name x pos) (tC v):=
 λ_ _ _ H _ I h=>jR I hg hm hv ⟨v,H,I,r,h⟩ hn hd
variable{a b:Expr}{ta tb:TE}{pos:Pos}
def tB(t:TE):TT:=λσ H Q=>t σ H λx H1=>∃c,x= .bl c/\Q c H1
variable{tA MY:TT}{rest:List Expr}
def Pp(t u:TT):TT:=λσ H Q=>t σ H λc H1=>if c=true then u σ H1 Q else Q false H1
def SE(t u:TT):TT:=λσ H Q=>t σ H λc H1=>if c=true then Q true H1 else u σ H1 Q
def Pt(t:TT):TT:=λσ H Q=>t σ H λc H1=>Q (!c) H1
theorem DH(ha:PT X a tA):PW X (.BoolOp .And [a] pos) tA:=by
 intro wh pins s σ H Q I h;refine isTrue_and (bV (ha pins s σ H Q I h) λc s1 e=>?_);cases c with
 |true=>exact isTrue_and_nil e
 |false=>exact e
theorem HB(ha:PT X a tA):PW X (.BoolOp .Or [a] pos) tA:=by
 intro wh pins s σ H Q I h;refine isTrue_or (bV (ha pins s σ H Q I h) λc s1 e=>?_);cases c with
 |false=>exact isTrue_or_nil e
 |true=>exact e
theorem HA(ha:PT X a tA)(hb:PW X (.BoolOp .And (b::rest) pos) MY):PW X (.BoolOp .And (a::b::rest) pos) (Pp tA MY):=by
 intro wh pins s σ H Q I h;refine isTrue_and (bV (ha pins s σ H _ I h) λc s1⟨H1,I1,q1⟩=>?_);cases c with
 |true=>exact hb wh pins s1 σ H1 Q I1 q1
 |false=>exact⟨H1,I1,q1⟩
theorem Lj(ha:PT X a tA)(hb:PW X (.BoolOp .Or (b::rest) pos) MY):PW X (.BoolOp .Or (a::b::rest) pos) (SE tA MY):=by
 intro wh pins s σ H Q I h;refine isTrue_or (bV (ha pins s σ H _ I h) λc s1⟨H1,I1,q1⟩=>?_);cases c with
 |true=>exact⟨H1,I1,q1⟩
 |false=>exact hb wh pins s1 σ H1 Q I1 q1
theorem Hz(ha:PT X a tA):PT X (.UnaryOp .Not a pos) (Pt tA):=by intro pins s σ H Q I h;exact isTrue_not (bV (ha pins s σ H (λc H1=>Q (!c) H1) I h) λ_ _⟨H1,i,q⟩=>⟨H1,i,q⟩)
def LN(ta tb:TE):TE:=λσ H Q=>ta σ H λx H1=>∃c,x= .bl c/\if c=true then tb σ H1 Q else Q (.bl false) H1
def Pu(ta tb:TE):TE:=λσ H Q=>ta σ H λx H1=>∃c,x= .bl c/\if c=true then Q (.bl true) H1 else tb σ H1 Q
def LW(ta:TE):TE:=λσ H Q=>ta σ H λx H1=>∃c,x= .bl c/\Q (.bl (!c)) H1
theorem Ho{op}{t:TE}(h:PE X a t):PE X (.BoolOp op [a] pos) t:=λpins s σ H Q I hw=>BoolOp_one (h pins s σ H Q I hw)
theorem Hi(ha:PE X a ta)(hb:PE X (.BoolOp .And (b::rest) pos) tb):PE X (.BoolOp .And (a::b::rest) pos) (LN ta tb):=by
 intro pins s σ H Q I h;refine BoolOp_and (bV (ha pins s σ H _ I h) λv s1⟨x,H1,I1,r1,q1⟩=>?_);obtain⟨c,rfl,q1⟩:=q1;cases r1;refine Xp ?_;cases c with
 |true=>exact hb pins s1 σ H1 Q I1 q1
 |false=>exact⟨.bl false,H1,I1,rfl,q1⟩
theorem Ld(ha:PE X a ta)(hb:PE X (.BoolOp .Or (b::rest) pos) tb):PE X (.BoolOp .Or (a::b::rest) pos) (Pu ta tb):=by
 intro pins s σ H Q I h;refine BoolOp_or (bV (ha pins s σ H _ I h) λv s1⟨x,H1,I1,r1,q1⟩=>?_);obtain⟨c,rfl,q1⟩:=q1;cases r1;refine Xp ?_;cases c with
 |false=>exact hb pins s1 σ H1 Q I1 q1
 |true=>exact⟨.bl true,H1,I1,rfl,q1⟩
theorem Hn(ha:PE X a ta):PE X (.UnaryOp .Not a pos) (LW ta):=by intro pins s σ H Q I h;refine UnaryOp_ (bV (ha pins s σ H _ I h) λv s1⟨x,H1,I1,r1,q1⟩=>?_);obtain⟨c,rfl,q1⟩:=q1;cases r1;exact not_of (Xp ⟨.bl (!c),H1,I1,rfl,q1⟩)
end
end L2
namespace L2
def dF(K:PySem.W.Frag)(H:Hp)(a:Addr)(xs:List V):Prop:=
 Rd H a (.lst xs)\/
  ∃(o:Obj)(its:Array Value)(n:Nat),K.lookup a=some o/\o.cls= .type "list"/\o.dict=none/\o.data= .seq its n/\its.size<=sizeLine/\aw xs its.toList
def fj(K:PySem.W.Frag)(H:Hp)(a:Addr)(xs:List V):Prop:=
 Rd H a (.tup xs)\/
  ∃(o:Obj)(its:Array Value)(n:Nat),K.lookup a=some o/\o.cls= .type "tuple"/\o.data= .seq its n/\its.size<=sizeLine/\aw xs its.toList
def Nm:Value->Option V
 |.none=>some .bg
 |.bool b=>some (.bl b)
 |.int i _=>some (.int i)
 |.str x _=>some (.str x)
 |.bytes b _=>some (.FD b)
 |.float b _=>some (.BD b)
 |.ref a=>some (.ref a)
 |.type n=>some (.ty n)
 |_=>none
theorem RelV.abs{x:V}{u:Value}(r:RelV x u):Nm u=some x:=by
 cases x with
 |bg=>cases r;rfl
 |bl _=>cases r;rfl
 |int _=>obtain⟨t,rfl⟩:=r;rfl
 |str _=>obtain⟨t,rfl⟩:=r;rfl
 |FD _=>obtain⟨t,rfl⟩:=r;rfl
 |BD _=>obtain⟨t,rfl⟩:=r;rfl
 |ref _=>cases r;rfl
 |ty _=>cases r;rfl
theorem RelV.inj{x y:V}{u:Value}(r:RelV x u)(q:RelV y u):x=y:=WI (r.abs.symm.trans q.abs)
theorem aw.inj:∀{xs ys:List V}{us:List Value},aw xs us->aw ys us->xs=ys
 |_,_,_,.nil,.nil=>rfl
 |_,_,_,.cons r t,.cons r' t'=>by rw[r.inj r',aw.inj t t']
section
variable{X:Cx}{pins:List (Addr×Obj)}{σ:St}{H:Hp}{s:Shared}{a:Addr}{xs ys:List V}
theorem dF.of{K:PySem.W.Frag}(h:H a=some (.lst xs)):dF K H a xs:=.inl (.inl h)
theorem fj.of{K:PySem.W.Frag}(h:H a=some (.tup xs)):fj K H a xs:=.inl (.inl h)
theorem Inv.list(I:Inv X pins σ H s)(h:dF X.K H a xs):∃its:List Value,aw xs its/\PlainL s.heap a its.toArray/\xs.length<=sizeLine:=by
 rcases h with h|⟨o,its,n,hk,hc,hd,hs,hz,r⟩
 ·obtain⟨z,its,n,r,e⟩:=h.ok I.hok;exact⟨its,r,⟨_,n,e,rfl,rfl,rfl⟩,z⟩
 ·refine⟨its.toList,r,⟨o,n,I.qX a o hk,hc,hd,by simpa using hs⟩,?_⟩;have e:=r.length;simp only[Ua]at e
  lia
theorem Inv.tuple(I:Inv X pins σ H s)(h:fj X.K H a xs):∃its:List Value,aw xs its/\IsTup s.heap a its.toArray/\xs.length<=sizeLine:=by
 rcases h with h|⟨o,its,n,hk,hc,hs,hz,r⟩
 ·obtain⟨z,its,r,p⟩:=h.ok I.hok;exact⟨its,r,p.is,z⟩
 ·refine⟨its.toList,r,⟨o,I.qX a o hk,hc,n,by simpa using hs⟩,?_⟩;have e:=r.length;simp only[Ua]at e
  lia
theorem Inv.Ai(I:Inv X pins σ H s)(h:dF X.K H a xs)(h':dF X.K H a ys):xs=ys:=by
 obtain⟨its,r,⟨o,n,e,_,_,d⟩,_⟩:=I.list h;obtain⟨its',r',⟨o',n',e',_,_,d'⟩,_⟩:=I.list h';rw[e]at e';cases e';rw[d]at d';injection d' with d1 _;have:its=its':=by simpa using WW Array.toList d1
 subst this;exact r.inj r'
theorem Inv.yf(I:Inv X pins σ H s)(h:fj X.K H a xs)(h':fj X.K H a ys):xs=ys:=by
 obtain⟨its,r,⟨o,e,_,n,d⟩,_⟩:=I.tuple h;obtain⟨its',r',⟨o',e',_,n',d'⟩,_⟩:=I.tuple h';rw[e]at e';cases e';rw[d]at d';injection d' with d1 _;have:its=its':=by simpa using WW Array.toList d1
 subst this;exact r.inj r'
end
abbrev Cx.eQ(X:Cx)(E:Value->Shared->Prop):Cx:={X with xe:=E}
theorem Cx.Ok.eQ{X:Cx}(ok:X.Ok)(E:Value->Shared->Prop):(X.eQ E).Ok:=
 ⟨ok.mod,ok.kind,ok.glob,ok.blt,ok.above,ok.inj,ok.has,ok.FH,ok.hd,ok.frames,ok.MX,ok.JN,ok.bs,ok.En,ok.uh,ok.xl,ok.lQ,ok.IQ⟩
theorem Cx.Ok.g6{X:Cx}{E:Value->Shared->Prop}(ok:(X.eQ E).Ok):X.Ok:=
 ⟨ok.mod,ok.kind,ok.glob,ok.blt,ok.above,ok.inj,ok.has,ok.FH,ok.hd,ok.frames,ok.MX,ok.JN,ok.bs,ok.En,ok.uh,ok.xl,ok.lQ,ok.IQ⟩
section
variable{X:Cx}{pins:List (Addr×Obj)}{σ:St}{H:Hp}{s:Shared}{E:Value->Shared->Prop}
theorem Inv.eQ(I:Inv X pins σ H s)(E:Value->Shared->Prop):Inv (X.eQ E) pins σ H s:=⟨I.ok.eQ E,I.os,I.bare,I.base,I.loc,I.cell,I.free,I.fm,I.pin,I.hok,I.len⟩
theorem Inv.g6(I:Inv (X.eQ E) pins σ H s):Inv X pins σ H s:=⟨I.ok.g6,I.os,I.bare,I.base,I.loc,I.cell,I.free,I.fm,I.pin,I.hok,I.len⟩
theorem SP.g6{D:Ends}{f:Flow}{s':Shared}(h:SP (X.eQ E) pins D f s'):SP X pins D f s':=by
 cases f with
 |next=>obtain⟨σ',H',I,q⟩:=h;exact⟨σ',H',I.g6,q⟩
 |brk=>obtain⟨σ',H',I,q⟩:=h;exact⟨σ',H',I.g6,q⟩
 |cont=>obtain⟨σ',H',I,q⟩:=h;exact⟨σ',H',I.g6,q⟩
 |ret u=>obtain⟨v,σ',H',I,r,q⟩:=h;exact⟨v,σ',H',I.g6,r,q⟩
end
section
variable{X:Cx}{st:Stmt}{rest:List Stmt}{t u:TS}{e:Expr}{te:TE}{pos:Pos}
def Bd:TS:=λD σ H=>D.nx σ H
def L3(t u:TS):TS:=λD σ H=>t {D with nx:=u D} σ H
theorem DC:sT X [] Bd:=λ_ _ σ H _ I h=>wpAny_execs_nil ⟨σ,H,I,h⟩
theorem AI(h1:PS X st t)(h2:sT X rest u):sT X (st::rest) (L3 t u):=by
 intro pins s σ H D I h;refine wpAny_execs_cons (bV (h1 pins s σ H {D with nx:=u D} I h) λf s1 q=>?_);cases f with
 |next=>obtain⟨σ',H',I',q⟩:=q;exact h2 pins s1 σ' H' D I' q
 |ret v=>exact q
 |brk=>exact q
 |cont=>exact q
theorem DD(h1:PS X st t):sT X [st] t:=by
 intro pins s σ H D I h;refine wpAny_execs_cons (bV (h1 pins s σ H D I h) λf s1 q=>?_);cases f with
 |next=>exact wpAny_execs_nil q
 |ret v=>exact q
 |brk=>exact q
 |cont=>exact q
def Bc:TS:=λD σ H=>D.bk σ H
def E6:TS:=λD σ H=>D.ct σ H
theorem Dz:PS X (.Pass pos) Bd:=λ_ _ σ H _ I h=>wpAny_Pass ⟨σ,H,I,h⟩
theorem AF:PS X (.Break pos) Bc:=λ_ _ σ H _ I h=>wpAny_Break ⟨σ,H,I,h⟩
theorem rJ:PS X (.Continue pos) E6:=λ_ _ σ H _ I h=>wpAny_Continue ⟨σ,H,I,h⟩
theorem Inv.quiet{pins:List (Addr×Obj)}{σ:St}{H:Hp}{s:Shared}(I:Inv X pins σ H s):interactive X.env=false:=by simp[interactive,I.ok.kind]
def wG(te:TE):TS:=λD σ H=>te σ H λ_ H1=>D.nx σ H1
theorem pU(he:PE X e te)(hs:swapsWith e none pos.line X.env=pure false:=by rfl):PS X (.Expr e pos) (wG te):=by intro pins s σ H D I h;exact wpAny_Expr_any (bV (he pins s σ H _ I h) λv s1⟨x,H1,I1,r1,q1⟩=>⟨σ,H1,I1,q1⟩) I.quiet hs
def Im(te:TE):TS:=λD σ H=>te σ H D.rt
theorem uv(he:PE X e te):PS X (.Return (some e) pos) (Im te):=by intro pins s σ H D I h;exact wpAny_Return_some (bV (he pins s σ H _ I h) λv s1⟨x,H1,I1,r1,q1⟩=>⟨x,σ,H1,I1,r1,q1⟩)
def E7:TS:=λD _ H=>D.rt .bg H
theorem DA:PS X (.Return none pos) E7:=λ_ _ σ H _ I h=>wpAny_Return_none ⟨.bg,σ,H,I,rfl,h⟩
def LU(c:TT)(t u:TS):TS:=λD σ H=>c σ H λb H1=>if b=true then t D σ H1 else u D σ H1
theorem Lh{c:Expr}{a b:List Stmt}{tc:TT}(hc:PT X c tc)(ha:sT X a t)(hb:sT X b u):PS X (.If c a b pos) (LU tc t u):=by
 intro pins s σ H D I h;refine wpAny_If (bV (hc pins s σ H _ I h) λd s1⟨H1,I1,q1⟩=>?_);cases d with
 |true=>exact ha pins s1 σ H1 D I1 q1
 |false=>exact hb pins s1 σ H1 D I1 q1
end
abbrev TG:=V->St->Hp->(St->Hp->Prop)->Prop
abbrev wO:=List V->St->Hp->(St->Hp->Prop)->Prop
def PG(X:Cx)(target:Expr)(t:TG):Prop:=
 ∀(pins:List (Addr×Obj))(s:Shared)(σ:St)(H:Hp)(v:V)(u:Value)(Q:St->Hp->Prop),Inv X pins σ H s->RelV v u->t v σ H Q->
  wpAny (model X.prog X.w) X.A (assign target X.env u) (λ_ s'=>∃σ' H',Inv X pins σ' H' s'/\Q σ' H') X.xe s
def IJ(X:Cx)(ts:List Expr)(t:wO):Prop:=
 ∀(pins:List (Addr×Obj))(s:Shared)(σ:St)(H:Hp)(vs:List V)(us:List Value)(Q:St->Hp->Prop),Inv X pins σ H s->aw vs us->t vs σ H Q->
  wpAny (model X.prog X.w) X.A (assignInOrder ((assignEach ts X.env).map (·.2)) us) (λ_ s'=>∃σ' H',Inv X pins σ' H' s'/\Q σ' H') X.xe s
abbrev Fj:=V->V->V->Hp->(Hp->Prop)->Prop
def Ji(X:Cx)(t:Fj):Prop:=
 ∀(pins:List (Addr×Obj))(s:Shared)(σ:St)(H:Hp)(o i v:V)(ov iv u:Value)(Q:Hp->Prop),Inv X pins σ H s->RelV o ov->RelV i iv->RelV v u->t o i v H Q->
  wpAny (model X.prog X.w) X.A (setItem ov iv u) (λ_ s'=>∃H',Inv X pins σ H' s'/\Q H') X.xe s
section
variable{X:Cx}{pos:Pos}
def eR(i:Nat):TG:=λv σ H Q=>Q (σ.set i (some v)) H
theorem Ds{i:Nat}{x:Str}(hN:X.N.Nodup)(hi:X.N[i]?=some x)(hx:Loc X.env.scope x)(hf:X.fn x=true\/X.env.scope.names.lookup x=some .local:=by first|exact .inl rfl|exact .inr rfl|assumption):PG X (.Name x pos) (eR i):=by intro pins s σ H v u Q I r h;exact wpAny_assign_Name (jC I hN hi hx r (λs' I'=>⟨_,H,I',h⟩) hf)
def F4:wO:=λvs σ H Q=>vs=[]/\Q σ H
def zC(t:TG)(u:wO):wO:=λvs σ H Q=>∃v r,vs=v::r/\t v σ H λσ' H'=>u r σ' H' Q
theorem Dv:IJ X [] F4:=by intro pins s σ H vs us Q I r h;obtain⟨e,h⟩:=h;subst e;cases r;exact assignInOrder_nil ⟨σ,H,I,h⟩
theorem AB{e:Expr}{es:List Expr}{t:TG}{u:wO}(h1:PG X e t)(h2:IJ X es u)
  (hs:(assignEach (e::es) X.env).map (·.2)=assign e X.env::(assignEach es X.env).map (·.2):=by rfl):IJ X (e::es) (zC t u):=by
 intro pins s σ H vs us Q I r h;obtain⟨v,vr,e1,h⟩:=h;subst e1;cases r with
 |cons r rr=>rw[hs];refine assignInOrder_cons (bV (h1 pins s σ H _ _ _ I r h) λ_ s1⟨σ1,H1,I1,q1⟩=>?_);exact h2 pins s1 σ1 H1 _ _ Q I1 rr q1
def F5(K:PySem.W.Frag)(n:Nat)(t:wO):TG:=λv σ H Q=>∃a xs,v= .ref a/\fj K H a xs/\xs.length=n/\t xs σ H Q
theorem AA{es:List Expr}{k:Nat}{t:wO}{n:Nat}(hc:X.calm=true)(h:IJ X es t)
  (hn:(assignEach es X.env).length=n:=by rfl) (nS:(assignEach es X.env).findIdx? (·.1)=none:=by rfl):PG X (.Tuple es k pos) (F5 X.K n t):=by
 intro pins s σ H v u Q I r hw;obtain⟨a,xs,e1,hq,hl,hw⟩:=hw;subst e1;cases r;obtain⟨its,rv,ht,hz⟩:=I.tuple hq;refine assign_Tuple_tuple (I.ok.hd hc) ht (by simp[hn,<-hl,rv.length]) nS λh' hx=>?_
 have I1:Inv X pins σ H {s with heap:=h'}:=I.kept (t':=s.toks) λb o e=>hx b o (Um (TV e)) e
 exact h pins _ σ H xs _ Q I1 ‹rv› hw
def JQ(to ti:TE)(t:Fj):TG:=λv σ H Q=>to σ H λo H1=>ti σ H1 λi H2=>t o i v H2 λH3=>Q σ H3
theorem Hs{o i:Expr}{to ti:TE}{t:Fj}(ho:PE X o to)(hi:PE X i ti)(hs:Ji X t)
  (ha:∀v,assign (.Subscript o i pos) X.env v=(do
   let ov<-holding [v] (eval o X.env)
   let iv<-holding [v,ov] (eval i X.env)
   standAt pos
   holding [v,ov,iv] (setItem ov iv v)
   release [v,ov,iv] []):=by intro _;rfl):PG X (.Subscript o i pos) (JQ to ti t):=by
 intro pins s σ H v u Q I r h;rw[ha];refine Tv (Xf (bV (ho pins s σ H _ I h) λov s1⟨x,H1,I1,r1,q1⟩=>?_));refine Tv (Xf (bV (hi pins s1 σ H1 _ I1 q1) λiv s2⟨y,H2,I2,r2,q2⟩=>?_));refine Tv (Xo (Tv (Xf (bV (hs pins s2 σ H2 x y v ov iv u _ I2 r1 r2 r q2) λ_ s3⟨H3,I3,q3⟩=>?_))));exact wpAny_release ⟨σ,H3,I3,q3⟩
def nq(te:TE)(g:TG):TS:=λD σ H=>te σ H λx H1=>g x σ H1 D.nx
theorem uu{tg e:Expr}{te:TE}{g:TG}(he:PE X e te)(hg:PG X tg g)(hs:swapsWithSole [tg] e pos.line X.env=pure false:=by rfl)(hw:swappedStores [tg] e X.env=pure none:=by rfl)
  (h1:(assignEach [tg] X.env).map (·.2)=[assign tg X.env]:=by rfl):PS X (.Assign [tg] e pos) (nq te g):=by
 intro pins s σ H D I h;refine wpAny_Assign_stores (bV (he pins s σ H _ I h) λv s1⟨x,H1,I1,r1,q1⟩=>?_) hs hw;rw[h1];exact bV (hg pins s1 σ H1 x v _ I1 r1 q1) λ_ s2 q=>q
theorem uw{i:Nat}{x:Str}{e:Expr}{te:TE}{pos':Pos}(hN:X.N.Nodup)(hi:X.N[i]?=some x)(hx:Loc X.env.scope x)(he:PE X e te)(hs:swapsWith e (some (.Name x pos')) pos.line X.env=pure false:=by rfl)(hf:X.fn x=true\/X.env.scope.names.lookup x=some .local:=by first|exact .inl rfl|exact .inr rfl|assumption):
  PS X (.Assign [.Name x pos'] e pos) (nq te (eR i)):=by
 intro pins s σ H D I h;refine wpAny_Assign_Name (bV (he pins s σ H _ I h) λv s1⟨y,H1,I1,r1,q1⟩=>?_) hs;exact jC I1 hN hi hx r1 (λs2 I2=>⟨_,H1,I2,q1⟩) hf
def LY(i j:Nat)(ta:TA):TS:=λD σ H=>ta σ H λvs H1=>∃v w,vs=[v,w]/\D.nx ((σ.set i (some v)).set j (some w)) H1
theorem Hy{i j:Nat}{x y:Str}{a b:Expr}{ta:TA}{px py pt:Pos}{kt k2 pt2}(hc:X.calm=true)(hN:X.N.Nodup)(hi:X.N[i]?=some x)(hj:X.N[j]?=some y)(gp:i≠j)
  (hx:X.env.scope.names.lookup x=some .local) (hy:X.env.scope.names.lookup y=some .local) (ha:PA X [a,b] ta)
  (hw:swappedStores [.Tuple [.Name x px,.Name y py] kt pt] (.Tuple [a,b] k2 pt2) X.env=pure (some [x,y]))
  (hs:swapsWithSole [.Tuple [.Name x px,.Name y py] kt pt] (.Tuple [a,b] k2 pt2) pos.line X.env=pure false:=by rfl):
  PS X (.Assign [.Tuple [.Name x px,.Name y py] kt pt] (.Tuple [a,b] k2 pt2) pos) (LY i j ta):=by
 intro pins s σ H D I h;rw[exec_Assign_arm];refine Tv (Xo ?_);rw[hs];refine Tv (Tz ?_);rw[WZ ⋯];refine Tv (Tuple_ (bV (ha _ pins s σ H _ I h) λus s1⟨vs,H1,I1,r1,q1⟩=>?_));obtain⟨v,w,e1,q1⟩:=q1;subst e1;obtain⟨u1,u2,rfl,rv,Lo⟩:∃u1 u2,us=[u1,u2]/\RelV v u1/\RelV w u2:=by
  cases r1 with
  |cons p q=>
   cases q with
   |cons p' q'=>cases q';exact⟨_,_,rfl,p,p'⟩
 refine Xh ?_ (by show 2<=sizeLine;decide);have I2:Inv X pins σ H1 {s1 with heap:=s1.heap.push {cls:=.type "tuple",data:=.seq [u1,u2].toArray}}:=I1.kept (t':=s1.toks) λb o e=>Tx _ e
 rw[hw];refine Tv (Tz ?_);show wpAny (model X.prog X.w) X.A (do rule "assign.swapped-stores";let items<-unpackItems (.ref s1.heap.objs.size) 2 none;assignInOrder [λv=>bindName X.env y v,λv=>bindName X.env x v] items.reverse;pure Flow.next) _ _ _;refine Tv (Xm (Tv (unpackItems_tuple (items:=#[u1,u2]) (I.ok.hd hc) (IsTup.new s1.heap _) λh' tX=>?_)));have I3:=I2.kept (h':=h') (t':=s1.toks) λb o e=>tX b o (Um (TV e)) e
 show wpAny _ _ (assignInOrder [λv=>bindName X.env y v,λv=>bindName X.env x v] [u2,u1] >>=λ_=>pure Flow.next) _ _ _;refine Tv (assignInOrder_cons (wpAny_bindName (jC I3 hN hj (.inl hy) Lo (λs2 I4=>?_) (.inr hy))));refine assignInOrder_cons (wpAny_bindName (jC I4 hN hi (.inl hx) rv (λs3 I5=>assignInOrder_nil (Tz ?_)) (.inr hx)));rw[List.set_comm _ _ (WH gp)]at I5;exact⟨_,H1,I5,q1⟩
end
section
variable{X:Cx}{pos:Pos}
def Be(c:TT)(tb:TS):TS:=λD σ H=>∃W:Nat->St->Hp->Prop,(∃m,W m σ H)/\∀m σ H,W m σ H->
 c σ H λb H1=>if b=true then∃N:St->Hp->Prop,(∀σ' H',N σ' H'->∃m',m'<m/\W m' σ' H')/\tb {D with nx:=N,ct:=N,bk:=D.nx} σ H1 else D.nx σ H1
theorem AH{c:Expr}{body:List Stmt}{tc:TT}{tb:TS}(hp:PassesOwn (model X.prog X.w) X.A X.env X.xe)(hc:PT X c tc)(hb:sT X body tb):PS X (.While c body [] pos) (Be tc tb):=by
 intro pins s σ H D I h;obtain⟨W,⟨m0,w0⟩,turn⟩:=h;refine wpAny_While (codeAny_whileLoop (λn s'=>∃σ' H',Inv X pins σ' H' s'/\W n σ' H') ?_ m0 ⟨σ,H,I,w0⟩);rintro n s1 ⟨σ1,H1,I1,w1⟩;refine Xj hp (bV (hc pins s1 σ1 H1 _ I1 (turn n σ1 H1 w1)) λb s2⟨H2,I2,q2⟩=>?_);cases b with
 |true=>
  obtain⟨N,hN,q2⟩:=q2;rw[W0 rfl];refine Xj hp (bV (hb pins s2 σ1 H2 _ I2 q2) λf s3 q3=>?_);cases f with
  |next=>obtain⟨σ3,H3,I3,n3⟩:=q3;obtain⟨m',hm,w3⟩:=hN σ3 H3 n3;exact⟨m',hm,σ3,H3,I3,w3⟩
  |cont=>obtain⟨σ3,H3,I3,n3⟩:=q3;obtain⟨m',hm,w3⟩:=hN σ3 H3 n3;exact⟨m',hm,σ3,H3,I3,w3⟩
  |brk=>exact q3
  |ret v=>exact q3
 |false=>rw[WZ UP];exact wpAny_execs_nil ⟨σ1,H2,I2,q2⟩
end
structure It where
 go:Nat->Hp->Prop
 yld:Nat->Hp->V->Hp->Prop
 stop:Nat->Hp->Prop
def i6(X:Cx)(pins:List (Addr×Obj))(H:Hp)(b:Addr):Prop:=
 H b=none/\b≠X.env.locals/\b∉X.fs/\(b∈X.ex\/X.s₀.heap.objs.size<=b)/\(∀x c,X.env.cells.lookup x=some c->c≠b)/\∀p∈X.pn++pins,p.1≠b
theorem Inv.zB{X:Cx}{pins:List (Addr×Obj)}{σ:St}{H H':Hp}{s:Shared}{b:Addr}(I:Inv X pins σ H s)(hb:s.heap.objs.size<=b)(hn:H' b=none):i6 X pins H' b:=by
 refine⟨hn,WB (Ub I.lt hb),I.OJ hb,.inr (TX I.sz hb),λx c e z=>?_,λp hp z=>?_⟩
 ·obtain⟨v,q⟩:=I.cell x c e;exact absurd (Ub q.lt (by rw[z];exact hb)) (Wu _)
 ·exact absurd (Ub (TV (I.pin p hp).1) (by rw[z];exact hb)) (Wu _)
structure Turn(P:Program)(w:World)(K:PySem.W.Frag)(tg:Expr)(J:It)(fp:List Addr)(it:Addr)(tn:Nat->Heap->Prop):Prop where
 mem:it∈fp
 obj:∀i h,tn i h->∀b∈fp,∃o,h.get? b=some o/\∀v,o.data≠ .cell v
 keep:∀i h h',tn i h->(∀b∈fp,∀o,h.get? b=some o->h'.get? b=some o)->tn i h'
 item:∀(X:Cx),X.prog=P->X.w=w->X.K=K->X.calm=true->∀(i:Nat)(pins:List (Addr×Obj))(s:Shared)(σ:St)(H:Hp)(E:Value->Shared->Prop),Inv X pins σ H s->(∀b∈fp,i6 X pins H b)->tn i s.heap->J.go i H->
  wpAny (model P w) X.A (pyNext (.ref it)) (λr s1=>∃u,r=some u/\
   wpAny (model P w) X.A (letOwnedTupleGo tg (.ref it) u) (λ_ s2=>∃x H',Inv X pins σ H' s2/\RelV x u/\J.yld i H x H'/\tn (i+1) s2.heap/\∀b∈fp,H' b=none) E s1) E s
 done:∀(X:Cx),X.prog=P->X.w=w->X.K=K->X.calm=true->∀(i:Nat)(pins:List (Addr×Obj))(s:Shared)(σ:St)(H:Hp)(E:Value->Shared->Prop),Inv X pins σ H s->(∀b∈fp,i6 X pins H b)->tn i s.heap->J.stop i H->
  wpAny (model P w) X.A (pyNext (.ref it)) (λr s1=>r=none/\Inv X pins σ H s1) E s
 self:∀(A:Around)(i:Nat)(s:Shared)(Q:Value->Shared->Prop)(E:Value->Shared->Prop),tn i s.heap->Q (.ref it) s->wpAny (model P w) A (pyIter (.ref it)) Q E s
abbrev TI:=St->Hp->(It->Hp->Prop)->Prop
def PF(X:Cx)(pins:List (Addr×Obj))(σ:St)(tg:Expr)(R:It->Hp->Prop)(qv:Value)(s2:Shared):Prop:=
 ∃(it:Addr)(fp:List Addr)(tn:Nat->Heap->Prop)(J:It)(H':Hp),qv= .ref it/\Inv X pins σ H' s2/\Turn X.prog X.w X.K tg J fp it tn/\tn 0 s2.heap/\(∀b∈fp,i6 X pins H' b)/\R J H'
def PI(X:Cx)(tg iter:Expr)(wi:TI):Prop:=
 ∀(pins:List (Addr×Obj))(s:Shared)(σ:St)(H:Hp)(R:It->Hp->Prop),Inv X pins σ H s->wi σ H R->
  wpAny (model X.prog X.w) X.A (eval iter X.env) (λv s1=>wpAny (model X.prog X.w) X.A (pyIter v) (PF X pins σ tg R) X.xe s1) X.xe s
theorem zK{M:Model}{A:Around}{E:Value->Shared->Prop}{s:Shared}{tg:Expr}{it:Addr}{u:Value}{o:Obj}{n:String}{vs:Array Value}{Q:Unit->Shared->Prop}(ho:s.heap.get? it=some o)(hc:o.cls= .type n)(hd:o.data= .fields vs)
  (hn:["enumerate","zip","dict_itemiterator","dict_reverseitemiterator","odict_iterator","itertools.zip_longest","itertools.pairwise"].contains n=false) (hQ:Q .unit s):wpAny M A (letOwnedTupleGo tg (.ref it) u) Q E s:=by
 unfold letOwnedTupleGo;cases tg<;>first
  |exact Tz hQ
  |(cases u<;>first
    |exact Tz hQ
    |(refine Tv (wpAny_load ho ?_);rw[hc,hd];show wpAny M A (if (["enumerate","zip","dict_itemiterator","dict_reverseitemiterator","odict_iterator","itertools.zip_longest","itertools.pairwise"].contains n&&vs[0]?==some (rawInt _))=true then _ else _) Q E s;rw[WZ (by intro h;rw[hn,Bool.false_and]at h;cases h)];exact Tz hQ))
def Mk(K:PySem.W.Frag)(a:Addr):It:=
 ⟨λi H=>∃xs x,dF K H a xs/\xs[i]?=some x,λi H x H'=>H'=H/\∀xs,dF K H a xs->xs[i]?=some x,λi H=>∃xs,dF K H a xs/\xs.length<=i⟩
def Nd(K:PySem.W.Frag)(a:Addr):It:=
 ⟨λi H=>∃xs x,fj K H a xs/\xs[i]?=some x,λi H x H'=>H'=H/\∀xs,fj K H a xs->xs[i]?=some x,λi H=>∃xs,fj K H a xs/\xs.length<=i⟩
def Jf(lo:Int)(n:Nat):It:=⟨λi _=>i<n,λi H x H'=>H'=H/\x= .int (lo+i),λi _=>n<=i⟩
theorem yg{P:Program}{w:World}{K:PySem.W.Frag}{tg:Expr}(a it:Addr):Turn P w K tg (Mk K a) [it] it (λi h=>h.IsListIter it a i) where
 mem:=by simp
 obj:=λi h st b hb=>by
  have e:b=it:=by simpa using hb
  subst e;obtain⟨o,e,c,d⟩:=st;exact⟨o,e,λv z=>by rw[d]at z;cases z⟩
 keep:=λi h h' st k=>st.at λo e=>k it ∅ o e
 item:=by
  intro X hP hw hK hc i pins s σ H E I hf st hg;subst hP hw hK;obtain⟨xs,x,hq,hx⟩:=hg;obtain⟨its,rv,p,hz⟩:=I.list hq;obtain⟨u,hu,ru⟩:=rv.get hx;obtain⟨f0,f1,f2,f3,f4,f5⟩:=hf it ∅;refine wpAny_pyNext_list_item st p.isList (x:=u) ‹hu› λh' ak sb=>?_
  have I1:Inv X pins σ H {s with heap:=h'}:=I.turned (t':=s.toks) (λb o hb e=>(sb.2 b hb).trans e) f0 f1 f3 f4 f5;obtain⟨o,e,c,d⟩:=id ak;exact⟨u,rfl,zK (s:={s with heap:=h'}) e c d ⋯ ⟨x,H,I1,ru,⟨rfl,λys hy=>by rw[I.Ai hy hq];exact hx⟩,ak,λb hb=>(hf b hb).1⟩⟩
 done:=by intro X hP hw hK hc i pins s σ H E I hf st hg;subst hP hw hK;obtain⟨xs,hq,hx⟩:=hg;obtain⟨its,rv,p,hz⟩:=I.list hq;obtain⟨f0,f1,f2,f3,f4,f5⟩:=hf it ∅;have hl:=rv.length;exact wpAny_pyNext_list_end (I.ok.hd hc) st p.isList (by simp;lia) λh' eb=>⟨rfl,I.turned (t':=s.toks) (λb o hb e=>eb b o hb e) f0 f1 f3 f4 f5⟩
 self:=λ_ _ _ _ _ st h=>wpAny_pyIter_listiter st h
theorem uK{P:Program}{w:World}{K:PySem.W.Frag}{tg:Expr}(a it:Addr):Turn P w K tg (Nd K a) [it] it (λi h=>h.IsTupleIter it a i) where
 mem:=by simp
 obj:=λi h st b hb=>by
  have e:b=it:=by simpa using hb
  subst e;obtain⟨o,e,c,d⟩:=st;exact⟨o,e,λv z=>by rw[d]at z;cases z⟩
 keep:=λi h h' st k=>st.at λo e=>k it ∅ o e
 item:=by
  intro X hP hw hK hc i pins s σ H E I hf st hg;subst hP hw hK;obtain⟨xs,x,hq,hx⟩:=hg;obtain⟨its,rv,p,hz⟩:=I.tuple hq;obtain⟨u,hu,ru⟩:=rv.get hx;obtain⟨f0,f1,f2,f3,f4,f5⟩:=hf it ∅;refine wpAny_pyNext_tuple_item st (show s.heap.IsTuple a its.toArray from p) (x:=u) ‹hu› λh' ak sb=>?_
  have I1:Inv X pins σ H {s with heap:=h'}:=I.turned (t':=s.toks) (λb o hb e=>(sb.2 b hb).trans e) f0 f1 f3 f4 f5;obtain⟨o,e,c,d⟩:=id ak;exact⟨u,rfl,zK (s:={s with heap:=h'}) e c d ⋯ ⟨x,H,I1,ru,⟨rfl,λys hy=>by rw[I.yf hy hq];exact hx⟩,ak,λb hb=>(hf b hb).1⟩⟩
 done:=by intro X hP hw hK hc i pins s σ H E I hf st hg;subst hP hw hK;obtain⟨xs,hq,hx⟩:=hg;obtain⟨its,rv,p,hz⟩:=I.tuple hq;obtain⟨f0,f1,f2,f3,f4,f5⟩:=hf it ∅;have hl:=rv.length;exact wpAny_pyNext_tuple_end (I.ok.hd hc) st (show s.heap.IsTuple a its.toArray from p) (by simp;lia) λh' eb=>⟨rfl,I.turned (t':=s.toks) (λb o hb e=>eb b o hb e) f0 f1 f3 f4 f5⟩
 self:=λ_ _ _ _ _ st h=>wpAny_pyIter_tupleiter st h
theorem uJ{P:Program}{w:World}{K:PySem.W.Frag}{tg:Expr}(it:Addr)(lo:Int)(n:Nat):Turn P w K tg (Jf lo n) [it] it (λi h=>IsRangeIter h it (lo+(i:Nat)*1) ((n:Int)-(i:Nat)) 1) where
 mem:=by simp
 obj:=λi h st b hb=>by
  have e:b=it:=by simpa using hb
  subst e;exact⟨_,st,λv z=>by
   have z':Data.fields _=Data.cell v:=z;cases z'⟩
 keep:=λi h h' st k=>k it ∅ _ st
 item:=by
  intro X hP hw hK hc i pins s σ H E I hf st hg;subst hP hw hK;obtain⟨f0,f1,f2,f3,f4,f5⟩:=hf it ∅;have W:=Walks.range (prog:=X.prog) (w:=X.w) (I.ok.hd hc) it lo 1 n;refine W.item i s _ _ hg st λv h' tk hv ak kk=>?_
  obtain⟨t,rfl⟩:=hv;have I1:Inv X pins σ H {s with heap:=h',toks:=tk}:=I.turned (λb o hb e=>kk b o ‹hb› e) f0 f1 f3 f4 f5;refine⟨_,rfl,zK (s:={s with heap:=h',toks:=tk}) (n:="range_iterator") ak rfl rfl ⋯ ⟨.int (lo+i),H,I1,⟨t,?_⟩,⟨rfl,rfl⟩,ak,λb hb=>(hf b hb).1⟩⟩;rw[Int.mul_one]
 done:=by intro X hP hw hK hc i pins s σ H E I hf st hg;subst hP hw hK;obtain⟨f0,f1,f2,f3,f4,f5⟩:=hf it ∅;exact wpAny_pyNext_range_end (I.ok.hd hc) st (by have:n<=i:=hg;lia) λh' eb=>⟨rfl,I.turned (t':=s.toks) (λb o hb e=>eb b o hb e) f0 f1 f3 f4 f5⟩
 self:=λ_ _ _ _ _ st h=>wpAny_pyIter_rangeiter st h
end L2
namespace L2
section
variable{X:Cx}{tg:Expr}
theorem rR{pins:List (Addr×Obj)}{σ:St}{H:Hp}{s:Shared}{R:It->Hp->Prop}{E:Value->Shared->Prop}{lo hi:Int}{t u v:Tok}{tk:Nat}(I:Inv X pins σ H s)(h1: -(2^62)<=lo)(h2:lo<2^62)(h3: -(2^62)<=hi)(h4:hi<2^62)
  (q:R (Jf lo (hi-lo).toNat) H):wpAny (model X.prog X.w) X.A (pyIter (.ref s.heap.objs.size)) (PF X pins σ tg R) E {s with heap:=s.heap.push {cls:=.type "range",data:=.fields #[.int lo t,.int hi u,.int 1 v]},toks:=tk}:=by
 refine wpAny_pyIter_range (IsRange.new ..) (small_one h1 h2 h3 h4) ?_;have I1:Inv X pins σ H {s with heap:=s.heap.push {cls:=.type "range",data:=.fields #[.int lo t,.int hi u,.int 1 v]},toks:=tk}:=I.kept λb o e=>Tx _ e
 refine⟨(s.heap.push {cls:=.type "range",data:=.fields #[.int lo t,.int hi u,.int 1 v]}).objs.size,[(s.heap.push {cls:=.type "range",data:=.fields #[.int lo t,.int hi u,.int 1 v]}).objs.size],_,_,H,rfl,
  I1.kept (t':=tk) λb o e=>Tx _ e,uJ _ lo (hi-lo).toNat,?_,λb hb=>?_,q⟩
 ·have e1:lo+((0:Nat):Int)*1=lo:=by simp
  have e2:(((hi-lo).toNat:Nat):Int)-((0:Nat):Int)=Builtin.Range.rangeSize lo hi 1:=by rw[rangeSize_one];split<;>lia
  show IsRangeIter _ _ (lo+((0:Nat):Int)*1) ((((hi-lo).toNat:Nat):Int)-((0:Nat):Int)) 1;rw[e1,e2];exact TQ _ rfl
 ·have e:b=(s.heap.push {cls:=.type "range",data:=.fields #[.int lo t,.int hi u,.int 1 v]}).objs.size:=by simpa using hb
  subst e;exact I1.zB (TM _) (I1.hok.fresh (TM _))
def Ku(ta:TA):TI:=λσ H R=>ta σ H λvs H1=>∃j:Int,vs=[.int j]/\ -(2^62)<=j/\j<2^62/\R (Jf 0 j.toNat) H1
def Kv(ta:TA):TI:=λσ H R=>ta σ H λvs H1=>∃i j:Int,vs=[.int i,.int j]/\(-(2^62)<=i/\i<2^62/\ -(2^62)<=j/\j<2^62)/\R (Jf i (j-i).toNat) H1
theorem xN{a:Expr}{ta:TA}{p pos:Pos}(hg:Gl X "range")(hm:X.mg "range"=none)(ha:PA X [a] ta)(hs:starEach [a] X.env=[(false,eval a X.env)]:=by rfl):PI X tg (.Call (.Name "range" p) [a] [] pos) (Ku ta):=by
 intro pins s σ H R I h;refine Call_ (jR I hg hm boot_range (WJ (bV (ha pos pins s σ H _ I h) λus s1⟨vs,H1,I1,r1,q1⟩=>?_) hs rfl));obtain⟨j,e,q1,q2,q⟩:=q1;subst e;cases r1 with
 |cons r rr=>cases rr;obtain⟨t,rfl⟩:=r;exact call_range_1 (rR I1 () () q1 q2 ‹q›)
theorem xO{a b:Expr}{ta:TA}{p pos:Pos}(hg:Gl X "range")(hm:X.mg "range"=none)(ha:PA X [a,b] ta)(hs:starEach [a,b] X.env=[(false,eval a X.env),(false,eval b X.env)]:=by rfl)(xB:starEach [b] X.env=[(false,eval b X.env)]:=by rfl):
  PI X tg (.Call (.Name "range" p) [a,b] [] pos) (Kv ta):=by
 intro pins s σ H R I h;refine Call_ (jR I hg hm boot_range (WJ (bV (ha pos pins s σ H _ I h) λus s1⟨vs,H1,I1,r1,q1⟩=>?_) (by rw[hs,xB]) (by rw[xB];rfl)));obtain⟨i,j,e,⟨q1,q2,q3,q4⟩,q⟩:=q1;subst e;cases r1 with
 |cons r rr=>
  cases rr with
  |cons r' rr=>cases rr;obtain⟨t,rfl⟩:=r;obtain⟨t',rfl⟩:=r';exact call_range_2 (rR I1 q1 q2 q3 q4 q)
def Il(wi:TI)(g:TG)(tb:TS):TS:=λD σ H=>wi σ H λJ H1=>∃W:Nat->Nat->St->Hp->Prop,(∃m,W 0 m σ H1)/\∀i m σ H,W i m σ H->
 (J.stop i H/\D.nx σ H)\/(J.go i H/\∃N:St->Hp->Prop,(∀σ' H',N σ' H'->∃m',m'<m/\W (i+1) m' σ' H')/\∀x H',J.yld i H x H'->g x σ H' λσ2 H2=>tb {D with nx:=N,ct:=N,bk:=D.nx} σ2 H2)
def mC(fp:List Addr)(h:Heap):List (Addr×Obj):=fp.filterMap λb=>(h.get? b).map λo=>(b,o)
theorem fP{fp:List Addr}{h:Heap}{b:Addr}{o:Obj}(hb:b∈fp)(e:h.get? b=some o):(b,o)∈mC fp h:=VZ.mpr ⟨b,hb,by rw[e];rfl⟩
theorem xK{fp:List Addr}{h:Heap}{p:Addr×Obj}(hp:p∈mC fp h):p.1∈fp/\h.get? p.1=some p.2:=by
 obtain⟨b,hb,e⟩:=VZ.mp hp;cases q:h.get? b with
 |none=>rw[q]at e;cases e
 |some o=>rw[q]at e;have e':(b,o)=p:=WI e;subst e';exact⟨hb,q⟩
theorem Inv.pinned{pins:List (Addr×Obj)}{σ:St}{H:Hp}{s:Shared}{fp:List Addr}(I:Inv X pins σ H s)(hf:∀b∈fp,i6 X pins H b)(ho:∀b∈fp,∃o,s.heap.get? b=some o/\∀v,o.data≠ .cell v):Inv X (pins++mC fp s.heap) σ H s:=
 I.vX λp hp=>(Uc.mp hp).elim (λz=>I.pin p (Uo _ z)) λz=>by obtain⟨hb,e⟩:=xK z;obtain⟨f0,f1,f2,_⟩:=hf p.1 hb;obtain⟨o,e',d⟩:=ho p.1 hb;rw[e]at e';cases e';exact⟨e,f0,f1,f2,d⟩
theorem Inv.jE{pins pl:List (Addr×Obj)}{σ:St}{H:Hp}{s:Shared}(I:Inv X (pins++pl) σ H s):Inv X pins σ H s:=I.vX λp hp=>I.pin p (Uo _ (VX _ hp))
theorem AG{iter:Expr}{body:List Stmt}{wi:TI}{g:TG}{tb:TS}{pos:Pos}(hp:PassesOwn (model X.prog X.w) X.A X.env X.xe)(hc:X.calm=true)(hi:PI X tg iter wi)(hg:PG X tg g)(hb:sT X body tb)
  (hs:∀x,foldedSetIterable iter X.env x=pure x:=by intro _;rfl):PS X (.For tg iter body [] pos) (Il wi g tb):=by
 intro pins s σ H D I h;refine wpAny_For (bV (hi pins s σ H _ I h) λv s1 h1=>bV h1 λqv s2 h2=>?_) hs;obtain⟨it,fp,tn,J,H2,e,I2,T,eN,f2,W,⟨m0,w0⟩,turn⟩:=h2;subst e;have qd:∀{H':Hp},(∀b∈fp,H' b=none)->∀b∈fp,i6 X pins H' b:=λhn b hb=>⟨hn b hb,(f2 b hb).2⟩
 refine codeAny_forLoop_any (λn s'=>∃i σ' H',Inv X pins σ' H' s'/\tn i s'.heap/\(∀b∈fp,H' b=none)/\W i n σ' H') ?_ m0 ⟨0,σ,H2,I2,eN,λb hb=>(f2 b hb).1,w0⟩;rintro n s3 ⟨i,σ3,H3,I3,Jb,P3,w3⟩;rcases turn i n σ3 H3 w3 with ⟨stop,qn⟩|⟨go,N,hN,step⟩
 ·refine Xj hp (bV (T.done X rfl rfl rfl hc i pins s3 σ3 H3 X.xe I3 (qd P3) Jb stop) λr s4⟨hr,I4⟩=>?_);subst hr;exact wpAny_execs_nil ⟨σ3,H3,I4,qn⟩
 ·refine Xj hp (bV (T.item X rfl rfl rfl hc i pins s3 σ3 H3 X.xe I3 (qd P3) Jb go) λr s4⟨u,hr,h4⟩=>?_);subst hr;refine Xj hp (bV h4 λ_ s5⟨x,H5,I5,r5,y5,Pn,NK⟩=>?_);have QX:=I5.pinned (qd NK) (T.obj _ _ Pn);refine Xj hp (bV (hg _ s5 σ3 H5 x u _ QX r5 (step x H5 y5)) λ_ s6⟨σ6,H6,I6,q6⟩=>?_);refine Xj hp (bV (hb _ s6 σ6 H6 _ I6 q6) λf s7 q7=>?_);have again:∀{σ7:St}{H7:Hp},Inv X (pins++mC fp s5.heap) σ7 H7 s7->N σ7 H7->∃m,m<n/\∃i σ' H',Inv X pins σ' H' s7/\tn i s7.heap/\(∀b∈fp,H' b=none)/\W i m σ' H':=λ {σ7 H7} I7 n7=>by obtain⟨m',hm,w7⟩:=hN σ7 H7 n7;refine⟨m',hm,i+1,σ7,H7,I7.jE,T.keep _ _ _ Pn λb hb o e=>(I7.pin (b,o) (Uo _ (Uo _ (fP hb e)))).1,λb hb=>?_,w7⟩;obtain⟨o,e,d⟩:=T.obj _ _ Pn b hb;exact(I7.pin (b,o) (Uo _ (Uo _ (fP hb e)))).2.1
  cases f with
  |next=>obtain⟨σ7,H7,I7,n7⟩:=q7;exact again I7 n7
  |cont=>obtain⟨σ7,H7,I7,n7⟩:=q7;exact again I7 n7
  |brk=>obtain⟨σ7,H7,I7,q7⟩:=q7;exact⟨σ7,H7,I7.jE,q7⟩
  |ret v=>obtain⟨x7,σ7,H7,I7,r7,q7⟩:=q7;exact⟨x7,σ7,H7,I7.jE,r7,q7⟩
end
end L2
namespace L2
abbrev R2:=V->V->Hp->VK->Prop
def lp(X:Cx)(f:Value->Value->Sem Value)(r:R2):Prop:=
 ∀(pins:List (Addr×Obj))(s:Shared)(σ:St)(H:Hp)(x y:V)(v u:Value)(Q:VK),Inv X pins σ H s->RelV x v->RelV y u->r x y H Q->
  wpAny (model X.prog X.w) X.A (f v u) (EP X pins σ Q) X.xe s
def Nk(X:Cx)(f:Value->Sem Value)(r:V->Hp->VK->Prop):Prop:=
 ∀(pins:List (Addr×Obj))(s:Shared)(σ:St)(H:Hp)(x:V)(v:Value)(Q:VK),Inv X pins σ H s->RelV x v->r x H Q->
  wpAny (model X.prog X.w) X.A (f v) (EP X pins σ Q) X.xe s
def df(X:Cx)(f:Value)(r:List V->Hp->VK->Prop):Prop:=
 ∀(pins:List (Addr×Obj))(s:Shared)(σ:St)(H:Hp)(xs:List V)(us:List Value)(Q:VK),Inv X pins σ H s->aw xs us->r xs H Q->
  wpAny (model X.prog X.w) X.A (call f us) (EP X pins σ Q) X.xe s
def Nj(X:Cx)(r:V->Hp->(Bool->Hp->Prop)->Prop):Prop:=
 ∀(pins:List (Addr×Obj))(s:Shared)(σ:St)(H:Hp)(x:V)(v:Value)(Q:Bool->Hp->Prop),Inv X pins σ H s->RelV x v->r x H Q->
  wpAny (model X.prog X.w) X.A (truthy v) (TP X pins σ Q) X.xe s
def MZ(r:R2)(ta tb:TE):TE:=λσ H Q=>ta σ H λx H1=>tb σ H1 λy H2=>r x y H2 Q
def SG(r:V->Hp->VK->Prop)(ta:TE):TE:=λσ H Q=>ta σ H λx H1=>r x H1 Q
def rI(C:Int->Int->Prop)(g:Int->Int->V):R2:=λx y H Q=>∃i j,x= .int i/\y= .int j/\C i j/\Q (g i j) H
def EX(g:Int->Int->V):R2:=λx y H Q=>∃i j,x= .int i/\y= .int j/\Q (g i j) H
def rU(g:Int->V):V->Hp->VK->Prop:=λx H Q=>∃i,x= .int i/\Q (g i) H
section
variable{X:Cx}{a b:Expr}{ta tb:TE}{pos:Pos}
theorem Fz(ha:PE X a ta)(hb:PE X b tb){pins:List (Addr×Obj)}{s:Shared}{σ:St}{H:Hp}{R:V->V->Hp->Prop}(I:Inv X pins σ H s)
  (h:ta σ H λx H1=>tb σ H1 λy H2=>R x y H2) {Q:Value->Shared->Prop} {f:Value->Value->Sem Value}
  (hf:∀v u s2 x y H2,Inv X pins σ H2 s2->RelV x v->RelV y u->R x y H2->wpAny (model X.prog X.w) X.A (f v u) Q X.xe s2):
  wpAny (model X.prog X.w) X.A (eval a X.env) (λv s₁=>wpAny (model X.prog X.w) X.A (eval b X.env) (λu s₂=>wpAny (model X.prog X.w) X.A (f v u) Q X.xe s₂) X.xe s₁) X.xe s:=by
 refine bV (ha pins s σ H _ I h) λv s1⟨x,H1,I1,r1,q1⟩=>?_
 refine bV (hb pins s1 σ H1 _ I1 q1) λu s2⟨y,H2,I2,r2,q2⟩=>?_
 exact hf v u s2 x y H2 I2 r1 r2 q2
theorem Lc{op:Operator}{r:R2}(ho:lp X (binaryOp op) r)(ha:PE X a ta)(hb:PE X b tb):PE X (.BinOp a op b pos) (MZ r ta tb):=by intro pins s σ H Q I h;exact wpAny_BinOp (Fz ha hb I h λv u s2 x y H2 I2 rx ry q=>ho pins s2 σ H2 x y v u Q I2 rx ry q)
theorem Lf{op:UnaryOp}{r:V->Hp->VK->Prop}(ho:Nk X (unaryOp op) r)(ha:PE X a ta):PE X (.UnaryOp op a pos) (SG r ta):=by intro pins s σ H Q I h;exact UnaryOp_ (bV (ha pins s σ H _ I h) λv s1⟨x,H1,I1,r1,q1⟩=>ho pins s1 σ H1 x v Q I1 r1 q1)
theorem ON{f:Value->Value->Sem Value}{C:Int->Int->Prop}{g:Int->Int->Int}
  (rule:∀(i j:Int)(t u:Tok)(s:Shared)(Q:Value->Shared->Prop)(E:Value->Shared->Prop),C i j->Q (.int (g i j) s.toks) {s with toks:=s.toks+1}->wpAny (model X.prog X.w) X.A (f (.int i t) (.int j u)) Q E s):
  lp X f (rI C λi j=>.int (g i j)):=by
 intro pins s σ H x y v u Q I rx ry h;obtain⟨i,j,rfl,rfl,hc,q⟩:=h;obtain⟨t,rfl⟩:=rx;obtain⟨t',rfl⟩:=ry;exact rule i j t t' s _ _ hc ⟨.int (g i j),H,I.tok _,⟨_,rfl⟩,q⟩
theorem K2{f:Value->Value->Sem Value}{g:Int->Int->Int}
  (rule:∀(i j:Int)(t u:Tok)(s:Shared)(Q:Value->Shared->Prop)(E:Value->Shared->Prop),Q (.int (g i j) s.toks) {s with toks:=s.toks+1}->wpAny (model X.prog X.w) X.A (f (.int i t) (.int j u)) Q E s):
  lp X f (EX λi j=>.int (g i j)):=by
 intro pins s σ H x y v u Q I rx ry h;obtain⟨i,j,rfl,rfl,q⟩:=h;obtain⟨t,rfl⟩:=rx;obtain⟨t',rfl⟩:=ry;exact rule i j t t' s _ _ ⟨.int (g i j),H,I.tok _,⟨_,rfl⟩,q⟩
theorem Dc{f:Value->Value->Sem Value}{g:Int->Int->Bool}
  (rule:∀(i j:Int)(t u:Tok)(s:Shared)(Q:Value->Shared->Prop)(E:Value->Shared->Prop),Q (.bool (g i j)) s->wpAny (model X.prog X.w) X.A (f (.int i t) (.int j u)) Q E s):
  lp X f (EX λi j=>.bl (g i j)):=by
 intro pins s σ H x y v u Q I rx ry h;obtain⟨i,j,rfl,rfl,q⟩:=h;obtain⟨t,rfl⟩:=rx;obtain⟨t',rfl⟩:=ry;exact rule i j t t' s _ _ ⟨.bl (g i j),H,I,rfl,q⟩
def Fc(i j:Int):Prop:=(-(2^64)<i/\i<2^64)\/(-(2^64)<j/\j<2^64)
theorem Fc.ok{i j:Int}(h:Fc i j):IntMulOk i j:=by
 rcases h with ⟨h1,h2⟩|⟨h1,h2⟩
 ·exact .of_left (intBits_le_64 h1 h2)
 ·exact .of_right (intBits_le_64 h1 h2)
theorem G6:lp X (binaryOp .Add) (EX λi j=>.int (i+j)):=K2 λ_ _ _ _ _ _ _ q=>add_int q
theorem Hd:lp X (binaryOp .Sub) (EX λi j=>.int (i-j)):=K2 λ_ _ _ _ _ _ _ q=>sub_int q
theorem Hb:lp X (binaryOp .Mult) (rI Fc λi j=>.int (i*j)):=ON λ_ _ _ _ _ _ _ hc q=>mul_int q hc.ok
theorem Df:lp X (binaryOp .Mod) (rI (λ_ j=>j≠0) λi j=>.int (i.fmod j)):=ON λ_ _ _ _ _ _ _ hc q=>mod_int' hc q
theorem Iq{f:Value->Sem Value}{g:Int->Int}
  (rule:∀(i:Int)(t:Tok)(s:Shared)(Q:Value->Shared->Prop)(E:Value->Shared->Prop),Q (.int (g i) s.toks) {s with toks:=s.toks+1}->wpAny (model X.prog X.w) X.A (f (.int i t)) Q E s):
  Nk X f (rU λi=>.int (g i)):=by
 intro pins s σ H x v Q I rx h;obtain⟨i,rfl,q⟩:=h;obtain⟨t,rfl⟩:=rx;exact rule i t s _ _ ⟨.int (g i),H,I.tok _,⟨_,rfl⟩,q⟩
theorem Ir:Nk X (unaryOp .USub) (rU λi=>.int (-i)):=Iq λ_ _ _ _ _ q=>neg_int q
end
section
variable{X:Cx}{a b c:Expr}{ta tb:TE}{pos:Pos}
theorem zx{pins:List (Addr×Obj)}{σ:St}{H:Hp}{s:Shared}{Q:VK}{k k':Bool}(I:Inv X pins σ H s)(q:Q (.bl k) H)(e:k=k'):EP X pins σ Q (.bool k') s:=by subst e;exact⟨.bl k,H,I,rfl,q⟩
theorem K6:lp X (compareOp .Lt) (EX λi j=>.bl (decide (i<j))):=Dc λ_ _ _ _ _ _ _ q=>lt_int q
theorem K5:lp X (compareOp .LtE) (EX λi j=>.bl (decide (i<=j))):=Dc λ_ _ _ _ _ _ _ q=>le_int q
theorem K4:lp X (compareOp .Gt) (EX λi j=>.bl (decide (j<i))):=Dc λ_ _ _ _ _ _ _ q=>gt_int q
theorem K3:lp X (compareOp .GtE) (EX λi j=>.bl (decide (j<=i))):=Dc λ_ _ _ _ _ _ _ q=>ge_int q
theorem Ha:lp X (compareOp .Is) (λx y H Q=>y= .bg/\Q (.bl (decide (x= .bg))) H):=by
 intro pins s σ H x y v u Q I rx ry h;obtain⟨rfl,q⟩:=h;cases ry;refine is_none_gen (zx I q ?_);cases x<;>first
  |(cases rx;rfl)
  |(obtain⟨t,rfl⟩:=rx;rfl)
theorem Dg:lp X (compareOp .IsNot) (λx y H Q=>y= .bg/\Q (.bl (!decide (x= .bg))) H):=by
 intro pins s σ H x y v u Q I rx ry h;obtain⟨rfl,q⟩:=h;cases ry;refine isnot_none_gen (zx I q ?_);cases x<;>first
  |(cases rx;rfl)
  |(obtain⟨t,rfl⟩:=rx;rfl)
theorem Dq{op:CmpOp}{r:R2}(ho:lp X (compareOp op) r)(ha:PE X a ta)(hb:PE X b tb)(hm:behindInMarks op b=false):PE X (.Compare a [op] [b] pos) (MZ r ta tb):=by intro pins s σ H Q I h;exact wpAny_Compare1 (Fz ha hb I h λv u s2 x y H2 I2 rx ry q=>ho pins s2 σ H2 x y v u Q I2 rx ry q) hm
def L4(t:TE):TT:=λσ H Q=>t σ H λx H'=>∃k,x= .bl k/\Q k H'
theorem DE{op:CmpOp}{r:R2}(ho:lp X (compareOp op) r)(ha:PE X a ta)(hb:PE X b tb)(hm:behindInMarks op b=false):PT X (.Compare a [op] [b] pos) (L4 (MZ r ta tb)):=by
 intro pins s σ H Q I h;refine wpAny_isTrue_Compare1 (bV (ha pins s σ H _ I h) λv s1⟨x,H1,I1,r1,q1⟩=>bV (hb pins s1 σ H1 _ I1 q1) λu s2⟨y,H2,I2,r2,q2⟩=>
  bV (ho pins s2 σ H2 x y v u _ I2 r1 r2 q2) λc s3⟨z,H3,I3,r3,k,e,q3⟩=>?_) hm
 subst e;cases r3;exact Xp ⟨H3,I3,q3⟩
def Jk(K:PySem.W.Frag)(x:V)(H:Hp)(k:Bool):Prop:=
 match x with
 |.bg=>k=false
 |.bl b=>k=b
 |.int i=>k=(i != 0)
 |.str y=>y.length<=sizeLine/\k=((y.length:Int) != 0)
 |.FD y=>y.size<=sizeLine/\k=((y.size:Int) != 0)
 |.ref p=>(∃xs,dF K H p xs/\k= !xs.isEmpty)\/(∃xs,fj K H p xs/\k= !xs.isEmpty)\/∃dG,H p=some (.dK dG)/\k= !dG.isEmpty
 |_=>False
theorem tZ{κ:Type}{dG:List (κ×V)}{vs:List (κ×Value)}(r:KV dG vs):(!vs.isEmpty)= !dG.isEmpty:=by cases r<;>rfl
theorem lW{xs:List V}{its:List Value}(r:aw xs its):(!its.toArray.isEmpty)= !xs.isEmpty:=by cases r<;>simp
theorem l7:(sizeLine:Nat)<2^63:=by rw[Xa];decide
theorem Ip:Nj X (λx H Q=>∃k,Jk X.K x H k/\Q k H):=by
 intro pins s σ H x v Q I rx h;obtain⟨k,e,q⟩:=h;have hl:=l7;have hs:sizeLine=16777216:=Xa;cases x with
 |bg=>cases rx;have e':k=false:=e;subst e';exact truthy_none ⟨H,I,q⟩
 |bl b=>cases rx;have e':k=b:=e;subst e';exact Xp ⟨H,I,q⟩
 |int i=>obtain⟨t,rfl⟩:=rx;have e':k=(i != 0):=e;subst e';exact PySem.P.truthy_int ⟨H,I,q⟩
 |str y=>obtain⟨t,rfl⟩:=rx;obtain⟨hy,e'⟩:y.length<=sizeLine/\k=((y.length:Int) != 0):=e;subst e';exact PySem.P.truthy_str () ⟨H,I.tok _,q⟩
 |FD y=>obtain⟨t,rfl⟩:=rx;obtain⟨hy,e'⟩:y.size<=sizeLine/\k=((y.size:Int) != 0):=e;subst e';exact PySem.W.truthy_bytes () ⟨H,I.tok _,q⟩
 |ref p=>
  cases rx;have e':(∃xs,dF X.K H p xs/\k= !xs.isEmpty)\/(∃xs,fj X.K H p xs/\k= !xs.isEmpty)\/∃dG,H p=some (.dK dG)/\k= !dG.isEmpty:=e;rcases e' with ⟨xs,hx,e'⟩|⟨xs,hx,e'⟩|⟨dG,hx,e'⟩
  ·subst e';obtain⟨its,r,pl,hz⟩:=I.list hx;have hlen:=r.length;exact wpAny_truthy_list pl.isList (by simp only[TF];lia) ⟨H,I.tok _,by rw[lW r];exact q⟩
  ·subst e';obtain⟨its,r,pl,hz⟩:=I.tuple hx;have hlen:=r.length;exact truthy_tuple pl (by simp only[TF];lia) ⟨H,I.tok _,by rw[lW r];exact q⟩
  ·subst e';obtain⟨hz,hS,vs,r,m⟩:dG.length<=sizeLine/\(p==sysModules)=false/\∃vs,KV dG vs/\s.heap.DictOf (pI X.prog X.w) p vs:=I.hok p _ hx;have hlen:dG.length=vs.length:=Paired.length r;exact wpAny_truthy_dict hS m () ⟨H,I.tok _,by rw[tZ r];exact q⟩
 |_=>exact(show False from e).elim
theorem AJ(ha:PE X a ta)(he:∀whole,isTrue a X.env whole=(do let v<-whole;standAt a.pos;holding [v] (truthy v))):
  PT X a (λσ H Q=>ta σ H λx H'=>∃k,Jk X.K x H' k/\Q k H'):=by
 intro pins s σ H Q I h;exact isTrue_plain (bV (ha pins s σ H _ I h) λv s1⟨x,H1,I1,r1,q1⟩=>Ip pins s1 σ H1 x v Q I1 r1 q1) (he _)
theorem vals1{x:V}{us:List Value}(r:aw [x] us):∃u,us=[u]/\RelV x u:=by
 cases r with
 |cons r1 r2=>cases r2;exact⟨_,rfl,r1⟩
theorem vals2{x y:V}{us:List Value}(r:aw [x,y] us):∃u w',us=[u,w']/\RelV x u/\RelV y w':=by
 cases r with
 |cons r1 r2=>
  cases r2 with
  |cons r3 r4=>cases r4;exact⟨_,_,rfl,r1,r3⟩
theorem yU:df X (.builtin "abs") (λxs H Q=>∃i,xs=[.int i]/\Q (.int (if i<0 then -i else i)) H):=by intro pins s σ H xs us Q I r h;obtain⟨i,rfl,q⟩:=h;obtain⟨u,rfl,t,rfl⟩:=vals1 r;exact call_abs_int λu tk=>⟨.int (if i<0 then -i else i),H,I.tok _,⟨_,rfl⟩,q⟩
theorem wW(hc:X.calm=true):df X (.builtin "max") (λxs H Q=>∃i j,xs=[.int i,.int j]/\Q (.int (if j>i then j else i)) H):=by
 intro pins s σ H xs us Q I r h;obtain⟨i,j,rfl,q⟩:=h;obtain⟨u,w',rfl,⟨t,rfl⟩,⟨t',rfl⟩⟩:=vals2 r;refine max_two_ints (I.ok.hd hc) λh' tk k=>⟨_,H,I.kept k,?_,q⟩
 by_cases hj:j>i
 ·rw[W0 hj,W0 hj];exact⟨_,rfl⟩
 ·rw[WZ hj,WZ hj];exact⟨_,rfl⟩
theorem wY(hc:X.calm=true):df X (.builtin "min") (λxs H Q=>∃i j,xs=[.int i,.int j]/\Q (.int (if j<i then j else i)) H):=by
 intro pins s σ H xs us Q I r h;obtain⟨i,j,rfl,q⟩:=h;obtain⟨u,w',rfl,⟨t,rfl⟩,⟨t',rfl⟩⟩:=vals2 r;refine min_two_ints (I.ok.hd hc) λh' tk k=>⟨_,H,I.kept k,?_,q⟩
 by_cases hj:j<i
 ·rw[W0 hj,W0 hj];exact⟨_,rfl⟩
 ·rw[WZ hj,WZ hj];exact⟨_,rfl⟩
def Nf(K:PySem.W.Frag)(x:V)(H:Hp)(n:Nat):Prop:=
 match x with
 |.str y=>y.length<=sizeLine/\n=y.length
 |.FD y=>y.size<=sizeLine/\n=y.size
 |.ref p=>(∃xs,dF K H p xs/\n=xs.length)\/∃xs,fj K H p xs/\n=xs.length
 |_=>False
theorem lE:df X (.builtin "len") (λxs H Q=>∃x n,xs=[x]/\Nf X.K x H n/\Q (.int n) H):=by
 intro pins s σ H xs us Q I r h;obtain⟨x,n,rfl,e,q⟩:=h;obtain⟨u,rfl,rx⟩:=vals1 r;have hl:=l7;have hs:sizeLine=16777216:=Xa;cases x with
 |str y=>obtain⟨t,rfl⟩:=rx;obtain⟨hy,e'⟩:y.length<=sizeLine/\n=y.length:=e;subst e';exact len_str () ⟨.int _,H,I.tok _,⟨_,rfl⟩,q⟩
 |FD y=>obtain⟨t,rfl⟩:=rx;obtain⟨hy,e'⟩:y.size<=sizeLine/\n=y.size:=e;subst e';exact PySem.W.len_bytes () ⟨.int _,H,I.tok _,⟨_,rfl⟩,q⟩
 |ref p=>
  cases rx;have e':(∃xs,dF X.K H p xs/\n=xs.length)\/∃xs,fj X.K H p xs/\n=xs.length:=e;rcases e' with ⟨xs,hx,e'⟩|⟨xs,hx,e'⟩
  ·subst e';obtain⟨its,r',pl,hz⟩:=I.list hx;have hlen:=r'.length;exact Calls.call_len_list pl.isList (by simp only[TF];lia) ⟨.int xs.length,H,I.tok _,⟨_,by simp only[TF];rw[hlen]⟩,q⟩
  ·subst e';obtain⟨its,r',pl,hz⟩:=I.tuple hx;have hlen:=r'.length;exact len_tuple pl (by simp only[TF];lia) ⟨.int xs.length,H,I.tok _,⟨_,by simp only[TF];rw[hlen]⟩,q⟩
 |_=>exact(show False from e).elim
end
end L2
namespace L2
structure Fg(h:Heap)(x dx C:Addr)(mA:Str->Option Value):Prop where
 obj:h.get? x=some (PySem.W.instObj C dx)
 ns:h.Ns1 dx mA
 ne:dx≠x
theorem xI{h:Heap}{dx:Addr}{mA:Str->Option Value}(n:h.Ns1 dx mA):∃od,h.get? dx=some od/\∀name,PySem.W.lookIn name od=some (mA name):=by
 obtain⟨o,es,ep,ho,hd,hk,_,hm⟩:=n;refine⟨o,ho,λname=>?_⟩;have e:=hm name;unfold nsFind findBy at e;rw[<-Array.find?_toList]at e;unfold PySem.W.lookIn;rw[hd];dsimp only;split
 ·rename_i y q;rw[q]at e;exact WW some e
 ·rename_i q;rw[q]at e;have a:es.toList.any (·.refKey)=false:=by rw[Vk];intro y hy;obtain⟨z,t,Ob⟩:=hk y (Array.mem_toList_iff.mp hy);simp[DictEntry.refKey,Ob]
  have a':¬es.toList.any (·.refKey)=true:=by rw[a];exact UP
  rw[WZ a'];exact WW some e
theorem Fg.look{h:Heap}{x dx C:Addr}{mA:Str->Option Value}(I:Fg h x dx C mA):∃od,PySem.W.InstAt h x (PySem.W.instObj C dx) C (some od)/\∀name,PySem.W.lookIn name od=some (mA name):=
 let ⟨od,ho,hl⟩:=xI I.ns
 ⟨od,⟨I.obj,rfl,rfl,ho⟩,hl⟩
section
variable{P:Program}{w:World}{H:Hp}{h:Heap}{a C dx:Addr}{fs:List (Str×V)}
theorem CN(hok:fi P w H h)(e:H a=some (.ins C dx fs)):∃mA,Fg h a dx C mA/\(∀f,Fi (fs.lookup f) (mA f))/\PySem.Within mA (fs.map (·.1))/\fs.length<=1000/\H dx=some (.own a):=by obtain⟨d,z,ne,ob,mA,n,r,q⟩:=(show bW P w H h a (.ins C dx fs) from hok a _ e);exact⟨mA,⟨ob,n,ne⟩,r,q,z,d⟩
end
structure M9(K:PySem.W.Frag)(C:Addr):Prop where
 pg:PySem.W.plainGet K C Str.empty=true
 hd:PySem.W.hasDictIn K C=true
 po:PySem.W.plainOver K C=true
 sa:PySem.W.findIn K (.ref C) "__setattr__"=some (some (.builtin "object.__setattr__"))
theorem M9.get{K:PySem.W.Frag}{C:Addr}(c:M9 K C)(f:Str):PySem.W.plainGet K C f=true:=c.pg
section
variable{X:Cx}{pins:List (Addr×Obj)}{σ:St}{H:Hp}{s:Shared}{A:Around}{E:Value->Shared->Prop}{Q:Value->Shared->Prop}{c:Value}{b:Bool}
inductive ja(K:PySem.W.Frag)(H:Hp):V->Value->Prop where
 |bg:ja K H .bg (.type "NoneType")
 |bl (x:Bool):ja K H (.bl x) (.type "bool")
 |int (i:Int):ja K H (.int i) (.type "int")
 |str (x:Str):ja K H (.str x) (.type "str")
 |BD (x:UInt64):ja K H (.BD x) (.type "float")
 |lst {a:Addr} {xs:List V} (e:H a=some (.lst xs)):ja K H (.ref a) (.type "list")
 |vo {a:Addr} {o:Obj} {xs:List V} (e:H a=some (.vo o (.lst xs))):ja K H (.ref a) (.type "list")
 |tup {a:Addr} {xs:List V} (e:H a=some (.tup xs)):ja K H (.ref a) (.type "tuple")
 |dK {a:Addr} {dG:List (Key×V)} (e:H a=some (.dK dG)):ja K H (.ref a) (.type "dict")
 |dT {a:Addr} {dG:List (List Key×V)} (e:H a=some (.dT dG)):ja K H (.ref a) (.type "dict")
 |ins {a C dx:Addr} {fs:List (Str×V)} (e:H a=some (.ins C dx fs)) (cl:M9 K C) (ha:PySem.W.findIn K (.ref C) "__class__"=some (some (.builtin "object.__class__")))
   (hn:PySem.W.specialIn K (.builtin "object.__class__") "__get__"=some (some (.builtin "getset_descriptor.__get__"))) (Qs:PySem.W.takesIn K (.builtin "object.__class__")=some true)
   (hm:PySem.W.mroIn K C (.type "object")=some true):ja K H (.ref a) (.ref C)
theorem xE{x:V}{u t:Value}(I:Inv X pins σ H s)(rx:RelV x u)(ty:ja X.K H x t)(e:PySem.W.kitOne X.K t c=some b)(h:∀tk,Q (.bool b) {s with toks:=tk}):
  wpAny (model X.prog X.w) A (call (.builtin "isinstance") [u,c]) Q E s:=by
 cases ty with
 |bg=>cases (show u=Value.none from rx);exact WR PySem.W.kitx_none I.qX True.intro e (λz=>nomatch z) h
 |bl y=>cases (show u=Value.bool y from rx);exact WR PySem.W.kitx_bool I.qX True.intro e (λz=>nomatch z) h
 |int i=>obtain⟨t,q⟩:=(show∃t,u=Value.int i t from rx);cases q;exact WR PySem.W.kitx_int I.qX True.intro e (λz=>nomatch z) h
 |str y=>obtain⟨t,q⟩:=(show∃t,u=Value.str y t from rx);cases q;exact WR PySem.W.kitx_str I.qX True.intro e (λz=>nomatch z) h
 |BD y=>obtain⟨t,q⟩:=(show∃t,u=Value.float y t from rx);cases q;exact WR PySem.W.kitx_float I.qX True.intro e (λz=>nomatch z) h
 |@lst a xs ea=>cases (show u=Value.ref a from rx);obtain⟨_,_,n,_,h1⟩:=(show bW X.prog X.w H s.heap a (.lst xs) from I.hok a _ ea);exact WR PySem.W.kitx_list I.qX ⟨_,h1,rfl⟩ e (λz=>nomatch z) h
 |@vo a ob xs ea=>cases (show u=Value.ref a from rx);obtain⟨_,_,_,n,_,h1⟩:=(show bW X.prog X.w H s.heap a (.vo ob (.lst xs)) from I.hok a _ ea);exact WR PySem.W.kitx_list I.qX ⟨_,h1,rfl⟩ e (λz=>nomatch z) h
 |@tup a xs ea=>cases (show u=Value.ref a from rx);obtain⟨_,_,_,p⟩:=(show bW X.prog X.w H s.heap a (.tup xs) from I.hok a _ ea);obtain⟨o,h1,h2,_⟩:=p;exact WR PySem.W.kitx_tuple I.qX ⟨o,h1,h2⟩ e (λz=>nomatch z) h
 |@dK a dG ea=>cases (show u=Value.ref a from rx);obtain⟨_,_,vs,_,p⟩:=(show bW X.prog X.w H s.heap a (.dK dG) from I.hok a _ ea);obtain⟨o,es,ep,h1,h2,_⟩:=p;exact WR PySem.W.kitx_dict I.qX ⟨o,h1,h2.1⟩ e (λz=>nomatch z) h
 |@dT a dG ea=>cases (show u=Value.ref a from rx);obtain⟨_,_,xs,_,o,es,ep,h1,h2,_⟩:=(show bW X.prog X.w H s.heap a (.dT dG) from I.hok a _ ea);exact WR PySem.W.kitx_dict I.qX ⟨o,h1,h2.1⟩ e (λz=>nomatch z) h
 |@ins a C dx fs ea cl ha hn Qs hm=>cases (show u=Value.ref a from rx);obtain⟨mA,O,_⟩:=CN I.hok ea;obtain⟨od,J,_⟩:=O.look;exact WR (PySem.W.kitx_own (cl.get _) cl.hd ha hn Qs hm) I.qX J e (λz=>nomatch z) h
end
end L2
namespace L2
structure i7(k:Nat)(A:Around):Prop where
 hd:A.handled=none
 dp:A.depth+3*k+5<recursionLimit
 un:A.units+16*k+200<cLine
theorem i7.deeper{k:Nat}{A:Around}(r:i7 (k+1) A)(env:Env):i7 k (A.deeper env):=
 ⟨r.hd,by have:=r.dp;show A.depth+1+3*k+5<_;lia,by have:=r.un;show A.units+3+16*k+200<_;lia⟩
theorem i7.depth{k:Nat}{A:Around}(r:i7 k A):A.depth<recursionLimit:=by have:=r.dp;lia
def LV:TA:=λ_ H Q=>Q [] H
def E5(ta:TE)(tr:TA):TA:=λσ H Q=>ta σ H λx H1=>tr σ H1 λxs H2=>Q (x::xs) H2
section
variable{X:Cx}{e:Expr}{es:List Expr}{te:TE}{t:TA}{pos:Pos}
theorem jV:PA X [] LV:=λ_ _ _ _ H Q I h=>Calls.spliced_nil ⟨[],H,I,.nil,h⟩
theorem d5(ha:PE X e te)(hr:PA X es t)(hs:starEach (e::es) X.env=(false,eval e X.env)::starEach es X.env:=by rfl):PA X (e::es) (E5 te t):=by intro pos pins s σ H Q I h;rw[hs];show wpAny _ _ (spliced ((false,eval e X.env)::backTo pos (starEach es X.env))) _ _ s;refine Calls.spliced_cons (bV (ha pins s σ H _ I h) λu s1⟨x,H1,I1,r1,q1⟩=>?_);exact bV (hr pos pins s1 σ H1 _ I1 q1) λus s2⟨xs,H2,I2,r2,q2⟩=>⟨x::xs,H2,I2,.cons r1 r2,q2⟩
def Pv(t:TA):TE:=λσ H Q=>t σ H λxs H1=>xs.length<=sizeLine/\∀p,H1 p=none->Q (.ref p) (upd H1 p (.tup xs))
def Pr(t:TA):TE:=λσ H Q=>t σ H λxs H1=>xs.length<=sizeLine/\∀p,H1 p=none->Q (.ref p) (upd H1 p (.lst xs))
theorem Hr{x1}(h:PA X es t):PE X (.Tuple es x1 pos) (Pv t):=by intro pins s σ H Q I hq;refine wpAny_Tuple_spliced (bV (h pos pins s σ H _ I hq) λus s1⟨xs,H1,I1,r,z,q⟩=>⟨by rw[<-r.length];exact z,?_⟩);have hf:H1 s1.heap.objs.size=none:=I1.hok.fresh (TM _);refine⟨.ref s1.heap.objs.size,upd H1 s1.heap.objs.size (.tup xs),I1.laid (t':=s1.toks) (λb u e=>Tx _ e) (TM _) ?_,rfl,q _ hf⟩;exact⟨z,us,r,⟨_,TQ _ rfl,rfl,_,rfl,rfl,rfl⟩⟩
theorem Hl(h:PA X es t):PE X (.List es pos) (Pr t):=by intro pins s σ H Q I hq;refine wpAny_List_spliced (bV (h pos pins s σ H _ I hq) λus s1⟨xs,H1,I1,r,z,q⟩=>⟨by rw[<-r.length];exact z,?_⟩);have hf:H1 s1.heap.objs.size=none:=I1.hok.fresh (TM _);refine⟨.ref s1.heap.objs.size,upd H1 s1.heap.objs.size (.lst xs),I1.laid (t':=s1.toks) (λb u e=>Tx _ e) (TM _) ?_,rfl,q _ hf⟩;exact⟨z,us,0,r,TQ _ rfl⟩
end
abbrev Sp:=List V->Hp->VK->XK->Prop
abbrev nv:=List Env->Hp->Shared->XK->Value->Shared->Prop
structure BX(P:Program)(w:World)(K:PySem.W.Frag)(mg:Str->Option Value)(base:Heap)(A:Around)(outer:List Env)(s:Shared)(H:Hp):Prop where
 frames:A.frames=some outer
 mod:Mod K mg base
 bs:∀b o,base.get? b=some o->s.heap.get? b=some o/\H b=none
 En:base.objs.size<=s.heap.objs.size
 lQ:s.heap.FunFrames base outer
 IQ:∀b∈kC outer,H b=none
 hok:fi P w H s.heap
 bare:AllBare s.gens
def CE(outer:List Env)(P:Program)(w:World)(H:Hp)(s:Shared)(Q:VK)(u:Value)(s':Shared):Prop:=
 ∃v H',s'.os=s.os/\AllBare s'.gens/\Un (kC outer) [] H H' s.heap s'.heap/\fi P w H' s'.heap/\RelV v u/\Q v H'
def CR(CX:nv)(outer:List Env)(P:Program)(w:World)(H:Hp)(s:Shared)(Q:VK)(E:XK)(r:Result)(s':Shared):Prop:=
 match r with
 |.ok (.ret u)=>CE outer P w H s Q u s'
 |.ok _=>False
 |.error e=>CX outer H s E e s'
structure jF(P:Program)(w:World)(K:PySem.W.Frag)(mg:Str->Option Value)(base:Heap)(CX:nv)(k:Nat)(f:Addr)(fd:FuncData)(ps:List Str)(sp:Sp):Prop where
 len:∀vs H Q E,sp vs H Q E->vs.length=ps.length
 run:∀(A:Around)(outer:List Env)(s:Shared)(H:Hp)(args:Args)(us:List Value)(vs:List V)(Q:VK)(E:XK),i7 k A->BX P w K mg base A outer s H->BindsTo s fd args (ps.zip us)->aw vs us->sp vs H Q E->
  codeAny (model P w) A (.call (.ref f) args) (CR CX outer P w H s Q E) s
theorem jF.imp{P:Program}{w:World}{K:PySem.W.Frag}{mg:Str->Option Value}{base:Heap}{CX:nv}{k:Nat}{f:Addr}{fd:FuncData}{ps:List Str}{sp QG:Sp}(F:jF P w K mg base CX k f fd ps sp)
  (h:∀vs H Q E,QG vs H Q E->sp vs H Q E):jF P w K mg base CX k f fd ps QG:=
 ⟨λvs H Q E q=>F.len vs H Q E (h _ _ _ _ q),λA outer s H args us vs Q E hr he hb hv hs=>F.run A outer s H args us vs Q E hr he hb hv (h _ _ _ _ hs)⟩
section
variable{X:Cx}{pins:List (Addr×Obj)}{σ:St}{H:Hp}{s s':Shared}
theorem Inv.NH(I:Inv X pins σ H s):BX X.prog X.w X.K X.mg X.base X.A X.stack s H:=
 ⟨I.ok.frames,I.ok.mod,I.bs,TX I.ok.En I.sz,I.stack,I.wC,I.hok,I.bare⟩
theorem Inv.after{Q:VK}{u:Value}(I:Inv X pins σ H s)(h:CE X.stack X.prog X.w H s Q u s'):EP X pins σ Q u s':=by obtain⟨v,H',os,bare,un,hok,r,q⟩:=h;obtain⟨hh,g,d,t,Sz⟩:=s';obtain rfl:Sz=s.os:=os;exact⟨v,H',I.call (h':=hh) (g':=g) (d':=d) (t':=t) (ch:=[]) un hok bare (λb z=>absurd z ∅),r,q⟩
end
def LQ(sp:Sp)(xj:List V)(E:XK)(t:TA):TE:=λσ H Q=>t σ H λvs H1=>sp (vs++xj) H1 Q E
def Binds(K:PySem.W.Frag)(fd:FuncData)(ps:List Str)(ds:List Value):Prop:=
 ∀(s:Shared)(us:List Value),K.In s.heap->(us++ds).length=ps.length->BindsTo s fd ⟨us,[]⟩ (ps.zip (us++ds))
theorem Binds.all{K:PySem.W.Frag}{fd:FuncData}{ps:List Str}(h:∀us:List Value,us.length=ps.length->bindArgs fd ⟨us,[]⟩=pure (ps.zip us)):Binds K fd ps []:=λs us _ hl=>by rw[Ux]at hl ⊢;exact .of_eq (h us hl)
def sU(CX:nv)(X:Cx)(E:XK):Prop:=∀(pins:List (Addr×Obj))(σ:St)(H:Hp)(s:Shared)(e:Value)(s':Shared),Inv X pins σ H s->CX X.stack H s E e s'->X.xe e s'
section
variable{X:Cx}{CX:nv}{k:Nat}{f:Addr}{fd:FuncData}{ps:List Str}{sp:Sp}{xj:List V}{ds:List Value}{E:XK}{x:Str}{p pos:Pos}{e:Expr}{es:List Expr}{t:TA}
theorem HM{pins:List (Addr×Obj)}{σ:St}{H:Hp}{s:Shared}{Q:VK}{us:List Value}{vs:List V}(F:jF X.prog X.w X.K X.mg X.base CX k f fd ps sp)(hr:i7 k X.A)(hb:Binds X.K fd ps ds)(hd:aw xj ds)(hx:sU CX X E)
  (I:Inv X pins σ H s) (r:aw vs us) (h:sp (vs++xj) H Q E):wpAny (model X.prog X.w) X.A (call (.ref f) us) (EP X pins σ Q) X.xe s:=by
 have r2:aw (vs++xj) (us++ds):=r.append hd;have hl:(us++ds).length=ps.length:=by rw[<-r2.length];exact F.len _ _ _ _ h
 refine wpAny_call (codeAny_mono (F.run X.A X.stack s H ⟨us,[]⟩ (us++ds) (vs++xj) Q E hr I.NH (hb s us I.qX hl) r2 h) λr s' hq=>?_);cases r with
 |error e=>exact hx pins σ H s e s' I hq
 |ok fl=>
  cases fl with
  |ret u=>exact I.after hq
  |next=>exact False.elim hq
  |brk=>exact False.elim hq
  |cont=>exact False.elim hq
theorem Dp(F:jF X.prog X.w X.K X.mg X.base CX k f fd ps sp)(hr:i7 k X.A)(hg:Gl X x)(hm:X.mg x=some (.ref f))(hk:PySem.W.keepIn X.K (.ref f)=true)(hb:Binds X.K fd ps ds)(hd:aw xj ds)(hx:sU CX X E)
  (ha:PA X (e::es) t) (Cz:(x==("__debug__":Str))=false:=by decide) (he:starEach (e::es) X.env=(false,eval e X.env)::starEach es X.env:=by rfl) (sP:(backTo pos (starEach es X.env)).any (·.1)=false:=by rfl):
  PE X (.Call (.Name x p) (e::es) [] pos) (LQ sp xj E t):=by
 intro pins s σ H Q I h;refine Xb (vO I hg hm ?_ Cz);refine PySem.W.callWith_K (h₀:=X.base) I.ok.mod.GB hk (bV (ha pos pins s σ H _ I h) λus s1⟨vs,H1,I1,r,q⟩=>⟨I1.qX,?_⟩) he sP;exact HM F hr hb hd hx I1 r q
end
structure fI(N P:List Str)(sc:Scope):Prop where
 kind:sc.kind= .function
 co:sc.isCoroutine=false
 gen:sc.isGenerator=false
 nd:N.Nodup
 pre:N.take P.length=P
 par:∀x∈P,sc.names.lookup x=some .local\/sc.names.lookup x=some .cell
 GW:∀y∈sc.names,y.2≠ .free
theorem nI{kindOf:Str->Option NameKind}{x:Str}:∀{binds:List (Str×Value)}{m:Str->Option Value},(∀v,(x,v)∉binds)->bindL kindOf binds m x=m x
 |[],_,_=>rfl
 |(n,v)::r,m,h=>by
  unfold bindL;rw[nI λw hw=>h w (TK _ hw)];split
  ·have:x≠n:=by rintro rfl;exact h v TN
   simp[this]
  ·rfl
theorem nG{kindOf:Str->Option NameKind}{x:Str}:∀{binds:List (Str×Value)}{m:Str->Option Value},(∀v,(x,v)∉binds)->bindC kindOf binds m x=m x
 |[],_,_=>rfl
 |(n,v)::r,m,h=>by
  unfold bindC;rw[nG λw hw=>h w (TK _ hw)];split
  ·rfl
  ·have:x≠n:=by rintro rfl;exact h v TN
   simp[this]
theorem nH{kindOf:Str->Option NameKind}{x:Str}{v:Value}:∀{P:List Str}{vs:List Value}{i:Nat}{m:Str->Option Value},P.Nodup->P[i]?=some x->vs[i]?=some v->kindOf x=some .local->
  bindL kindOf (P.zip vs) m x=some v
 |[],_,_,_,_,h,_,_=>by simp at h
 |_::_,[],_,_,_,_,h,_=>by simp at h
 |p::P,w::vs,0,m,nd,h1,h2,hk=>by simp at h1 h2;subst h1;subst h2;show bindL kindOf ((p,w)::P.zip vs) m p=_;unfold bindL;rw[nI λv hv=>(V5.mp nd).1 (V6 hv).1,W0 hk];simp
 |p::P,w::vs,i+1,m,nd,h1,h2,hk=>by show bindL kindOf ((p,w)::P.zip vs) m x=_;unfold bindL;exact nH (i:=i) (V5.mp nd).2 ‹h1› ‹h2› hk
theorem nE{kindOf:Str->Option NameKind}{x:Str}{v:Value}:∀{P:List Str}{vs:List Value}{i:Nat}{m:Str->Option Value},P.Nodup->P[i]?=some x->vs[i]?=some v->kindOf x≠some .local->
  bindC kindOf (P.zip vs) m x=some v
 |[],_,_,_,_,h,_,_=>by simp at h
 |_::_,[],_,_,_,_,h,_=>by simp at h
 |p::P,w::vs,0,m,nd,h1,h2,hk=>by simp at h1 h2;subst h1;subst h2;show bindC kindOf ((p,w)::P.zip vs) m p=_;unfold bindC;rw[nG λv hv=>(V5.mp nd).1 (V6 hv).1,WZ hk];simp
 |p::P,w::vs,i+1,m,nd,h1,h2,hk=>by show bindC kindOf ((p,w)::P.zip vs) m x=_;unfold bindC;exact nE (i:=i) (V5.mp nd).2 ‹h1› ‹h2› hk
def start(N:List Str)(vs:List V):St:=vs.map some++List.replicate (N.length-vs.length) none
def qJ(CX:nv)(P:Program)(w:World)(K:PySem.W.Frag)(mg:Str->Option Value)(base:Heap)(N:List Str)(qual:Str)(scope:Scope)(f:Addr)(cd:Value)(A:Around)(outer:List Env)(s:Shared)(H:Hp)(E:XK):Cx where
 prog:=P
 w:=w
 K:=K
 mg:=mg
 base:=base
 A:=A.deeper (envOfC qual scope s.heap.objs.size f cd)
 N:=N
 s₀:=s
 H₀:=H
 env:=envOfC qual scope s.heap.objs.size f cd
 outer:=outer
 stack:=envOfC qual scope s.heap.objs.size f cd::outer
 ex:=[]
 calm:=true
 fn:=λ_=>true
 pn:=[]
 xe:=λe s'=>wpAny (model P w) (A.deeper (envOfC qual scope s.heap.objs.size f cd)) (leaving (envOfC qual scope s.heap.objs.size f cd) e) (λ_ s''=>CX outer H s E e s'') (λe' s''=>CX outer H s E e' s'') s'
theorem qG{sc:Scope}{n:Nat}{x:Str}(h:sc.names.lookup x=some .cell):∃c,(cellsFrom n sc.names []).lookup x=some c:=by have q:=WQ sc.names n [] (.inl h);exact Option.isSome_iff_exists.mp q
theorem xC{CX:nv}{P:Program}{w:World}{K:PySem.W.Frag}{mg:Str->Option Value}{base:Heap}{N ps:List Str}{qual:Str}{scope:Scope}{f:Addr}{cd:Value}{A:Around}{outer:List Env}{s s1:Shared}{H:Hp}{E:XK}{us:List Value}{vs:List V}
  (S:fI N ps scope) (hd:A.handled=none) (e0:BX P w K mg base A outer s H) (hl:vs.length=ps.length) (r:aw vs us)
  (x:InCallC s s.heap.objs.size (bindL (envOfC qual scope s.heap.objs.size f cd).kindOf (ps.zip us) λ_=>none) (cellsFrom (s.heap.objs.size+1) scope.names []) (bindC (envOfC qual scope s.heap.objs.size f cd).kindOf (ps.zip us) λ_=>none) s1):
  Inv (qJ CX P w K mg base N qual scope f cd A outer s H E) [] (start N vs) H s1:=by
 have sP:ps.length<=N.length:=by have:=WW List.length S.pre;rw[VR]at this;lia
 obtain⟨h1,tk,rfl,hk⟩:=x.done;have KS:∀b:Addr,b∉(qJ CX P w K mg base N qual scope f cd A outer s H E).ex:=λb z=>absurd (show b∈([]:List Addr) from z) ∅
 refine⟨⟨e0.mod,S.kind,rfl,rfl,TM _,λy z c h1 h2=>?_,λy hy=>?_,λy c _ h=>?_,λ_=>hd,Around.frames_deeper e0.frames,.inr ⟨rfl,rfl⟩,λb z=>absurd z (KS b),e0.bs,e0.En,λb _ _=>KS b,λb z=>absurd z (KS b),e0.lQ,e0.IQ⟩,
  rfl,e0.bare,Un.kept hk,⟨_,x.toInCall.ns,λi y v h1 h2 h3=>?_⟩,λy c h=>⟨_,x.cell y c h⟩,e0.hok.fresh (TM _),λy c h=>?_,λp hp=>absurd (show p∈([]:List (Addr×Obj)) from hp) ∅,e0.hok.kept hk,?_⟩
 ·exact name_of_addr x.apart (WS h1) (WS h2)
 ·have hy:scope.names.lookup y=some .cell\/scope.names.lookup y=some .free:=hy;rcases hy with hy|hy
  ·exact qG hy
  ·exact absurd rfl (S.GW _ (WS hy))
 ·exact Ws (x.above y c (WS h))
 ·have hi:i<vs.length:=by
   unfold start at h2;by_cases hi:i<vs.length
   ·exact hi
   ·rw[UA ‹hi›]at h2;rw[VD]at h2;split at h2<;>cases h2
  have ha:vs[i]?=some v:=by
   unfold start at h2;rw[Uz ‹hi›,T9]at h2;cases e:vs[i]? with
   |none=>rw[e]at h2;cases h2
   |some a=>rw[e]at h2;cases h2;rfl
  obtain⟨u,hu,rv⟩:=r.get ha;have hp:ps[i]?=some y:=by rw[<-S.pre,VF ()];exact h1
  have QA:ps.Nodup:=by rw[<-S.pre];exact S.nd.sublist (Wj _ _)
  refine⟨u,rv,?_⟩;rcases S.par y (V2 hp)with k|k
  ·exact .inl ⟨k,nH QA hp hu k⟩
  ·obtain⟨c,e⟩:=qG (n:=s.heap.objs.size+1) k;refine .inr ⟨.inl k,c,e,?_⟩;have q:=x.cell y c e;rw[nE QA hp hu (by show scope.names.lookup y≠_;rw[k];decide)]at q;exact q
 ·exact e0.hok.fresh (Ws (x.above y c (WS h)))
 ·unfold start;show _=N.length;rw[T6,TU,VO]
  lia
end L2
namespace L2
section
variable{X:Cx}{x:Str}{p pos:Pos}{e:Expr}{es:List Expr}{t:TA}{id T:String}{r:List V->Hp->VK->Prop}
def Pq(r:List V->Hp->VK->Prop)(t:TA):TE:=λσ H Q=>t σ H λvs H1=>r vs H1 Q
theorem rA(hc:df X (.builtin id) r)(hg:Gl X x)(hm:X.mg x=none)(hv:bootBuiltins x=some (.builtin id))(ha:PA X (e::es) t)(hn:x≠"__name__":=by decide)(Cz:(x==("__debug__":Str))=false:=by decide)
  (he:starEach (e::es) X.env=(false,eval e X.env)::starEach es X.env:=by rfl) (sP:(backTo pos (starEach es X.env)).any (·.1)=false:=by rfl):PE X (.Call (.Name x p) (e::es) [] pos) (Pq r t):=by
 intro pins s σ H Q I h;refine Xb (jR I hg hm hv ?_ hn Cz);exact PyProof.Rows.callWith_builtin1 (bV (ha pos pins s σ H _ I h) λus s1⟨vs,H1,I1,r1,q1⟩=>hc pins s1 σ H1 vs us Q I1 r1 q1) he sP
theorem xM(hc:df X (.type T) r)(hg:Gl X x)(hm:X.mg x=none)(hv:bootBuiltins x=some (.type T))(ha:PA X (e::es) t)(hn:x≠"__name__":=by decide)(Cz:(x==("__debug__":Str))=false:=by decide)
  (he:starEach (e::es) X.env=(false,eval e X.env)::starEach es X.env:=by rfl) (sP:(backTo pos (starEach es X.env)).any (·.1)=false:=by rfl):PE X (.Call (.Name x p) (e::es) [] pos) (Pq r t):=by
 intro pins s σ H Q I h;refine Xb (jR I hg hm hv ?_ hn Cz);exact WJ (bV (ha pos pins s σ H _ I h) λus s1⟨vs,H1,I1,r1,q1⟩=>hc pins s1 σ H1 vs us Q I1 r1 q1) he sP
end
end L2
namespace HT
section
variable{prog:Program}{w:World}{A:Around}{E:Value->Shared->Prop}{s:Shared}
theorem Cj{t b:Addr}{vs ws:List Value}{Q:Value->Shared->Prop}(ht:IsTup s.heap t vs.toArray)(hb:IsTup s.heap b ws.toArray)(hv:vs≠[])
  (h1:ws=[]->Q (.ref t) s) (h2:ws≠[]->Q (.ref s.heap.objs.size) {s with heap:=s.heap.push {cls:=.type "tuple",data:=.seq (vs++ws).toArray}})
  (nT:vs.length+ws.length<=sizeLine):wpAny (model prog w) A (binaryOp .Add (.ref t) (.ref b)) Q E s:=by
 obtain⟨⟨cls,dd,data,sl⟩,ho,hc,n,hd⟩:=id ht;obtain⟨⟨Jy,BA,data2,BR⟩,tW,xq,n2,hd2⟩:=id hb;simp only at hc hd xq hd2;subst hc hd xq hd2;have e:vs.toArray++ws.toArray=(vs++ws).toArray:=by simp
 by_cases hw:ws=[]
 ·exact concat_meets ⟨_,ho,rfl⟩ ⟨_,tW,rfl⟩ W6 seq_tuple_add WN WM (WL _ _)
   (tuple_addW1 t b vs.toArray ws.toArray n n2 dd BA sl BR ‹hv› (by simp[hw])) ⟨ho,tW,h1 hw⟩
 ·refine concat_meets ⟨_,ho,rfl⟩ ⟨_,tW,rfl⟩ W6 seq_tuple_add WN WM (WL _ _)
   (tuple_addW2 t b vs.toArray ws.toArray n n2 dd BA sl BR ‹hv› ‹hw› (by rw[TF,TF];exact nT)) ⟨ho,tW,?_⟩
  rw[e];exact h2 hw
def cv(n d:Nat):Option Int->Nat
 |none=>d
 |some v=>if v<0 then(v+(n:Int)).toNat else min v.toNat n
theorem mK(n d:Nat):cv n d none=d:=rfl
theorem wu(n d k:Nat):cv n d (some (k:Int))=min k n:=by show (if (k:Int)<0 then((k:Int)+(n:Int)).toNat else min (k:Int).toNat n)=min k n;rw[WZ (),Va]
theorem HN(n d:Nat)(hd:d<=n)(o:Option Int):cv n d o<=n:=by
 cases o with
 |none=>exact hd
 |some v=>
  show (if v<0 then(v+(n:Int)).toNat else min v.toNat n)<=n;by_cases hv:v<0
  ·rw[W0 hv];lia
  ·rw[WZ hv];exact Nat.min_le_right _ _
theorem u5(v:Int)(n d:Nat):(if v<0 then max (v+(n:Int)) 0 else min v (n:Int))=((cv n d (some v):Nat):Int):=by
 show (if v<0 then max (v+(n:Int)) 0 else min v (n:Int))=(((if v<0 then(v+(n:Int)).toNat else min v.toNat n):Nat):Int);by_cases hv:v<0
 ·simp only[W0 hv];lia
 ·simp only[WZ hv];lia
theorem sV(lo hi:Option Int)(n:Nat):Builtin.Slice.sliceAdjust lo hi 1 (n:Int)=(((cv n 0 lo:Nat):Int),((cv n n hi:Nat):Int)):=by
 have h1:¬((1:Int)<0):=()
 unfold Builtin.Slice.sliceAdjust;simp only[h1,WY];refine Prod.ext ?_ ?_
 ·cases lo with
  |none=>rfl
  |some v=>exact u5 v n 0
 ·cases hi with
  |none=>rfl
  |some v=>exact u5 v n n
theorem uo(i j:Nat):Builtin.Slice.slicePlaces (i:Int) (j:Int) 1=j-i:=by
 unfold Builtin.Slice.slicePlaces;have h1:(1:Int)>0:=()
 simp only[h1,W1,Int.ediv_one];split<;>lia
theorem mM{v:Value}{o:Option Int}{Q:Option Int->Shared->Prop}(p:IsPart v o)(h:Q o s):wpAny (model prog w) A (Builtin.Slice.slicePartIndex v) Q E s:=by
 cases p with
 |none=>exact slicePart_none h
 |int i t=>exact slicePart_int h
theorem fD{sl:Addr}{vl vu:Value}{lo hi:Option Int}{n:Nat}{Q:Int×Int×Nat->Shared->Prop}(hs:s.heap.IsSliceOf sl vl vu .none)(pl:IsPart vl lo)(pu:IsPart vu hi)
  (h:Q (((cv n 0 lo:Nat):Int),1,cv n n hi-cv n 0 lo) s):wpAny (model prog w) A (Builtin.Slice.sliceApplied (.ref sl) (pure (n:Int))) Q E s:=by
 obtain⟨os,Ge,Cw,Kf⟩:=id hs;unfold Builtin.Slice.sliceApplied Builtin.Slice.sliceFields;refine Tv (Tv (Xe Ge Kf (x:=vl) rfl (Tv (Xe Ge Kf (x:=vu) rfl (Tv (Xe Ge Kf (x:=.none) rfl (Tz ?_)))))));refine Tv (slicePart_none ?_);show wpAny _ _ (if ((1:Int)==0)=true then _ else _) _ _ s;rw[WZ ⋯];refine Tv (mM pl (Tv (mM pu (Tv (Tz ?_)))));show wpAny _ _ (match Builtin.Slice.sliceAdjust lo hi 1 (n:Int)with|(lo,hi)=>pure (lo,(1:Int),Builtin.Slice.slicePlaces lo hi 1)) _ _ s;rw[sV lo hi n];show wpAny _ _ (pure (((cv n 0 lo:Nat):Int),(1:Int),Builtin.Slice.slicePlaces ((cv n 0 lo:Nat):Int) ((cv n n hi:Nat):Int) 1)) _ _ s;rw[uo];exact Tz h
theorem AC(xs:Array Value)(i k:Nat):((List.range k).filterMap λ(m:Nat)=>xs[((i:Int)+(m:Int)*1).toNat]?).toArray=((xs.toList.drop i).take k).toArray:=by
 have e:(λ(m:Nat)=>xs[((i:Int)+(m:Int)*1).toNat]?)=λm=>xs[i+m]?:=by
  funext m;have:((i:Int)+(m:Int)*1).toNat=i+m:=()
  rw[this]
 rw[e];have:=pick_run xs i k;rw[List.filterMap_map]at this;have e2:((λx=>xs[x]?) ∘ λx=>i+x)=λm=>xs[i+m]?:=rfl
 rw[e2]at this;rw[this]
theorem jf{t sl:Addr}{items:Array Value}{vl vu:Value}{lo hi:Option Int}{Q:Value->Shared->Prop}(ht:IsTup s.heap t items)(hs:s.heap.IsSliceOf sl vl vu .none)(pl:IsPart vl lo)(pu:IsPart vu hi)
  (hw:¬(cv items.size 0 lo=0/\cv items.size items.size hi=items.size))
  (h:Q (.ref s.heap.objs.size) {s with heap:=s.heap.push {cls:=.type "tuple",data:=.seq ((items.toList.drop (cv items.size 0 lo)).take (cv items.size items.size hi-cv items.size 0 lo)).toArray}})
  (nT:items.size<=sizeLine):wpAny (model prog w) A (getItem (.ref t) (.ref sl)) Q E s:=by
 have vC:sizeOk (.seq ((items.toList.drop (cv items.size 0 lo)).take (cv items.size items.size hi-cv items.size 0 lo)).toArray):=by
  show ((items.toList.drop (cv items.size 0 lo)).take (cv items.size items.size hi-cv items.size 0 lo)).toArray.size<=sizeLine;rw[TF,VR,VJ,Ua]
  omega
 have hj:cv items.size items.size hi<=items.size:=HN _ _ (TM _) hi;obtain⟨os,Ge,Cw,Kf⟩:=id hs;have N4:s.TypeIs (.ref sl) "slice":=⟨os,Ge,Cw⟩;unfold getItem
 try with_reducible refine Xf ?_
 first|refine Tv (Tz ?_)|skip
 refine Tv (wpAny_sequenceKey ht.typeIs ⋯ ?_);refine Tv (Xc (name:=Str.ofString "__getitem__") ht.typeIs WK
  (Xd WK ht.typeIs entry_tuple_getitem ?_ (args_tuple_getitem _ _)))
 show wpAny _ _ (Builtin.Tuple.tupleItemsOf (.ref t) >>=_) _ _ s;refine Tv (tupleItemsOf_ ht ?_);refine Tv (Xq N4 ?_);rw[W0 ⋯];refine Tv (fD hs pl pu ?_);have ML:¬((((cv items.size 0 lo:Nat):Int)==0&&(1:Int)==1&&(cv items.size items.size hi-cv items.size 0 lo)==items.size)=true):=by intro q;rw[TC,TC]at q;have q1:((cv items.size 0 lo:Nat):Int)=0:=Ud q.1.1;have q2:cv items.size items.size hi-cv items.size 0 lo=items.size:=Ud q.2;exact hw ⟨(),()⟩
 show wpAny _ _ (if (((cv items.size 0 lo:Nat):Int)==0&&(1:Int)==1&&(cv items.size items.size hi-cv items.size 0 lo)==items.size)=true then _ else _) _ _ s;rw[WZ ML,AC]
 first
  |exact Tv (m:=Builtin.Tuple.tupleExact _) (Xh (Tz ⟨_,rfl,Tz h⟩) vC)
  |exact Tv (m:=Builtin.Tuple.tupleExact _) (Xh (Tv (Tz (Tz ⟨_,rfl,Tz h⟩))) vC)
  |exact Tv (Tv (m:=Builtin.Tuple.tupleExact _) (Xh (Tz (Tz ⟨_,rfl,Tz h⟩)) vC))
  |exact Tv (Tv (m:=Builtin.Tuple.tupleExact _) (Xh (Tz ⟨_,rfl,Tz h⟩) vC))
end
end HT
namespace L2
abbrev TO:=St->Hp->(Option Int->Hp->Prop)->Prop
def PO(X:Cx)(e:Option Expr)(t:TO):Prop:=
 ∀(pins:List (Addr×Obj))(s:Shared)(σ:St)(H:Hp)(Q:Option Int->Hp->Prop),Inv X pins σ H s->t σ H Q->
  wpAny (model X.prog X.w) X.A (evalPart e X.env) (λu s'=>∃o H',Inv X pins σ H' s'/\IsPart u o/\Q o H') X.xe s
def DZ:TO:=λ_ H Q=>Q none H
def LZ(t:TE):TO:=λσ H Q=>t σ H λx H1=>∃i,x= .int i/\Q (some i) H1
theorem intsAre_of{ns:List Int}:∀{us:List Value},aw (ns.map V.int) us->IntsAre us ns:=by
 induction ns with
 |nil=>intro us r;rw[VW]at r;cases r;exact .nil
 |cons n ns ih=>
  intro us r;rw[UB]at r;cases r with
  |cons r1 r2=>obtain⟨t,e⟩:=r1;subst e;exact .cons n t (ih r2)
section
variable{X:Cx}{e:Expr}{te:TE}{lo hi:Option Expr}{tl th:TO}{pos p2:Pos}
theorem vY:PO X none DZ:=by intro pins s σ H Q I h;rw[evalPart_none];exact Tz ⟨none,H,I,.none,h⟩
theorem vZ(h:PE X e te):PO X (some e) (LZ te):=by
 intro pins s σ H Q I hw;rw[evalPart_some];refine bV (h pins s σ H _ I hw) λu s1⟨x,H1,I1,r1,q1⟩=>?_
 obtain⟨i,rfl,q⟩:=q1;obtain⟨t,rfl⟩:=r1;exact⟨some i,H1,I1,.int i t,q⟩
def Jj(X:Cx)(r:V->Option Int->Option Int->Hp->VK->Prop):Prop:=
 ∀(pins:List (Addr×Obj))(s:Shared)(σ:St)(H:Hp)(x:V)(v vl vu:Value)(lo hi:Option Int)(sl:Addr)(Q:VK),Inv X pins σ H s->RelV x v->s.heap.IsSliceOf sl vl vu .none->IsPart vl lo->IsPart vu hi->r x lo hi H Q->
  ∃T id,typeLookup (.type T) "__getitem__"=pure (some (.builtin id))/\s.TypeIs v T/\wpAny (model X.prog X.w) X.A (getItem v (.ref sl)) (EP X pins σ Q) X.xe s
def SF(r:V->Option Int->Option Int->Hp->VK->Prop)(te:TE)(tl th:TO):TE:=λσ H Q=>te σ H λx H1=>tl σ H1 λl H2=>th σ H2 λu H3=>r x l u H3 Q
theorem rD{r:V->Option Int->Option Int->Hp->VK->Prop}(hr:Jj X r)(he:PE X e te)(hl:PO X lo tl)(hu:PO X hi th):PE X (.Subscript e (.Slice lo hi none p2) pos) (SF r te tl th):=by
 intro pins s σ H Q I h;refine Subscript_ (bV (he pins s σ H _ I h) λv s1⟨x,H1,I1,r1,q1⟩=>?_);refine wpAny_Slice (bV (hl pins s1 σ H1 _ I1 q1) λvl s2⟨l,H2,I2,pl,q2⟩=>bV (hu pins s2 σ H2 _ I2 q2) λvu s3⟨u,H3,I3,pu,q3⟩=>?_);rw[evalPart_none];refine Tz ?_;have I4:Inv X pins σ H3 {s3 with heap:=s3.heap.push {cls:=.type "slice",data:=.fields #[vl,vu,.none]}}:=I3.kept (t':=s3.toks) λb ob q=>Tx _ q
 obtain⟨T,id,hT,ht,hg⟩:=hr pins {s3 with heap:=s3.heap.push {cls:=.type "slice",data:=.fields #[vl,vu,.none]}} σ H3 x v vl vu l u s3.heap.objs.size Q I4 r1 (Heap.IsSliceOf.new ..) pl pu q3;show wpAny (model X.prog X.w) X.A (subscriptTail e (.Slice lo hi none p2) v (.ref s3.heap.objs.size)) (EP X pins σ Q) X.xe {s3 with heap:=s3.heap.push {cls:=.type "slice",data:=.fields #[vl,vu,.none]}};exact tail_any (ops:=[.ref s3.heap.objs.size,v]) ht hT hg (by with_unfolding_all rfl)
def mY(xs:List V)(lo hi:Option Int):List V:=(xs.drop (HT.cv xs.length 0 lo)).take (HT.cv xs.length xs.length hi-HT.cv xs.length 0 lo)
theorem j9(xs:List V)(lo hi:Option Int):(mY xs lo hi).length<=xs.length:=by
 unfold mY;rw[VR,VJ]
 lia
def O7(K:PySem.W.Frag):V->Option Int->Option Int->Hp->VK->Prop:=λx lo hi H Q=>∃a xs,x= .ref a/\fj K H a xs/\
 ¬(HT.cv xs.length 0 lo=0/\HT.cv xs.length xs.length hi=xs.length)/\∀p,H p=none->Q (.ref p) (upd H p (.tup (mY xs lo hi)))
theorem Ib:Jj X (O7 X.K):=by
 intro pins s σ H x v vl vu lo hi sl Q I rx hs pl pu h;obtain⟨a,xs,rfl,hx,hw,q⟩:=h;cases rx;obtain⟨its,r,ht,hz⟩:=I.tuple hx;have hlen:its.toArray.size=xs.length:=by rw[TF];exact r.length.symm
 refine⟨"tuple",_,WK.lookup,ht.typeIs,?_⟩;refine HT.jf ht hs pl pu (by rw[hlen];exact hw) ?_ (by rw[hlen];exact hz);rw[hlen];refine⟨.ref s.heap.objs.size,_,I.laid (t':=s.toks) (o:=.tup (mY xs lo hi)) (λb ob q=>Tx _ q) (TM _) ?_,rfl,q _ (I.hok.fresh (TM _))⟩;exact⟨TX (j9 xs lo hi) hz,_,(r.drop (HT.cv xs.length 0 lo)).take (HT.cv xs.length xs.length hi-HT.cv xs.length 0 lo),mX.new _ _⟩
def Lk(K:PySem.W.Frag):R2:=λx y H Q=>∃a b xs ys,x= .ref a/\y= .ref b/\fj K H a xs/\fj K H b ys/\xs≠[]/\xs.length+ys.length<=sizeLine/\
 (ys=[]->Q (.ref a) H)/\(ys≠[]->∀p,H p=none->Q (.ref p) (upd H p (.tup (xs++ys))))
theorem aw.pM{xs:List V}{us:List Value}(r:aw xs us):us=[]↔xs=[]:=by
 cases r with
 |nil=>simp
 |cons _ _=>simp
theorem De:lp X (binaryOp .Add) (Lk X.K):=by intro pins s σ H x y v u Q I rx ry h;obtain⟨a,b,xs,ys,rfl,rfl,ha,hb,hx,hz,q1,q2⟩:=h;cases rx;cases ry;obtain⟨its,r1,p1,_⟩:=I.tuple ha;obtain⟨cn,r2,p2,_⟩:=I.tuple hb;refine HT.Cj p1 p2 (λz=>hx (r1.pM.mp z)) (λz=>⟨.ref a,H,I,rfl,q1 (r2.pM.mp z)⟩) (λz=>?_) (by rw[<-r1.length,<-r2.length];exact hz);refine⟨.ref s.heap.objs.size,_,I.laid (t':=s.toks) (o:=.tup (xs++ys)) (λb ob q=>Tx _ q) (TM _) ?_,rfl,q2 (λw=>z (r2.pM.mpr w)) _ (I.hok.fresh (TM _))⟩;exact⟨by rw[T6];exact hz,_,r1.append r2,mX.new _ _⟩
end
end L2
namespace L2
def pB(n:Nat)(i:Int):Option Nat:=if 0<=i then(if i<n then some i.toNat else none) else if -(n:Int)<=i then some (i+n).toNat else none
def nB{α:Type}(xs:List α)(i:Int):Option α:=(pB xs.length i).bind λj=>xs[j]?
theorem vI{n:Nat}{i:Int}{j:Nat}(h:pB n i=some j):seqIndex? i n=some j/\j<n/\ -(n:Int)<=i/\i<n:=by
 unfold pB at h;by_cases h0:0<=i
 ·rw[W0 h0]at h;by_cases h1:i<n
  ·rw[W0 h1]at h;have e:i.toNat=j:=WI h;exact⟨by rw[seqIndex_of h0 h1,e],(),(),h1⟩
  ·rw[WZ h1]at h;cases h
 ·rw[WZ h0]at h;by_cases h1: -(n:Int)<=i
  ·rw[W0 h1]at h;have e:(i+n).toNat=j:=WI h;exact⟨by rw[seqIndex_neg () h1,e],(),h1,()⟩
  ·rw[WZ h1]at h;cases h
theorem uS{α:Type}{xs:List α}{i:Int}{v:α}(h:nB xs i=some v):∃j,seqIndex? i xs.length=some j/\xs[j]?=some v/\j<xs.length/\ -(xs.length:Int)<=i/\i<xs.length:=by
 unfold nB at h;cases e:pB xs.length i with
 |none=>rw[e]at h;cases h
 |some j=>rw[e]at h;obtain⟨h1,h2,h3,h4⟩:=vI e;exact⟨j,h1,h,h2,h3,h4⟩
theorem kK{α:Type}{xs:List α}{j:Nat}{v:α}(h:xs[j]?=some v):nB xs (j:Int)=some v:=by
 have hj:j<xs.length:=(TJ.mp h).1;have e:pB xs.length (j:Int)=some j:=by unfold pB;rw[W0 (),W0 ()];simp
 unfold nB;rw[e];exact h
theorem qD{α:Type}(xs:List α)(v:α):nB (xs++[v]) (-1)=some v:=by
 have hl:(xs++[v]).length=xs.length+1:=by simp
 have e:pB (xs++[v]).length (-1)=some xs.length:=by
  unfold pB;rw[hl,WZ ⋯,W0 ()];congr 1
  lia
 unfold nB;rw[e];show (xs++[v])[xs.length]?=some v;simp
def oF(b:Expr):Prop:=∀o i,subscripted b false o i=operate [o,i] (getItem o i)
def Ml(X:Cx)(r:R2):Prop:=
 ∀(value slice:Expr)(pins:List (Addr×Obj))(s:Shared)(σ:St)(H:Hp)(x y:V)(v u:Value)(Q:VK),Inv X pins σ H s->RelV x v->RelV y u->r x y H Q->
  subscripted slice false v u=operate [v,u] (getItem v u)->wpAny (model X.prog X.w) X.A (subscriptTail value slice v u) (EP X pins σ Q) X.xe s
def PD(X:Cx)(id:String)(r:V->List V->Hp->VK->Prop):Prop:=
 ∀(pins:List (Addr×Obj))(s:Shared)(σ:St)(H:Hp)(x:V)(xs:List V)(v:Value)(us:List Value)(Q:VK),Inv X pins σ H s->RelV x v->aw xs us->r x xs H Q->
  wpAny (model X.prog X.w) X.A (call (.builtin id) (v::us)) (EP X pins σ Q) X.xe s
section
variable{X:Cx}{a b:Expr}{ta tb:TE}{pos:Pos}
theorem Lb{r:R2}(hr:Ml X r)(ha:PE X a ta)(hb:PE X b tb)(hs:oF b):PE X (.Subscript a b pos) (MZ r ta tb):=by intro pins s σ H Q I h;exact Subscript_ (Fz ha hb I h λv u s2 x y H2 I2 rx ry q=>hr a b pins s2 σ H2 x y v u Q I2 rx ry q (hs _ _))
def OY(K:PySem.W.Frag):R2:=λx y H Q=>∃p xs i v,x= .ref p/\y= .int i/\dF K H p xs/\nB xs i=some v/\Q v H
def OZ(K:PySem.W.Frag):R2:=λx y H Q=>∃p xs i v,x= .ref p/\y= .int i/\fj K H p xs/\nB xs i=some v/\Q v H
theorem vK:Ml X (OY X.K):=by
 intro value slice pins s σ H x y v u Q I rx ry h hs;obtain⟨p,xs,i,z,rfl,rfl,hq,he,q⟩:=h;cases rx;obtain⟨t,rfl⟩:=ry;obtain⟨its,r,pl,hz⟩:=I.list hq;obtain⟨j,h1,h2,h3,h4,h5⟩:=uS he;obtain⟨w,ew,Lo⟩:=r.get h2;have hl:=r.length;have hn:=l7;have fin:EP X pins σ Q w s:=⟨z,H,I,Lo,q⟩;by_cases h0:0<=i
 ·have hj:i.toNat=j:=by rw[seqIndex_of h0 h5]at h1;exact WI h1
  exact item_listR pl.isList h0 () (by rw[hj];simpa using ew) fin hs
 ·have hj:(i+(its.toArray.size:Int)).toNat=j:=by rw[seqIndex_neg () h4]at h1;rw[TF,<-hl];exact WI h1
  exact subscriptTail_builtinR (x:=w) pl.isList.typeIs slot_list_getitem.lookup
   (wpAny_getItem_list_neg (Q:=λr s'=>r=w/\EP X pins σ Q r s') pl.isList () (by rw[TF]<;>lia) () (by rw[hj];simpa using ew) ⟨rfl,fin⟩) hs
theorem Gu:Ml X (OZ X.K):=by
 intro value slice pins s σ H x y v u Q I rx ry h hs;obtain⟨p,xs,i,z,rfl,rfl,hq,he,q⟩:=h;cases rx;obtain⟨t,rfl⟩:=ry;obtain⟨its,r,pl,hz⟩:=I.tuple hq;obtain⟨j,h1,h2,h3,h4,h5⟩:=uS he;obtain⟨w,ew,Lo⟩:=r.get h2;have hl:=r.length;have hn:=l7;have fin:EP X pins σ Q w s:=⟨z,H,I,Lo,q⟩;exact subscriptTail_builtinR (x:=w) pl.typeIs slot_tuple_getitem.lookup
  (getItem_tuple (j:=j) (Q:=λr s'=>r=w/\EP X pins σ Q r s') pl () () (by rw[TF,<-hl];exact h1) ‹ew› ⟨rfl,fin⟩) hs
theorem ud(its:List Value)(n j:Nat)(u:Value):Obj.mapSeq (·.setIfInBounds j u) {cls:=.type "list",data:=.seq its.toArray n}={cls:=.type "list",data:=.seq (its.set j u).toArray n}:=by simp[Obj.mapSeq]
theorem Inv.lst{pins:List (Addr×Obj)}{σ:St}{H:Hp}{s:Shared}{p:Addr}{xs:List V}(I:Inv X pins σ H s)(h:H p=some (.lst xs)):
  ∃(its:List Value)(n:Nat),aw xs its/\s.heap.get? p=some {cls:=.type "list",data:=.seq its.toArray n}/\xs.length<=sizeLine:=by
 obtain⟨z,its,n,r,e⟩:=I.hok p _ h;exact⟨its,n,r,e,z⟩
theorem Inv.GG{pins:List (Addr×Obj)}{σ:St}{H:Hp}{s:Shared}{p:Addr}{xs ys:List V}{its its':List Value}{n n':Nat}{f:Obj->Obj}(I:Inv X pins σ H s)(h:H p=some (.lst xs))
  (ho:s.heap.get? p=some {cls:=.type "list",data:=.seq its.toArray n}) (hf:f {cls:=.type "list",data:=.seq its.toArray n}={cls:=.type "list",data:=.seq its'.toArray n'}) (r:aw ys its') (hz:ys.length<=sizeLine) (t:Nat):
  Inv X pins σ (upd H p (.lst ys)) {s with heap:=s.heap.update p f,toks:=t}:=by
 have e:(s.heap.update p f).get? p=some {cls:=.type "list",data:=.seq its'.toArray n'}:=by rw[Heap.get?_update_self f ho (by rw[hf]<;>rfl),hf]
 refine I.write (x:=p) (e:=p) (by rw[h];trivial) (.inl rfl) (λb u hb q=>(Uj _ _ (WH hb)).trans q) ⟨_,e⟩ ?_;exact⟨hz,its',n',r,e⟩
def EY:V->V->V->Hp->(Hp->Prop)->Prop:=λo i v H Q=>∃p xs k j,o= .ref p/\i= .int k/\H p=some (.lst xs)/\pB xs.length k=some j/\Q (upd H p (.lst (xs.set j v)))
theorem set_list:Ji X EY:=by
 intro pins s σ H o i v ov iv u Q I ro ri rv h;obtain⟨p,xs,k,j,rfl,rfl,hp,hj,q⟩:=h;cases ro;obtain⟨t,rfl⟩:=ri;obtain⟨its,n,r,ho,hz⟩:=I.lst hp;obtain⟨h1,h2,h3,h4⟩:=vI hj;have hl:=r.length;have hn:=l7;have I':Inv X pins σ (upd H p (.lst (xs.set j v))) {s with heap:=s.heap.update p (Obj.mapSeq (·.setIfInBounds j u))}:=
  I.GG hp ho (ud its n j u) (r.set rv j) (by rw[VP];exact hz) s.toks
 by_cases h0:0<=k
 ·have hk:k.toNat=j:=by rw[seqIndex_of h0 h4]at h1;exact WI h1
  exact PySem.W.ki_setAt ho h0 () (by rw[TF,<-hl];exact h4) (by rw[hk];exact⟨_,I',q⟩)
 ·have hk:(k+(its.toArray.size:Int)).toNat=j:=by rw[seqIndex_neg () h3]at h1;rw[TF,<-hl];exact WI h1
  exact PySem.W.ki_setBack ho () (by rw[TF,<-hl];exact h3) () (by rw[hk];exact⟨_,I',q⟩)
theorem p9(lo hi:Option Int)(n:Nat):(sliceBounds lo hi none n).1=((HT.cv n 0 lo:Nat):Int)/\(sliceBounds lo hi none n).2.1=((HT.cv n n hi:Nat):Int)/\(sliceBounds lo hi none n).2.2=1:=by
 refine⟨?_,?_,rfl⟩
 ·cases lo with
  |none=>simp[sliceBounds,HT.cv]
  |some i=>
   simp only[sliceBounds,HT.cv,Option.getD_none,show (1:Int)>0 by decide,W1];by_cases h:i<0
   ·simp only[h,W1]<;>lia
   ·simp only[h,WY]<;>lia
 ·cases hi with
  |none=>simp[sliceBounds,HT.cv]
  |some i=>
   simp only[sliceBounds,HT.cv,Option.getD_none,show (1:Int)>0 by decide,W1];by_cases h:i<0
   ·simp only[h,W1]<;>lia
   ·simp only[h,WY]<;>lia
theorem nk(its:List Value)(lo hi:Option Int):slicePick its.toArray lo hi none=((its.drop (HT.cv its.length 0 lo)).take (HT.cv its.length its.length hi-HT.cv its.length 0 lo)).toArray:=by obtain⟨h1,h2,h3⟩:=p9 lo hi its.toArray.size;unfold slicePick;rw[h1,h2,h3];simp only[sliceRange_one,pick_run,TF]<;>rfl
def O6(K:PySem.W.Frag):V->Option Int->Option Int->Hp->VK->Prop:=λx lo hi H Q=>∃a xs,x= .ref a/\dF K H a xs/\∀p,H p=none->Q (.ref p) (upd H p (.lst (mY xs lo hi)))
theorem wy:Jj X (O6 X.K):=by intro pins s σ H x v vl vu lo hi sl Q I rx hs pl pu h;obtain⟨a,xs,rfl,hx,q⟩:=h;cases rx;obtain⟨its,r,ht,hz⟩:=I.list hx;have hlen:=r.length;refine⟨"list",_,slot_list_getitem.lookup,ht.isList.typeIs,?_⟩;refine wpAny_getItem_list_slice ht.isList hs pl pu .none ∅ ?_ (by rw[TF]<;>lia);rw[nk,<-hlen];refine⟨.ref s.heap.objs.size,_,I.laid (t':=s.toks) (o:=.lst (mY xs lo hi)) (λb ob q=>Tx _ q) (TM _) ?_,rfl,q _ (I.hok.fresh (TM _))⟩;exact⟨TX (j9 xs lo hi) hz,_,0,(r.drop (HT.cv xs.length 0 lo)).take (HT.cv xs.length xs.length hi-HT.cv xs.length 0 lo),TQ _ rfl⟩
theorem fJ:df X (.type "list") (λxs H Q=>∃p ys,xs=[.ref p]/\(dF X.K H p ys\/fj X.K H p ys)/\∀l,H l=none->Q (.ref l) (upd H l (.lst ys))):=by
 intro pins s σ H xs us Q I r h;obtain⟨p,ys,rfl,hq,q⟩:=h;obtain⟨u,rfl,rx⟩:=vals1 r;cases rx;have fin:∀(its:List Value),aw ys its->ys.length<=sizeLine->∀(h':Heap)(c':Nat),(∀b o',s.heap.get? b=some o'->h'.get? b=some o')->
   h'.get? s.heap.objs.size=some {cls:=.type "list",dict:=none,data:=.seq its.toArray c',slots:=#[]}->EP X pins σ Q (.ref s.heap.objs.size) {s with heap:=h'}:=λits r' hz h' c' kp e=>
  ⟨.ref s.heap.objs.size,_,I.laid (t':=s.toks) kp (TM _) (show bW X.prog X.w _ h' _ (.lst ys) from⟨hz,its,c',r',e⟩),rfl,q _ (I.hok.fresh (TM _))⟩
 rcases hq with hq|hq
 ·obtain⟨its,r',pl,hz⟩:=I.list hq;have hlen:=r'.length;obtain⟨o,ho,hc,n,hd⟩:=pl.isList;exact call_list_seq p (.inl rfl) ho hc hd (λh' c' kp e=>fin its r' hz h' c' kp e) (by simp only[TF]<;>lia)
 ·obtain⟨its,r',pl,hz⟩:=I.tuple hq;have hlen:=r'.length;obtain⟨o,ho,hc,n,hd⟩:=pl;exact call_list_seq p (.inr rfl) ho hc hd (λh' c' kp e=>fin its r' hz h' c' kp e) (by simp only[TF]<;>lia)
theorem iE:df X (.type "tuple") (λxs H Q=>∃p ys,xs=[.ref p]/\((dF X.K H p ys/\∀l,H l=none->Q (.ref l) (upd H l (.tup ys)))\/(fj X.K H p ys/\Q (.ref p) H))):=by
 intro pins s σ H xs us Q I r h;obtain⟨p,ys,rfl,h⟩:=h;obtain⟨u,rfl,rx⟩:=vals1 r;cases rx;rcases h with ⟨hq,q⟩|⟨hq,q⟩
 ·obtain⟨its,r',pl,hz⟩:=I.list hq;have hlen:=r'.length;refine call_tuple_list pl.isList (λh' kp=>?_) (by simp only[TF]<;>lia);have I1:Inv X pins σ H {s with heap:=h'}:=I.kept (t':=s.toks) kp;have I2:Inv X pins σ (upd H h'.objs.size (.tup ys)) {s with heap:=h'.push {cls:=.type "tuple",data:=.seq its.toArray}}:=
   I1.laid (t':=s.toks) (λb o e=>Tx _ e) (TM _) (show bW X.prog X.w _ _ _ (.tup ys) from⟨hz,its,r',mX.new _ _⟩)
  exact⟨.ref h'.objs.size,_,I2,rfl,q _ (I1.hok.fresh (TM _))⟩
 ·obtain⟨its,r',pl,hz⟩:=I.tuple hq;exact call_tuple_same pl ⟨.ref p,H,I,rfl,q⟩
def Pz(K:PySem.W.Frag)(T:String)(x:V)(H:Hp):Prop:=match x with
 |.str _=>T="str"
 |.int _=>T="int"
 |.ref p=>(T="list"/\∃xs,dF K H p xs)\/(T="tuple"/\∃o,K.lookup p=some o/\o.cls= .type "tuple"/\o.dict=none)\/
   (T="dict"/\((∃dG,H p=some (.dK dG))\/∃dG,H p=some (.dT dG)))\/(T="set"/\∃S n,H p=some (.set S n))
 |_=>False
theorem Bi{pins:List (Addr×Obj)}{σ:St}{H:Hp}{s:Shared}{T:String}{x:V}{v:Value}(I:Inv X pins σ H s)(r:RelV x v)(ty:Pz X.K T x H):
  s.TypeIs v T/\∀a,v= .ref a->∃ob,s.heap.get? a=some ob/\ob.dict=none:=by
 cases x with
 |str z=>obtain⟨t,rfl⟩:=r;cases (show T="str" from ty);exact⟨typeIs_str s z t,λ_ e=>nomatch e⟩
 |int i=>obtain⟨t,rfl⟩:=r;cases (show T="int" from ty);exact⟨typeIs_int s i t,λ_ e=>nomatch e⟩
 |ref p=>
  cases r;rcases ty with ⟨rfl,xs,hq⟩|⟨rfl,o,hk,hc,hd⟩|⟨rfl,hk⟩|⟨rfl,S,n,hk⟩
  ·obtain⟨its,_,pl,_⟩:=I.list hq;refine⟨pl.isList.typeIs,λa e=>?_⟩;cases e;obtain⟨o,n,e,c,hd,_⟩:=pl;exact⟨o,e,hd⟩
  ·refine⟨⟨o,I.qX p o hk,hc⟩,λa e=>?_⟩;cases e;exact⟨o,I.qX _ o hk,hd⟩
  ·have z:∃o,s.heap.get? p=some o/\o.ExactDict:=by
    rcases hk with ⟨dG,hk⟩|⟨dG,hk⟩
    ·obtain⟨_,_,_,_,o,_,_,e,ex,_⟩:=I.hok p _ hk;exact⟨o,e,ex⟩
    ·obtain⟨_,_,_,_,o,_,_,e,ex,_⟩:=I.hok p _ hk;exact⟨o,e,ex⟩
   obtain⟨o,e,ex⟩:=z;refine⟨⟨o,e,ex.1⟩,λa e2=>?_⟩;cases e2;exact⟨o,e,ex.2.1⟩
  ·obtain⟨o,_,_,_,e,ex,_⟩:=I.hok p _ hk;refine⟨⟨o,e,ex.1⟩,λa e2=>?_⟩;cases e2;exact⟨o,e,ex.2.1⟩
 |_=>exact False.elim ty
def LP(K:PySem.W.Frag)(T:String)(r:V->List V->Hp->VK->Prop)(to:TE):TE:=λσ H Q=>to σ H λx H1=>Pz K T x H1/\r x [] H1 Q
def QL(K:PySem.W.Frag)(T:String)(r:V->List V->Hp->VK->Prop)(to:TE)(t:TA):TE:=λσ H Q=>to σ H λx H1=>Pz K T x H1/\t σ H1 λxs H2=>r x xs H2 Q
variable{o e:Expr}{es:List Expr}{to:TE}{t:TA}{name:Str}{apos gC:Pos}{T id:String}{r:V->List V->Hp->VK->Prop}
theorem Hj(pa:PlainAttrs T)(slot:Slot T name id)(Ol:typeOf (.builtin id)=pure (.type "method_descriptor"))(hm:PD X id r)(ho:PE X o to)
  (zP:attributeBase o name X.env (eval o X.env)=eval o X.env:=by rfl) (zX:(apos.endLine==gC.line)=true:=by rfl):PE X (.Call (.Attribute o name apos) [] [] gC) (LP X.K T r to):=by
 intro pins s σ H Q I h;refine wpAny_Call_method0_late zP zX (bV (ho pins s σ H _ I h) λv s1⟨x,H1,I1,r1,ty,q1⟩=>?_);obtain⟨h1,h2⟩:=Bi I1 r1 ty;exact⟨T,id,pa,slot,Ol,h1,h2,Calls.callWith_builtin rfl (PySem.evalArgs_none (hm pins s1 σ H1 x [] v [] Q I1 r1 .nil q1))⟩
theorem La(pa:PlainAttrs T)(slot:Slot T name id)(Ol:typeOf (.builtin id)=pure (.type "method_descriptor"))(hm:PD X id r)(ho:PE X o to)(ha:PA X (e::es) t)
  (zP:attributeBase o name X.env (eval o X.env)=eval o X.env:=by rfl)
  (N9:((backTo gC (starEach (e::es) X.env)).all (λx=> !x.1)&&(backToKw gC (keywordEach [] X.env)).all (λx=>x.1.isSome)
   &&decide ((e::es).length+([]:List Keyword).length+(if ([]:List Keyword).isEmpty then 0 else 1)<30))=true:=by rfl)
  (zX:(apos.endLine==gC.line)=true:=by rfl) (hs:starEach (e::es) X.env=(false,eval e X.env)::starEach es X.env:=by rfl) (Gg:(backTo gC (starEach es X.env)).any (·.1)=false:=by rfl):
  PE X (.Call (.Attribute o name apos) (e::es) [] gC) (QL X.K T r to t):=by
 intro pins s σ H Q I h;refine wpAny_Call_method_late zP N9 zX rfl (bV (ho pins s σ H _ I h) λv s1⟨x,H1,I1,r1,ty,q1⟩=>?_);obtain⟨h1,h2⟩:=Bi I1 r1 ty;refine⟨T,id,pa,slot,Ol,h1,h2,?_⟩;have hA:=ha gC pins s1 σ H1 _ I1 q1;rw[hs]at hA ⊢;refine Calls.callWith_builtin (by show (false||(backTo gC (starEach es X.env)).any (·.1))=false;rw[Gg]<;>rfl) (Calls.evalArgs_plain ?_);exact bV hA λus s2⟨vs,H2,I2,r2,q2⟩=>hm pins s2 σ H2 x vs v us Q I2 r1 r2 q2
end
end L2
namespace L2
def Mn(X:Cx)(id:String)(r:V->List V->Hp->VK->Prop):Prop:=
 ∀(pins:List (Addr×Obj))(s:Shared)(σ:St)(H:Hp)(x:V)(xs:List V)(v:Value)(us:List Value)(Q:VK),Inv X pins σ H s->RelV x v->aw xs us->r x xs H Q->
  wpAny (model X.prog X.w) X.A (call (.builtin id) (v::us)) (EP X pins σ Q) X.xe s
theorem aw.cons_inv{x:V}{xs:List V}{us:List Value}(h:aw (x::xs) us):∃u ut,us=u::ut/\RelV x u/\aw xs ut:=by
 cases h with
 |cons r t=>exact⟨_,_,rfl,r,t⟩
theorem aw.one{x:V}{us:List Value}(h:aw [x] us):∃u,us=[u]/\RelV x u:=
 have ⟨u,ut,e,r,t⟩:=h.cons_inv
 ⟨u,by cases t;exact e,r⟩
theorem aw.two{x y:V}{us:List Value}(h:aw [x,y] us):∃u v,us=[u,v]/\RelV x u/\RelV y v:=
 have ⟨u,ut,e,r,t⟩:=h.cons_inv;have ⟨v,e2,q⟩:=t.one
 ⟨u,v,e2▸e,r,q⟩
theorem aw.zero:∀{us:List Value},aw [] us->us=[]
 |_,.nil=>rfl
theorem aw.dropLast{xs:List V}{us:List Value}(h:aw xs us):aw xs.dropLast us.dropLast:=by
 induction h with
 |nil=>exact .nil
 |cons r t ih=>
  cases t with
  |nil=>exact .nil
  |cons q t'=>exact .cons r ih
theorem aw.rep{xs:List V}{us:List Value}(h:aw xs us):∀k:Nat,aw (List.replicate k xs).flatten (List.replicate k us).flatten
 |0=>.nil
 |k+1=>by rw[Wc,Wc,Vz,Vz];exact aw.append h (aw.rep h k)
theorem tF{α:Type}(l:List α):l.eraseIdx (l.length-1)=l.dropLast:=by
 induction l with
 |nil=>rfl
 |cons a r ih=>
  cases r with
  |nil=>rfl
  |cons b r=>
   have e:(a::b::r).length-1=((b::r).length-1)+1:=by
    have h1:(a::b::r).length=r.length+2:=rfl;have h2:(b::r).length=r.length+1:=rfl
    lia
   rw[e,List.eraseIdx_cons_succ,ih]
   all_goals rfl
theorem foldl_rep(its:List Value):∀(k:Nat)(acc:List Value),
  List.foldl (λx1 x2=>x1++x2) acc.toArray (List.replicate k its.toArray)=(acc++(List.replicate k its).flatten).toArray
 |0,acc=>by simp
 |k+1,acc=>by
  have e:acc.toArray++its.toArray=(acc++its).toArray:=by simp
  have e2:(acc++its)++(List.replicate k its).flatten=acc++(List.replicate (k+1) its).flatten:=by rw[Wc,Vz,T4]
  rw[<-e2,<-foldl_rep its k (acc++its),<-e,Wc,List.foldl_cons]
section
variable{X:Cx}{pins:List (Addr×Obj)}{σ:St}{H:Hp}{s:Shared}{l:Addr}{xs ys:List V}
theorem Inv.CW{its its':List Value}{n:Nat}{f:Array Value->Array Value}{t':Nat}(I:Inv X pins σ H s)(hH:H l=some (.lst xs))
  (e:s.heap.get? l=some {cls:=.type "list",data:=.seq its.toArray n}) (hf:f its.toArray=its'.toArray) (hv:aw ys its') (hz:ys.length<=sizeLine):
  Inv X pins σ (upd H l (.lst ys)) {s with heap:=s.heap.update l (Obj.mapSeq f),toks:=t'}:=by
 have q:=PySem.IsL.update e f;rw[hf]at q;refine I.write (x:=l) (e:=l) (by rw[hH];exact trivial) (.inl rfl) (λb' u hb hu=>(Uj s.heap (Obj.mapSeq f) (WH hb)).trans hu) ⟨_,q⟩ ?_;exact⟨hz,its',_,hv,q⟩
theorem Inv.GF{its:List Value}{t':Nat}(I:Inv X pins σ H s)(hv:aw ys its)(hz:ys.length<=sizeLine):
  Inv X pins σ (upd H s.heap.objs.size (.lst ys)) {s with heap:=s.heap.push {cls:=.type "list",data:=.seq its.toArray},toks:=t'}:=
 I.laid (λ_ _ q=>Tx _ q) (TM _) ⟨hz,its,0,hv,TQ _ rfl⟩
theorem Inv.fresh(I:Inv X pins σ H s):H s.heap.objs.size=none:=I.hok.fresh (TM _)
theorem Inv.q5(I:Inv X pins σ H s)(hH:H l=some (.lst xs)):xs.length<=sizeLine/\∃(its:List Value)(n:Nat),aw xs its/\xs.length=its.length/\s.heap.get? l=some {cls:=.type "list",data:=.seq its.toArray n}:=by obtain⟨z,its,n,r,e⟩:=I.hok l _ hH;exact⟨z,its,n,r,r.length,e⟩
theorem rj{n:Nat}(h:n<=sizeLine):Builtin.List.listTooLong n=false:=by unfold Builtin.List.listTooLong;exact Ug ()
end
section
variable{X:Cx}
def wo:V->List V->Hp->VK->Prop:=λx vs H Q=>∃l xs y,x= .ref l/\vs=[y]/\H l=some (.lst xs)/\xs.length<sizeLine/\Q .bg (upd H l (.lst (xs++[y])))
theorem og:Mn X "list.append" wo:=by
 intro pins s σ H x vs v us Q I rx rv h;obtain⟨l,xs,y,rfl,rfl,hH,hz,q⟩:=h;cases rx;obtain⟨u,rfl,ru⟩:=rv.one;obtain⟨z,its,n,r,hl,e⟩:=I.q5 hH;refine WV F.slot_list_append ⟨_,e,rfl⟩ F.entry_list_append (F.args_list_append_2 _ _) (PySem.list_append l its.toArray n u (by rw[TF];lia)) ⟨e,?_⟩;refine⟨.bg,_,I.CW (its':=its++[u]) hH e ∅ (r.append (.cons ru .nil)) ?_,rfl,q⟩;rw[T6,VQ]
 lia
def DP:V->List V->Hp->VK->Prop:=λx vs H Q=>∃l b xs zs,x= .ref l/\vs=[.ref b]/\H l=some (.lst xs)/\H b=some (.lst zs)/\xs.length+zs.length<=sizeLine/\Q .bg (upd H l (.lst (xs++zs)))
theorem IZ:Mn X "list.extend" DP:=by
 intro pins s σ H x vs v us Q I rx rv h;obtain⟨l,b,xs,zs,rfl,rfl,hH,hB,hz,q⟩:=h;cases rx;obtain⟨u,rfl,ru⟩:=rv.one;cases ru;obtain⟨z,its,n,r,hl,e⟩:=I.q5 hH;obtain⟨z2,cn,n2,r2,fZ,e2⟩:=I.q5 hB;have nT:its.toArray.size+cn.toArray.size<=sizeLine:=by rw[TF,TF];lia
 have zY:¬(!its.toArray.isEmpty&&Builtin.List.listTooLong (its.toArray.size+cn.toArray.size))=true:=by rw[rj nT,UL];exact UP
 refine WV F.slot_list_extend ⟨_,e,rfl⟩ F.entry_list_extend (F.args_list_extend_2 _ _)
  (AutoSeq1.list_extend_list_list_0 l its.toArray n b cn.toArray n2 zY (by rw[TF];lia) ()) ⟨e,e2,?_⟩
 refine⟨.bg,_,I.CW (its':=its++cn) hH e ∅ (r.append r2) ?_,rfl,q⟩;rw[T6]
 lia
def O4:V->List V->Hp->VK->Prop:=λx vs H Q=>∃l xs y,x= .ref l/\vs=[]/\H l=some (.lst xs)/\xs[xs.length-1]?=some y/\Q y (upd H l (.lst xs.dropLast))
theorem OF:Mn X "list.pop" O4:=by
 intro pins s σ H x vs v us Q I rx rv h;obtain⟨l,xs,y,rfl,rfl,hH,hy,q⟩:=h;cases rx;have Oq:=rv.zero;subst Oq;obtain⟨z,its,n,r,hl,e⟩:=I.q5 hH;obtain⟨u,hu,ru⟩:=r.get hy;have Sh:its.toArray[its.toArray.size-1]?=some u:=by show its.toArray[its.length-1]?=some u;rw[<-Array.getElem?_toList,<-hl];exact hu
 refine WV F.slot_list_pop ⟨_,e,rfl⟩ F.entry_list_pop (F.args_list_pop_1 _) (MeetsSeq.list_pop_last l its.toArray n u Sh (by rw[TF];lia)) ⟨e,?_⟩;refine⟨y,_,I.CW (its':=its.dropLast) hH e ?_ r.dropLast ?_,ru,q⟩
 ·show its.toArray.eraseIdxIfInBounds (its.toArray.size-1)=its.dropLast.toArray;rw[TF,List.eraseIdxIfInBounds_toArray,tF]
 ·rw[List.length_dropLast]
  lia
def AV:V->List V->Hp->VK->Prop:=λx vs H Q=>∃l xs,x= .ref l/\vs=[]/\H l=some (.lst xs)/\Q .bg (upd H l (.lst []))
theorem Ap:Mn X "list.clear" AV:=by intro pins s σ H x vs v us Q I rx rv h;obtain⟨l,xs,rfl,rfl,hH,q⟩:=h;cases rx;have Oq:=rv.zero;subst Oq;obtain⟨z,its,n,r,hl,e⟩:=I.q5 hH;refine WV F.slot_list_clear ⟨_,e,rfl⟩ F.entry_list_clear (F.args_list_clear_1 _) (AutoSeq1.list_clear_list_0 l its.toArray n (by rw[TF];lia)) ⟨e,?_⟩;exact⟨.bg,_,I.CW (its':=[]) (ys:=[]) hH e rfl .nil (WG _),rfl,q⟩
def OW:R2:=λx y H Q=>∃l b xs zs,x= .ref l/\y= .ref b/\H l=some (.lst xs)/\H b=some (.lst zs)/\xs.length+zs.length<=sizeLine/\∀p,H p=none->Q (.ref p) (upd H p (.lst (xs++zs)))
theorem G8:lp X (binaryOp .Add) OW:=by
 intro pins s σ H x y v u Q I rx ry h;obtain⟨l,b,xs,zs,rfl,rfl,hH,hB,hz,q⟩:=h;cases rx;cases ry;obtain⟨z,its,n,r,hl,e⟩:=I.q5 hH;obtain⟨z2,cn,n2,r2,fZ,e2⟩:=I.q5 hB;refine PySem.P.add_list e e2 ?_ (by rw[TF,TF];lia);have ea:its.toArray++cn.toArray=(its++cn).toArray:=by simp
 rw[ea];exact⟨.ref _,_,I.GF (t':=s.toks) (r.append r2) (by rw[T6];lia),rfl,q _ I.fresh⟩
def O5:R2:=λx y H Q=>∃l k xs,x= .ref l/\y= .int k/\H l=some (.lst xs)/\ -(2^63)<=k/\k<2^63/\xs.length*k.toNat<=sizeLine/\
 ∀p,H p=none->Q (.ref p) (upd H p (.lst (List.replicate k.toNat xs).flatten))
theorem len_rep{α:Type}(xs:List α)(k:Nat):(List.replicate k xs).flatten.length=k*xs.length:=by
 induction k with
 |zero=>simp
 |succ k ih=>rw[Wc,Vz,T6,ih,WD,Nat.add_comm]
theorem Hc:lp X (binaryOp .Mult) O5:=by
 intro pins s σ H x y v u Q I rx ry h;obtain⟨l,k,xs,rfl,rfl,hH,h1,h2,hz,q⟩:=h;cases rx;obtain⟨t,rfl⟩:=ry;obtain⟨z,its,n,r,hl,e⟩:=I.q5 hH;have hlen:its.toArray.size*k.toNat<=sizeLine:=by rw[TF,<-hl];exact hz
 have N6:¬its.toArray.size*k.toNat>(2^63-1)/8:=by
  have:(sizeLine:Nat)<=(2^63-1)/8:=by decide
  lia
 have Oa:¬(!Builtin.List.listFitsIndex k)=true:=by rw[fitsIndex_both h1 h2];exact UP
 have zY:¬Builtin.List.listTooLong (its.toArray.size*k.toNat)=true:=by rw[rj hlen];exact UP
 have Ga:List.foldl (λx1 x2=>x1++x2) #[] (List.replicate (if its.toArray.isEmpty=true then 0 else k.toNat) its.toArray)=(List.replicate k.toNat its).flatten.toArray:=by
  have f0:∀m:Nat,List.foldl (λx1 x2=>x1++x2) #[] (List.replicate m its.toArray)=(List.replicate m its).flatten.toArray:=λm=>by have:=foldl_rep its m [];rw[V4]at this;exact this
  rw[f0];cases its with
  |nil=>simp
  |cons a r'=>rw[WZ ∅]
 refine wpAny_binaryOp_repeat_ref (T:="list") (U:="int") ⋯ ⟨_,e,rfl⟩ (λs'=>typeIs_int s' k t) noFill_list_mul F.fills_int_mul F.slot_int_rmul repeat_list F.slot_int_index.lookup
  (WV F.slot_int_rmul (typeIs_int s k t) F.entry_int_rmul (F.args_int_rmul_2 _ _) (int___rmul___int_list k t l its.toArray n)
   ⟨e,rfl,⟨_,e,rfl⟩,WV F.slot_list_mul ⟨_,e,rfl⟩ F.entry_list_mul (F.args_list_mul_2 _ _) (AutoListH.list___mul___list_int_3 l its.toArray n k t Oa N6 zY) ⟨e,?_⟩⟩)
 rw[Ga];exact⟨.ref _,_,I.GF (t':=s.toks) (r.rep k.toNat) (by rw[len_rep,Nat.mul_comm];exact hz),rfl,q _ I.fresh⟩
end
end L2
namespace Att
open PySem.W PySem.Calls
theorem kE{P:Params}{h:Heap}:∀(ns:List Int)(vs:List Value),WellAll P h vs (ns.map WData.int)->IntsAre vs ns:=by
 intro ns
 induction ns with
 |nil=>intro vs w;rw[VW]at w;cases w;exact .nil
 |cons n ns ih=>
  intro vs w;rw[UB]at w;cases w with
  |cons a b=>cases a;exact .cons _ _ (ih _ b)
theorem xZ{l:OpenLaw}{n:Nat}(hn:l.most=some n){P:Params}{h:Heap}{args:List WData}{vals:List Value}
  (CH:l.row.toRowW.claim.pre args=true) (Ot:WellAll P h vals args):
  ∃a vs ns,vals=[Value.ref a]/\args=[WData.list (ns.map WData.int)]/\h.get? a=some {cls:=.type "list",data:=.seq vs.toArray}/\IntsAre vs ns/\ns.length<=n:=by
 have R8:WShape.hasAll [] args [.list .int]=true:=(pre_splitW CH).1;have hc:l.pre.holds [] {args:=args}=true:=(pre_splitW CH).2;obtain⟨d,r,rfl,h1,h2⟩:=hasAllW_cons R8;obtain rfl:=hasAllW_nil h2;obtain⟨xs,rfl,h3⟩:=hasW_list h1;obtain⟨ns,rfl⟩:=items_int h3;have hlen:ns.length<=n:=by
  unfold OpenLaw.pre at hc;have h4:(WTm.not (.lt (.lit (.int (n:Int))) (.len (.arg 0)))).holds [] {args:=[.list (ns.map .int)]}=true:=by have h4:=(holds_andW hc).1;rw[hn]at h4;exact h4
  have h5:=condW_of h4 (w_not (w_lt w_lit (w_len_list (w_arg rfl))));rw[TU]at h5;refine Nat.le_of_not_lt λq=>?_
  have q':(n:Int)<((ns.length:Nat):Int):=()
  first
   |(rw[Uk q']at h5;exact absurd h5 ⋯)
   |(simp at h5;lia)
 cases Ot with
 |cons w1 w2=>
  cases w2;cases w1 with
  |list ho hall=>exact⟨_,_,ns,rfl,rfl,ho,kE ns _ hall,hlen⟩
theorem xP(l:OpenLaw)(args:List WData):l.row.toRowW.claim.post args (.bool true) args=true:=
 postW_of (r:=l.row.toRowW) (X:=(true==true))
  (show WShape.has [] (.bool true) .bool=true by first|rfl|decide|simp[WShape.has,WShape.arms,WShape.armsAll])
  (show (WTm.eq .res (.lit (.bool true))).value [] {args:=args,res:=some (.bool true),after:=args}=some (.bool (true==true)) from w_eq_bool (w_res rfl) w_lit) rfl
theorem qE{l:OpenLaw}{n:Nat}{q:Program}{loose:List Str}{XP:(Str->Option Value)->Heap->Prop}{YP:World->Heap->Prop}{d:DefRec}
  (hn:l.most=some n) (Kc:d.params.defaults=[])
  (call:∀(w:World)(s₀ s₁:Shared)(mg mb:Str->Option Value)(fa:Addr)(o:Obj)(pm cd doc:Value)(a:Addr)(vs:List Value)(ns:List Int),
   Ground q loose [] XP w s₀ mg mb s₁.heap->YP w s₁.heap->
   s₁.heap.get? fa=some o->o.data= .func (docDef d.name d.params d.body d.scope pm cd doc)->s₁.heap.CodeRec cd d.name->mg d.name=some (.ref fa)->
   s₁.heap.get? a=some {cls:=.type "list",data:=.seq vs.toArray}->IntsAre vs ns->ns.length<=n->s₁.gens=#[]->
   codeAny (model l.prog w) callerA (.call (.ref fa) ⟨[.ref a],[]⟩) (λr s'=>r= .ok (.ret (.bool true))/\OldK s₁.heap s'.heap/\s'.os=s₁.os/\AllBare s'.gens) s₁):
  WalkO q loose XP YP l.row.toRowW d [] (λf vs=>PySem.call f vs):=by
 intro w s₀ s₁ mg mb G Y fa o pm cd doc dV kV ho hd BE hD hmg hg args vals as CH hlay hrd Ot m9;obtain rfl:dV= .none:=Dflts.none hD Kc;obtain rfl:kV= .none:=Dflts.noKw hD;obtain⟨a,vs,ns,rfl,rfl,Gc,hints,hlen⟩:=xZ hn CH Ot;refine enter_call (codeAny_mono (call w s₀ s₁ mg mb fa o pm cd doc a vs ns G Y ho (fd_plain hd) BE hmg Gc hints hlen hg) λr s' hq=>?_);obtain⟨rfl,h2,h3,h4⟩:=hq;exact⟨.inl ⟨.bool true,.bool true,[],rfl,λ_=>rfl,.bool true,xP l _,λ_=>⟨List.Pairwise.nil,λ_ hm=>(nomatch hm)⟩⟩,h2,h3,h4⟩
end Att
namespace L2
theorem oB:∀{vs:List Value}{ns:List Int},IntsAre vs ns->aw (ns.map V.int) vs
 |_,_,.nil=>.nil
 |_,_,.cons n t h=>.cons ⟨t,rfl⟩ (oB h)
def Fh(H:Hp):Prop:=∀b,H b=none\/∃o xs,H b=some (.vo o (.lst xs))
theorem Ad{P:Program}{w:World}{K:PySem.W.Frag}{mg mb:Str->Option Value}{CX:nv}{k:Nat}{fa a:Addr}{fd:FuncData}{x:Str}{sp:Sp}{s₁:Shared}{vs:List Value}{ns:List Int}
  (KX:K.In s₁.heap) (sN:s₁.heap.Ns mainGlobals mg) (hb:s₁.heap.Ns builtinsNs mb) (qR:∀x:Str,x≠"__name__"->mb x=bootBuiltins x) (cm:s₁.heap.NoLimit) (hg:s₁.gens=#[])
  (ha:s₁.heap.get? a=some {cls:=.type "list",data:=.seq vs.toArray}) (hi:IntsAre vs ns) (hl:ns.length<=sizeLine) (hr:i7 k callerA)
  (F:∀base:Heap,K.In base->base.Ns mainGlobals mg->jF P w K mg base CX k fa fd [x] sp) (J5:∀(s:Shared)(u:Value),BindsTo s fd ⟨[u],[]⟩ [(x,u)])
  (qt:∀H:Hp,Fh H->dF K H a (ns.map V.int)->sp [.ref a] H (λv _=>v= .bl true) λ_ _ _=>False)
  (NT:∀H e s',CX [] H s₁ (λ_ _ _=>False) e s'->False):
  codeAny (model P w) callerA (.call (.ref fa) ⟨[.ref a],[]⟩) (λr s'=>r= .ok (.ret (.bool true))/\OldK s₁.heap s'.heap/\s'.os=s₁.os/\AllBare s'.gens) s₁:=by
 have rv:=oB hi;have OA:=hi.length;have core:∀H:Hp,Fh H->dF K H a (ns.map V.int)->fi P w H s₁.heap->(∀b,H b≠none->b=a)->(H a≠none->K.lookup a=none)->
   codeAny (model P w) callerA (.call (.ref fa) ⟨[.ref a],[]⟩) (λr s'=>r= .ok (.ret (.bool true))/\OldK s₁.heap s'.heap/\s'.os=s₁.os/\AllBare s'.gens) s₁:=by
  intro H hO hS hok hA hK;have uW:∀{b:Addr}{o:Obj},s₁.heap.get? b=some o->H b=none->(pv s₁.heap H).get? b=some o:=λe n=>zT e n
  have KS:∀{b:Addr}{o:Obj}{es:Array DictEntry}{ep:Nat},s₁.heap.get? b=some o->o.data= .dict es ep->H b=none:=λ {b o es ep} e d=>by
   cases q:H b with
   |none=>rfl
   |some u=>have e':b=a:=hA b (by rw[q];simp);subst e';rw[ha]at e;cases e;have d':Data.seq vs.toArray _=Data.dict es ep:=d;cases d'
  have MU:∀{b:Addr}{m:Str->Option Value},s₁.heap.Ns b m->(pv s₁.heap H).Ns b m:=λ {b m} ⟨o,es,ep,e,d,r⟩=>⟨o,es,ep,uW e (KS e d),d,r⟩
  have Qa:K.In (pv s₁.heap H):=λb o e=>uW (KX b o e) (by
   cases q:H b with
   |none=>rfl
   |some u=>
    have e':b=a:=hA b (by rw[q];simp);subst e';rw[hK (by rw[q];simp)]at e;cases e)
  have hM:Mod K mg (pv s₁.heap H):=⟨Qa,MU sN,⟨mb,MU hb,qR⟩,let ⟨mc,h1,h2⟩:=cm;⟨mc,MU h1,h2⟩⟩;have e0:BX P w K mg (pv s₁.heap H) callerA [] s₁ H:=⟨rfl,hM,λb o e=>Da e,Nat.le_of_eq (xy _ _),trivial,λb hb=>absurd (show b∈([]:List Addr) from hb) ∅,hok,.of_eq hg⟩;refine codeAny_mono ((F _ Qa (MU sN)).run callerA [] s₁ H ⟨[.ref a],[]⟩ [.ref a] [.ref a] _ _ hr e0 (J5 s₁ (.ref a)) (.cons rfl .nil) (qt H hO hS)) λr s' h=>?_
  cases r with
  |error e=>exact(NT H e s' h).elim
  |ok fl=>
   cases fl with
   |next=>exact False.elim h
   |brk=>exact False.elim h
   |cont=>exact False.elim h
   |ret u=>
    obtain⟨v,H',os,bare,un,CD,r',q⟩:=h;have q':v= .bl true:=q;subst q';obtain rfl:u=Value.bool true:=r';refine⟨rfl,OldK.of_keep λb o e=>?_,os,bare⟩;cases q:H b with
    |none=>exact un.keep b o e q (by intro z;exact absurd (show b∈([]:List Addr) from z) ∅) ∅
    |some u=>
     rcases hO b with z|⟨ob,xs,z⟩
     ·rw[q]at z;cases z
     ·have z2:=un.frzs b ob _ z;obtain⟨e1,_⟩:=hok b _ z;obtain⟨e2,_⟩:=CD b _ z2;rw[e]at e1;cases e1;exact e2
 cases hk:K.lookup a with
 |some o=>have e:=KX a o hk;rw[ha]at e;cases e;refine core (λ_=>none) (λ_=>.inl rfl) (.inr ⟨_,vs.toArray,_,hk,rfl,rfl,rfl,by rw[TF,OA];exact hl,by simpa using rv⟩) (λb u z=>by have z':(none:Option HO)=some u:=z;cases z') (λb z=>absurd rfl z) λz=>absurd rfl z
 |none=>
  refine core (λb=>if b=a then some (.vo {cls:=.type "list",data:=.seq vs.toArray} (.lst (ns.map V.int))) else none) (λb=>?_) (.inl (.inr ⟨{cls:=.type "list",data:=.seq vs.toArray},W0 rfl⟩)) (λb u z=>?_) (λb z=>?_) λ_=>hk
  ·by_cases hb:b=a
   ·exact .inr ⟨_,_,W0 hb⟩
   ·exact .inl (WZ hb)
  ·by_cases hb:b=a
   ·have z':=(W0 hb).symm.trans z;cases z';subst hb;exact⟨ha,by rw[TU];exact hl,vs,_,rv,ha⟩
   ·have z':=(WZ hb).symm.trans z;cases z'
  ·by_cases hb:b=a
   ·exact hb
   ·exact absurd (WZ hb) z
end L2
namespace L2
theorem D9{l:PySem.W.OpenLaw}{n k:Nat}{q:Program}{loose:List Str}{XP:(Str->Option Value)->Heap->Prop}{YP:World->Heap->Prop}{d:DefRec}{K:Params->PySem.W.Frag}{CX:World->nv}{sp:World->Sp}{x:Str}
  (hn:l.most=some n) (qS:n<=sizeLine) (Kc:d.params.defaults=[]) (hr:i7 k callerA)
  (hY:∀(w:World)(h:Heap),YP w h->(K w.params).In h)
  (F:∀(w:World)(mg:Str->Option Value)(fa:Addr)(h:Heap),(K w.params).In h->h.Ns mainGlobals mg->mg d.name=some (.ref fa)->
   ∃fd:FuncData,(∀(s:Shared)(u:Value),BindsTo s fd ⟨[u],[]⟩ [(x,u)])/\
    ∀base:Heap,(K w.params).In base->base.Ns mainGlobals mg->jF l.prog w (K w.params) mg base (CX w) k fa fd [x] (sp w))
  (qt:∀(w:World)(H:Hp)(a:Addr)(ns:List Int),ns.length<=n->Fh H->dF (K w.params) H a (ns.map V.int)->sp w [.ref a] H (λv _=>v= .bl true) λ_ _ _=>False)
  (NT:∀(w:World)(H:Hp)(s:Shared)(e:Value)(s':Shared),CX w [] H s (λ_ _ _=>False) e s'->False):
  PySem.W.WalkO q loose XP YP l.row.toRowW d [] (λf vs=>PySem.call f vs):=by
 refine Att.qE hn Kc λw s₀ s₁ mg mb fa o pm cd doc a vs ns G Y ho hd BE hmg Gc hints hlen hg=>?_
 have KX:=hY w _ Y;obtain⟨fd,hb,hF⟩:=F w mg fa _ KX G.T.g hmg;exact Ad KX G.T.g G.T.b G.T.builtins G.T.nolimit hg Gc hints (TX hlen qS) hr hF hb (λH hO hS=>qt w H a ns hlen hO hS) λH e s'=>NT w H s₁ e s'
end L2
namespace L2
def oV(s:Stmt):Arguments:=match s with
 |.FunctionDef _ a _ _ _ _ _ _ _ _=>a
 |_=>{posonlyargs:=[],args:=[],vararg:=none,kwonlyargs:=[],kw_defaults:=[],kwarg:=none,defaults:=[]}
def jc(s:Stmt):List Stmt:=match s with
 |.FunctionDef _ _ b _ _ _ _ _ _ _=>b
 |_=>[]
def bH(s:Stmt):Scope:=match s with
 |.FunctionDef _ _ _ _ _ _ sc _ _ _=>sc
 |_=>{kind:=.function,names:=[],isGenerator:=false,isCoroutine:=false}
theorem Gp{A B:Prop}(h:B):if false=true then A else B:=by rw[WZ UP];exact h
theorem Gq{A B:Prop}(h:A):if true=true then A else B:=by rw[W0 rfl];exact h
def cy(H H':Hp):Prop:=∀b o,H b=some o->H' b=some o
theorem cy.refl(H:Hp):cy H H:=λ_ _ h=>h
theorem cy.trans{H H1 H2:Hp}(a:cy H H1)(b:cy H1 H2):cy H H2:=λc o h=>b c o (a c o h)
end L2
end
section
namespace Mx
inductive D where
 |int (i:Int)
 |str (x:Str)
 |tup (ds:List D)
mutual
noncomputable def D.mV:D->D->Bool
 |.int i,.int j=>i==j
 |.str x,.str y=>x==y
 |.tup a,.tup b=>D.eqs a b
 |_,_=>false
noncomputable def D.eqs:List D->List D->Bool
 |[],[]=>true
 |x::xs,y::ys=>D.mV x y&&D.eqs xs ys
 |_,_=>false
end
mutual
noncomputable def D.lt:D->D->Bool
 |.int i,.int j=>decide (i<j)
 |.int _,_=>true
 |.str _,.int _=>false
 |.str x,.str y=>decide (x.cps.toList<y.cps.toList)
 |.str _,.tup _=>true
 |.tup a,.tup b=>D.fO a b
 |.tup _,_=>false
noncomputable def D.fO:List D->List D->Bool
 |[],[]=>false
 |[],_::_=>true
 |_::_,[]=>false
 |x::xs,y::ys=>if D.mV x y=true then D.fO xs ys else D.lt x y
end
mutual
theorem D.du:∀a b:D,D.mV a b=true↔a=b
 |.int i,.int j=>by simp[D.mV]
 |.str x,.str y=>by simp[D.mV]
 |.tup a,.tup b=>by simp only[D.mV,D.tup.injEq];exact D.vj a b
 |.int _,.str _=>by simp[D.mV]
 |.int _,.tup _=>by simp[D.mV]
 |.str _,.int _=>by simp[D.mV]
 |.str _,.tup _=>by simp[D.mV]
 |.tup _,.int _=>by simp[D.mV]
 |.tup _,.str _=>by simp[D.mV]
theorem D.vj:∀a b:List D,D.eqs a b=true↔a=b
 |[],[]=>by simp[D.eqs]
 |[],_::_=>by simp[D.eqs]
 |_::_,[]=>by simp[D.eqs]
 |x::xs,y::ys=>by simp only[D.eqs,TC,Vm];rw[D.du x y,D.vj xs ys]
end
noncomputable instance:DecidableEq D:=λa b=>if h:D.mV a b=true then isTrue ((D.du a b).mp h) else isFalse λe=>h ((D.du a b).mpr e)
theorem D.o4(a b:D):D.mV a b=decide (a=b):=by rw[UN,D.du];simp
theorem D.eC(x y:D)(xs ys:List D):D.fO (x::xs) (y::ys)=if x=y then D.fO xs ys else D.lt x y:=by
 rw[D.fO];by_cases h:x=y
 ·rw[W0 h,W0 ((D.du x y).mpr h)]
 ·rw[WZ h,WZ λe=>h ((D.du x y).mp e)]
mutual
theorem D.lt_irrefl:∀a:D,D.lt a a=false
 |.int i=>by simp[D.lt]
 |.str x=>by simp only[D.lt];exact strKind.irrefl _
 |.tup a=>by simp only[D.lt];exact D.mf a
theorem D.mf:∀a:List D,D.fO a a=false
 |[]=>by simp[D.fO]
 |x::xs=>by rw[D.eC,W0 rfl];exact D.mf xs
end
mutual
theorem D.gM:∀a b:D,D.lt a b=false->D.lt b a=false->a=b
 |.int i,.int j,h1,h2=>by simp only[D.lt,decide_eq_false_iff_not]at h1 h2;congr 1;lia
 |.str x,.str y,h1,h2=>by simp only[D.lt]at h1 h2;have:=strKind.total _ _ h1 h2;congr 1;cases x;cases y;simp only at this;congr 1;exact UJ.mp this
 |.tup a,.tup b,h1,h2=>by simp only[D.lt]at h1 h2;rw[D.n9 a b h1 h2]
 |.int _,.str _,h1,_=>by simp[D.lt]at h1
 |.int _,.tup _,h1,_=>by simp[D.lt]at h1
 |.str _,.int _,_,h2=>by simp[D.lt]at h2
 |.str _,.tup _,h1,_=>by simp[D.lt]at h1
 |.tup _,.int _,_,h2=>by simp[D.lt]at h2
 |.tup _,.str _,_,h2=>by simp[D.lt]at h2
theorem D.n9:∀a b:List D,D.fO a b=false->D.fO b a=false->a=b
 |[],[],_,_=>rfl
 |[],_::_,h1,_=>by simp[D.fO]at h1
 |_::_,[],_,h2=>by simp[D.fO]at h2
 |x::xs,y::ys,h1,h2=>by
  rw[D.eC]at h1 h2;by_cases h:x=y
  ·subst h;rw[W0 rfl]at h1 h2;rw[D.n9 xs ys h1 h2]
  ·rw[WZ h]at h1;rw[WZ (WH h)]at h2;exact absurd (D.gM x y h1 h2) h
end
mutual
theorem D.lt_trans:∀a b c:D,D.lt a b=true->D.lt b c=true->D.lt a c=true
 |.int i,.int j,.int k,h1,h2=>by simp only[D.lt,WX]at *;lia
 |.int _,_,.str _,_,_=>by simp[D.lt]
 |.int _,_,.tup _,_,_=>by simp[D.lt]
 |.int _,.str _,.int _,_,h2=>by simp[D.lt]at h2
 |.int _,.tup _,.int _,_,h2=>by simp[D.lt]at h2
 |.str _,.int _,_,h1,_=>by simp[D.lt]at h1
 |.str x,.str y,.str z,h1,h2=>by simp only[D.lt]at *;exact strKind.trans _ _ _ h1 h2
 |.str _,.str _,.int _,_,h2=>by simp[D.lt]at h2
 |.str _,_,.tup _,_,_=>by simp[D.lt]
 |.str _,.tup _,.int _,_,h2=>by simp[D.lt]at h2
 |.str _,.tup _,.str _,_,h2=>by simp[D.lt]at h2
 |.tup _,.int _,_,h1,_=>by simp[D.lt]at h1
 |.tup _,.str _,_,h1,_=>by simp[D.lt]at h1
 |.tup _,.tup _,.int _,_,h2=>by simp[D.lt]at h2
 |.tup _,.tup _,.str _,_,h2=>by simp[D.lt]at h2
 |.tup a,.tup b,.tup c,h1,h2=>by simp only[D.lt]at *;exact D.oa a b c h1 h2
theorem D.oa:∀a b c:List D,D.fO a b=true->D.fO b c=true->D.fO a c=true
 |[],[],_,h1,_=>by simp[D.fO]at h1
 |[],_::_,[],_,h2=>by simp[D.fO]at h2
 |[],_::_,_::_,_,_=>by simp[D.fO]
 |_::_,[],_,h1,_=>by simp[D.fO]at h1
 |_::_,_::_,[],_,h2=>by simp[D.fO]at h2
 |x::xs,y::ys,z::zs,h1,h2=>by
  rw[D.eC]at h1 h2 ⊢;by_cases h:x=y
  ·subst h;rw[W0 rfl]at h1;by_cases h':x=z
   ·rw[W0 h']at h2 ⊢;exact D.oa xs ys zs h1 h2
   ·rw[WZ h']at h2 ⊢;exact h2
  ·rw[WZ h]at h1;by_cases h':y=z
   ·subst h';rw[WZ h];exact h1
   ·rw[WZ h']at h2;have h3:=D.lt_trans x y z h1 h2;by_cases h'':x=z
    ·subst h'';rw[D.lt_irrefl]at h3;cases h3
    ·rw[WZ h''];exact h3
end
@[reducible] noncomputable def JB:KeyOrd where
 α:=D
 blt:=D.lt
 irrefl:=D.lt_irrefl
 trans:=D.lt_trans
 negTrans:=λa b c h=>by
  cases h1:D.lt a b with
  |true=>exact .inl rfl
  |false=>
   right;cases h2:D.lt b a with
   |true=>exact D.lt_trans b a c h2 h
   |false=>rw[D.gM a b h1 h2]at h;exact h
 total:=D.gM
end Mx
end
section
namespace MxSort
open PySem.W
section
variable{O:KeyOrd}{key:Nat->O.α}
def t6(key:Nat->O.α)(p:Array Nat)(i:Nat):O.α:=key (p.getD i 0)
def Up(key:Nat->O.α)(p:Array Nat)(n:Nat):Prop:=∀i j,i<=j->j<n->O.kle (t6 key p i) (t6 key p j)
def Dn(key:Nat->O.α)(p:Array Nat)(n:Nat):Prop:=∀i j,i<=j->j<n->O.kle (t6 key p j) (t6 key p i)
theorem vw{p q:Array Nat}{i j:Nat}(h:p[i]?=q[j]?):p.getD i 0=q.getD j 0:=by
 have e1:∀(p:Array Nat)(i:Nat),p.getD i 0=(p[i]?).getD 0:=λp i=>by simp[UG]
 rw[e1,e1,h]
theorem vL{p:Array Nat}{i j:Nat}(hj:j<=p.size)(k:Nat):t6 key (kas_rev p i j) k=if i<=k/\k<j then t6 key p (i+j-1-k) else t6 key p k:=by
 have e:=getElem?_mirror_all (i:=i) hj k;unfold kas_rev t6;by_cases h1:i<=k/\k<j
 ·rw[W0 h1]at e ⊢;exact WW key (vw e)
 ·rw[WZ h1]at e ⊢;exact WW key (vw e)
def Ord(N:Nat)(p:Array Nat):Prop:=p.toList.Perm (List.range N)
theorem Ord.size{N:Nat}{p:Array Nat}(h:Ord N p):p.size=N:=by have:=h.length_eq;rw[VM]at this;rw[<-this];simp
variable{cmp:Nat->Nat->(Bool->Shared->Prop)->Shared->Prop}{s:Shared}{N:Nat}
def Tells(O:KeyOrd)(key:Nat->O.α)(cmp:Nat->Nat->(Bool->Shared->Prop)->Shared->Prop)(N:Nat)(s:Shared):Prop:=
 ∀i j,i<N->j<N->∀C:Bool->Shared->Prop,C (O.blt (key i) (key j)) s->cmp i j C s
theorem Up.succ{p:Array Nat}{n:Nat}(h:Up key p n)(h1:1<=n)(h2:O.kle (t6 key p (n-1)) (t6 key p n)):Up key p (n+1):=λi j gp hj=>by
 by_cases e:j=n
 ·subst e;by_cases e2:i=j
  ·subst e2;exact Ve _
  ·exact Ui (h i (j-1) () ()) h2
 ·exact h i j gp ()
theorem Dn.succ{p:Array Nat}{n:Nat}(h:Dn key p n)(h1:1<=n)(h2:O.kle (t6 key p n) (t6 key p (n-1))):Dn key p (n+1):=λi j gp hj=>by
 by_cases e:j=n
 ·subst e;by_cases e2:i=j
  ·subst e2;exact Ve _
  ·exact Ui h2 (h i (j-1) () ())
 ·exact h i j gp ()
theorem Dn.of{p q:Array Nat}{n:Nat}(e:∀k,t6 key q k=t6 key p k)(h:Dn key p n):Dn key q n:=λi j a b=>by rw[e,e];exact h i j a b
theorem Bj{p:Array Nat}{n:Nat}(hn:n<=p.size)(h:Dn key p n):Up key (kas_rev p 0 n) n:=λi j gp hj=>by rw[vL hn,vL hn,W0 (),W0 ()];exact h _ _ () ()
end
end MxSort
end
section
namespace Mx
open L2 PySem.SeqAt
mutual
noncomputable def D.dep:D->Nat
 |.int _=>0
 |.str _=>0
 |.tup ds=>D.e9 ds+1
noncomputable def D.e9:List D->Nat
 |[]=>0
 |d::ds=>max (D.dep d) (D.e9 ds)
end
mutual
noncomputable def DV(H:Hp):V->D->Prop
 |x,.int i=>x= .int i
 |x,.str z=>x= .str z
 |x,.tup ds=>∃a xs,x= .ref a/\H a=some (.tup xs)/\bc H xs ds
noncomputable def bc(H:Hp):List V->List D->Prop
 |[],[]=>True
 |x::xs,d::ds=>DV H x d/\bc H xs ds
 |[],_::_=>False
 |_::_,[]=>False
end
theorem bc.nil{H:Hp}:bc H [] []:=by unfold bc;trivial
theorem bc.cons{H:Hp}{x:V}{xs:List V}{d:D}{ds:List D}(h:DV H x d)(t:bc H xs ds):bc H (x::xs) (d::ds):=by unfold bc;exact⟨h,t⟩
theorem DV.int{H:Hp}{i:Int}:DV H (.int i) (.int i):=by unfold DV;rfl
theorem DV.str{H:Hp}{x:Str}:DV H (.str x) (.str x):=by unfold DV;rfl
theorem DV.tup{H:Hp}{a:Addr}{xs:List V}{ds:List D}(h:H a=some (.tup xs))(t:bc H xs ds):DV H (.ref a) (.tup ds):=by unfold DV;exact⟨a,xs,rfl,h,t⟩
theorem DV.ar{H:Hp}{x:V}{ds:List D}(h:DV H x (.tup ds)):∃a xs,x= .ref a/\H a=some (.tup xs)/\bc H xs ds:=by unfold DV at h;exact h
theorem DV.int_inv{H:Hp}{x:V}{i:Int}(h:DV H x (.int i)):x= .int i:=by unfold DV at h;exact h
theorem DV.str_inv{H:Hp}{x:V}{i:Str}(h:DV H x (.str i)):x= .str i:=by unfold DV at h;exact h
theorem bc.cons_inv{H:Hp}{xs:List V}{d:D}{ds:List D}(h:bc H xs (d::ds)):∃x r,xs=x::r/\DV H x d/\bc H r ds:=by
 cases xs with
 |nil=>unfold bc at h;exact h.elim
 |cons x r=>unfold bc at h;exact⟨x,r,rfl,h⟩
theorem bc.length{H:Hp}:∀{xs:List V}{ds:List D},bc H xs ds->xs.length=ds.length
 |[],[],_=>rfl
 |[],_::_,h=>by unfold bc at h;exact h.elim
 |_::_,[],h=>by unfold bc at h;exact h.elim
 |_::xs,_::ds,h=>by unfold bc at h;simp[bc.length h.2]
theorem bc.get{H:Hp}:∀{xs:List V}{ds:List D}{i:Nat}{x:V},bc H xs ds->xs[i]?=some x->∃d,ds[i]?=some d/\DV H x d
 |[],_,_,_,_,e=>by simp at e
 |_::_,[],_,_,h,_=>by unfold bc at h;exact h.elim
 |_::_,_::_,0,_,h,e=>by unfold bc at h;simp at e;subst e;exact⟨_,rfl,h.1⟩
 |_::xs,_::ds,i+1,x,h,e=>by unfold bc at h;obtain⟨d,e1,e2⟩:=bc.get (i:=i) h.2 ‹e›;exact⟨d,by simpa using e1,e2⟩
theorem bc.append{H:Hp}:∀{xs ys:List V}{ds es:List D},bc H xs ds->bc H ys es->bc H (xs++ys) (ds++es)
 |[],_,[],_,_,h=>h
 |[],_,_::_,_,h,_=>by unfold bc at h;exact h.elim
 |_::_,_,[],_,h,_=>by unfold bc at h;exact h.elim
 |_::xs,ys,_::ds,es,h,h'=>by unfold bc at h;exact bc.cons h.1 (bc.append h.2 h')
def B0(H H':Hp):Prop:=∀a xs,H a=some (.tup xs)->H' a=some (.tup xs)
mutual
theorem DV.mono{H H':Hp}(t:B0 H H'):∀{x:V}{d:D},DV H x d->DV H' x d
 |x,.int i,h=>by unfold DV at h ⊢;exact h
 |x,.str z,h=>by unfold DV at h ⊢;exact h
 |x,.tup ds,h=>by obtain⟨a,xs,e,e1,e2⟩:=h.ar;subst e;exact DV.tup (t a xs e1) (bc.mono t e2)
theorem bc.mono{H H':Hp}(t:B0 H H'):∀{xs:List V}{ds:List D},bc H xs ds->bc H' xs ds
 |[],[],_=>bc.nil
 |[],_::_,h=>by unfold bc at h;exact h.elim
 |_::_,[],h=>by unfold bc at h;exact h.elim
 |_::xs,_::ds,h=>by unfold bc at h;exact bc.cons (DV.mono t h.1) (bc.mono t h.2)
end
mutual
theorem DV.inj{H:Hp}:∀{x:V}{d e:D},DV H x d->DV H x e->d=e
 |x,.int i,e,h1,h2=>by
  have:=h1.int_inv;subst this;cases e with
  |int j=>have:=h2.int_inv;injection this with q;rw[q]
  |str j=>have:=h2.str_inv;cases this
  |tup j=>obtain⟨_,_,q,_⟩:=h2.ar;cases q
 |x,.str i,e,h1,h2=>by
  have:=h1.str_inv;subst this;cases e with
  |int j=>have:=h2.int_inv;cases this
  |str j=>have:=h2.str_inv;injection this with q;rw[q]
  |tup j=>obtain⟨_,_,q,_⟩:=h2.ar;cases q
 |x,.tup ds,e,h1,h2=>by
  obtain⟨a,xs,q,e1,e2⟩:=h1.ar;subst q;cases e with
  |int j=>have:=h2.int_inv;cases this
  |str j=>have:=h2.str_inv;cases this
  |tup j=>obtain⟨b,ys,q,f1,f2⟩:=h2.ar;cases q;rw[e1]at f1;cases f1;rw[bc.inj e2 f2]
theorem bc.inj{H:Hp}:∀{xs:List V}{ds es:List D},bc H xs ds->bc H xs es->ds=es
 |[],[],[],_,_=>rfl
 |[],[],_::_,_,h=>by unfold bc at h;exact h.elim
 |[],_::_,_,h,_=>by unfold bc at h;exact h.elim
 |_::_,[],_,h,_=>by unfold bc at h;exact h.elim
 |_::_,_::_,[],_,h=>by unfold bc at h;exact h.elim
 |_::xs,_::ds,_::es,h1,h2=>by unfold bc at h1 h2;rw[DV.inj h1.1 h2.1,bc.inj h1.2 h2.2]
end
def Ms(ds es:List D)(j:Nat):Bool:=match ds[j]?,es[j]? with
 |some d,some e=>D.mV d e
 |_,_=>true
theorem uR:∀ds es:List D,((List.range (min ds.length es.length)).all (Ms ds es)&&ds.length==es.length)=D.eqs ds es
 |[],[]=>by simp[D.eqs]
 |[],_::_=>by simp[D.eqs]
 |_::_,[]=>by simp[D.eqs]
 |d::ds,e::es=>by
  have ih:=uR ds es;have hm:min (d::ds).length (e::es).length=min ds.length es.length+1:=by simp only[T8];lia
  have e1:((d::ds).length==(e::es).length)=(ds.length==es.length):=by rw[UN];simp
  rw[hm,List.range_succ_eq_map,Vj,List.all_map,e1,D.eqs,<-ih,Bool.and_assoc];rfl
theorem oX{d:D}:∀{ds:List D}{j:Nat},ds[j]?=some d->D.dep d<=D.e9 ds
 |[],_,h=>by simp at h
 |d'::ds,0,h=>by simp at h;subst h;unfold D.e9;lia
 |d'::ds,j+1,h=>by have:=oX (ds:=ds) (j:=j) ‹h›;unfold D.e9;lia
section
variable{P:Program}{w:World}{H:Hp}{s:Shared}
theorem aV(hok:fi P w H s.heap){a:Addr}{xs:List V}(h:H a=some (.tup xs)):∃its:List Value,aw xs its/\s.heap.IsTuple a its.toArray:=by obtain⟨_,its,r,t⟩:=hok a _ h;exact⟨its,r,t.is⟩
theorem eq_data(hok:fi P w H s.heap):∀(n:Nat)(d e:D)(x y:V)(u v:Value)(A:Around),D.dep d<=n->A.units+n<cLine->DV H x d->DV H y e->RelV x u->RelV y v->EqAt A s u v (D.mV d e):=by
 intro n
 induction n with
 |zero=>
  intro d e x y u v A hd hu hx hy rx ry;cases d with
  |int i=>
   have:=hx.int_inv;subst this;obtain⟨t,rfl⟩:=rx;cases e with
   |int j=>have:=hy.int_inv;subst this;obtain⟨t',rfl⟩:=ry;exact EqAt.int_int i t j t'
   |str j=>have:=hy.str_inv;subst this;obtain⟨t',rfl⟩:=ry;exact EqAt.int_str i t j t'
   |tup j=>obtain⟨b,ys,q,f1,f2⟩:=hy.ar;subst q;cases ry;obtain⟨its,_,ht⟩:=aV hok f1;exact EqAt.int_tuple i t ht ()
  |str i=>
   have:=hx.str_inv;subst this;obtain⟨t,rfl⟩:=rx;cases e with
   |int j=>have:=hy.int_inv;subst this;obtain⟨t',rfl⟩:=ry;exact EqAt.str_int i t j t'
   |str j=>have:=hy.str_inv;subst this;obtain⟨t',rfl⟩:=ry;exact EqAt.str_str i t j t'
   |tup j=>obtain⟨b,ys,q,f1,f2⟩:=hy.ar;subst q;cases ry;obtain⟨its,_,ht⟩:=aV hok f1;exact EqAt.str_tuple i t ht ()
  |tup ds=>unfold D.dep at hd;lia
 |succ n ih=>
  intro d e x y u v A hd hu hx hy rx ry;cases d with
  |int i=>exact ih (.int i) e x y u v A (by unfold D.dep;lia) () hx hy rx ry
  |str i=>exact ih (.str i) e x y u v A (by unfold D.dep;lia) () hx hy rx ry
  |tup ds=>
   obtain⟨a,xs,q,e1,e2⟩:=hx.ar;subst q;cases rx;obtain⟨its,r1,ht⟩:=aV hok e1;cases e with
   |int j=>have:=hy.int_inv;subst this;obtain⟨t',rfl⟩:=ry;exact EqAt.tuple_int j t' ht ()
   |str j=>have:=hy.str_inv;subst this;obtain⟨t',rfl⟩:=ry;exact EqAt.tuple_str j t' ht ()
   |tup es=>
    obtain⟨b,ys,q,f1,f2⟩:=hy.ar;subst q;cases ry;obtain⟨cn,r2,qu⟩:=aV hok f1;by_cases gh:a=b
    ·subst gh;rw[e1]at f1;cases f1;have:=bc.inj e2 f2;subst this;have q:D.mV (.tup ds) (.tup ds)=true:=(D.du _ _).mpr rfl;rw[q];exact EqAt.same _
    ·have l1:its.toArray.size=ds.length:=by rw[TF,<-r1.length,e2.length]
     have l2:cn.toArray.size=es.length:=by rw[TF,<-r2.length,f2.length]
     have key:=RcAt.tuples (A:=A) (e:=Ms ds es) ht qu () (λj h1 h2=>?_)
     ·have q:=uR ds es;rw[<-l1,<-l2]at q;rw[q]at key;exact EqAt.of_refs gh key
     ·have zN:j<xs.length:=by rw[e2.length,<-l1];exact h1
      have zO:j<ys.length:=by rw[f2.length,<-l2];exact h2
      obtain⟨d,g1,g2⟩:=e2.get (i:=j) (x:=xs[j]) (by simp[zN]);obtain⟨e,k1,k2⟩:=f2.get (i:=j) (x:=ys[j]) (by simp[zO]);obtain⟨u,Kq,ru⟩:=r1.get (i:=j) (x:=xs[j]) (by simp[zN]);obtain⟨v,Os,rv⟩:=r2.get (i:=j) (x:=ys[j]) (by simp[zO]);have eu:its.toArray[j]=u:=by have:its[j]?=some u:=Kq;simp only[VI];have q:=TJ.mp this;exact q.2
      have ev:cn.toArray[j]=v:=by have:cn[j]?=some v:=Os;simp only[VI];have q:=TJ.mp this;exact q.2
      rw[eu,ev];have ee:Ms ds es j=D.mV d e:=by unfold Ms;rw[g1,k1]
      rw[ee];refine ih d e xs[j] ys[j] u v A.in1 ?_ (by show A.units+1+n<cLine;lia) g2 k2 ru rv;have:=oX g1;unfold D.dep at hd
      lia
end
mutual
noncomputable def D.ff:D->D->Prop
 |.int _,.int _=>True
 |.str _,.str _=>True
 |.tup a,.tup b=>D.iH a b
 |_,_=>False
noncomputable def D.iH:List D->List D->Prop
 |x::xs,y::ys=>D.ff x y/\D.iH xs ys
 |_,_=>True
end
def ng:Bool->Bool->Bool
 |true,b=> !b
 |false,b=>b
def PX:Bool->CmpOp
 |true=>.GtE
 |false=>.Lt
def L5:Bool->Builtin
 |true=>Builtin.«tuple.__ge__»
 |false=>Builtin.«tuple.__lt__»
def yu(g:Bool)(A:Around)(s:Shared)(u v:Value)(b:Bool):Prop:=
 ∀(prog:Program)(w:World)(E:Value->Shared->Prop)(Q:Value->Shared->Prop),Q (.bool (ng g b)) s->wpAny (model prog w) A (richCompare (PX g) u v) Q E s
inductive Zp(g:Bool)(A:Around)(s:Shared):List Value->List Value->List D->List D->Prop
 |nil {ws:List Value} {es:List D}:ws.length=es.length->Zp g A s [] ws [] es
 |C6 {vs:List Value} {ds:List D}:vs.length=ds.length->Zp g A s vs [] ds []
 |cons {v w:Value} {d e:D} {vs ws:List Value} {ds es:List D}:EqAt A s v w (D.mV d e)->(d≠e->yu g A s v w (D.lt d e))->Zp g A s vs ws ds es->Zp g A s (v::vs) (w::ws) (d::ds) (e::es)
section
open PySem.AutoSeq1 (wpAny_loadPart')
open PySem.MeetsSeq PySem.MeetsSeq2 PySem.MeetsSeq3
theorem nr(g:Bool)(l b:Addr)(items gL:Array Value)(n n2:Nat)(dd BA:Option Addr)(sl BR:Array (Option Value))(ds es:List D)(z1:items.size=ds.length)(z2:gL.size=es.length):
  Meets (L5 g ⟨[.ref l,.ref b],[]⟩)
   (λA R s=>s.heap.get? l=some {cls:=.type "tuple",dict:=dd,data:=.seq items n,slots:=sl}/\s.heap.get? b=some {cls:=.type "tuple",dict:=BA,data:=.seq gL n2,slots:=BR}/\
    Zp g A.in1 s items.toList gL.toList ds es/\R (.ok (.ret (.bool (ng g (D.fO ds es))))) s):=by
 rcases g.eq_false_or_eq_true with hg|hg
 all_goals
  rw[show L5 g=L5 _ from WW L5 hg];unfold L5;refine .of_wp λprog w A R s h=>?_
  obtain⟨hp,gg,d,tk,os⟩:=s;obtain⟨hl,hb,Sj,h⟩:=h;have f2:=AutoSeq1.sub_tuple_tuple
  wp_walk using wpAny_loadPart' hl,wpAny_loadPart' hb,wpAny_forIn_list _ (λrest b s'=>b.1=none/\s'=⟨hp,gg,d,tk,os⟩/\∃(vs ws:List Value)(xi iG:List D),rest=vs.zip ws/\
   Zp g A.in1 ⟨hp,gg,d,tk,os⟩ vs ws xi iG/\xi.length+gL.size=iG.length+items.size/\R (.ok (.ret (.bool (ng g (D.fO xi iG))))) ⟨hp,gg,d,tk,os⟩) _
  case turn=>
   rintro⟨y,x⟩ rest b s' ⟨vy,rfl,vs,ws,xi,iG,hz,BM,hlen,hR⟩;cases BM with
   |nil _=>rw[Wp]at hz;cases hz
   |C6 _=>rw[Wq]at hz;cases hz
   |cons he hl Kt=>
    rename_i v wv d0 e0 Bm ws' ds'' es'';rw[Wo]at hz;injection hz with hyx Ko;injection hyx with hy hx;subst hy hx;rw[D.eC]at hR;simp only[T8]at hlen;refine Tv (he prog w _ _ ?_);by_cases hde:d0=e0
    ·rw[W0 hde]at hR;rw[(D.du d0 e0).mpr hde]
     wp_walk
     exact⟨rfl,rfl,_,_,_,_,Ko,Kt,(),hR⟩
    ·rw[WZ hde]at hR;have Q7:D.mV d0 e0=false:=by rw[D.o4];exact Ug hde
     rw[Q7];have Oi:=hl hde prog w;rw[hg]at Oi hR;dsimp only[PX]at Oi
     wp_walk using Oi
     exact⟨_,rfl,hR⟩
  case fin=>
   rintro⟨b1,b2⟩ s' ⟨vy,rfl,vs,ws,xi,iG,hz,BM,hlen,hR⟩;simp only at vy;subst vy;have hv:D.fO xi iG=decide (items.size<gL.size):=by
    cases BM with
    |nil _=>
     cases iG with
     |nil=>simp only[VL]at hlen;exact(Ug ()).symm
     |cons c u=>simp only[VL,T8]at hlen;exact(Uk ()).symm
    |C6 _=>simp only[VL]at hlen;rw[show D.fO xi []=false by cases xi<;>rfl];exact(Ug ()).symm
    |cons he hl Kt=>rw[Wo]at hz;cases hz
   rw[hv,hg]at hR
   wp_walk
   exact⟨_,rfl,by first|simpa [Builtin.Tuple.tupleCompareSizes]using hR|simpa [Builtin.Tuple.tupleCompareSizes,ng,<-Nat.not_lt]using hR⟩
  case h=>exact⟨rfl,rfl,items.toList,gL.toList,ds,es,rfl,Sj,(),h⟩
end
section
variable{P:Program}{w:World}{H:Hp}{s:Shared}
theorem Bz{g:Bool}(hok:fi P w H s.heap){A:Around}{n:Nat}(hu:A.units+n<cLine)(ih:∀(d e:D)(x y:V)(u v:Value),D.dep d<=n->D.ff d e->DV H x d->DV H y e->RelV x u->RelV y v->yu g A s u v (D.lt d e)):
  ∀{xs ys:List V}{us vs:List Value}{ds es:List D},D.e9 ds<=n->D.iH ds es->bc H xs ds->bc H ys es->aw xs us->aw ys vs->Zp g A s us vs ds es
 |[],ys,us,vs,[],es,_,_,_,h2,r1,r2=>by cases r1;exact .nil (by rw[<-r2.length,h2.length])
 |x::xs,[],us,vs,ds,[],_,_,h1,_,r1,r2=>by cases r2;exact .C6 (by rw[<-r1.length,h1.length])
 |[],_,_,_,_::_,_,_,_,h,_,_,_=>by unfold bc at h;exact h.elim
 |_::_,_,_,_,[],_,_,_,h,_,_,_=>by unfold bc at h;exact h.elim
 |_::_,[],_,_,_::_,_::_,_,_,_,h,_,_=>by unfold bc at h;exact h.elim
 |_::_,_::_,_,_,_::_,[],_,_,_,h,_,_=>by unfold bc at h;exact h.elim
 |x::xs,y::ys,us,vs,d::ds,e::es,hd,hl,h1,h2,r1,r2=>by
  unfold bc at h1 h2;unfold D.iH at hl;unfold D.e9 at hd;cases r1 with
  |cons r1 t1=>
   cases r2 with
   |cons r2 t2=>exact .cons (eq_data hok n d e x y _ _ A () hu h1.1 h2.1 r1 r2) (λ_=>ih d e x y _ _ () hl.1 h1.1 h2.1 r1 r2) (Bz hok hu ih () hl.2 h1.2 h2.2 t1 t2)
theorem u9(g:Bool)(hok:fi P w H s.heap):∀(n:Nat)(d e:D)(x y:V)(u v:Value)(A:Around),D.dep d<=n->A.units+n<cLine->D.ff d e->DV H x d->DV H y e->RelV x u->RelV y v->yu g A s u v (D.lt d e):=by
 intro n
 induction n with
 |zero=>
  intro d e x y u v A hd hu hl hx hy rx ry;cases d with
  |int i=>
   have:=hx.int_inv;subst this;obtain⟨t,rfl⟩:=rx;cases e with
   |int j=>
    have:=hy.int_inv;subst this;obtain⟨t',rfl⟩:=ry;intro prog wd E Q q;cases g with
    |false=>exact(PyProof.Rows.lt_int q:wpAny (model prog wd) A (compareOp .Lt (.int i t) (.int j t')) Q E s)
    |true=>exact(PyProof.Rows.ge_int (by unfold D.lt at q;rw[show decide (j<=i)= !decide (i<j) from by by_cases h:i<j<;>simp[h]<;>lia];exact q):wpAny (model prog wd) A (compareOp .GtE (.int i t) (.int j t')) Q E s)
   |str j=>unfold D.ff at hl;exact hl.elim
   |tup j=>unfold D.ff at hl;exact hl.elim
  |str i=>
   have:=hx.str_inv;subst this;obtain⟨t,rfl⟩:=rx;cases e with
   |int j=>unfold D.ff at hl;exact hl.elim
   |str j=>
    have:=hy.str_inv;subst this;obtain⟨t',rfl⟩:=ry;intro prog wd E Q q;cases g with
    |false=>exact(PySem.P.lt_str q:wpAny (model prog wd) A (compareOp .Lt (.str i t) (.str j t')) Q E s)
    |true=>exact(PySem.P.ge_str q:wpAny (model prog wd) A (compareOp .GtE (.str i t) (.str j t')) Q E s)
   |tup j=>unfold D.ff at hl;exact hl.elim
  |tup ds=>unfold D.dep at hd;lia
 |succ n ih=>
  intro d e x y u v A hd hu hl hx hy rx ry;cases d with
  |int i=>exact ih (.int i) e x y u v A (by unfold D.dep;lia) () hl hx hy rx ry
  |str i=>exact ih (.str i) e x y u v A (by unfold D.dep;lia) () hl hx hy rx ry
  |tup ds=>
   obtain⟨a,xs,q,e1,e2⟩:=hx.ar;subst q;cases rx;cases e with
   |int j=>unfold D.ff at hl;exact hl.elim
   |str j=>unfold D.ff at hl;exact hl.elim
   |tup es=>
    obtain⟨b,ys,q,f1,f2⟩:=hy.ar;subst q;cases ry;obtain⟨its,r1,ht⟩:=aV hok e1;obtain⟨cn,r2,qu⟩:=aV hok f1;have l1:its.toArray.size=ds.length:=by rw[TF,<-r1.length,e2.length]
    have l2:cn.toArray.size=es.length:=by rw[TF,<-r2.length,f2.length]
    have pq:D.e9 ds<=n:=by unfold D.dep at hd;lia
    have Kk:D.iH ds es:=by unfold D.ff at hl;exact hl
    have zz:Zp g A.in1 s its cn ds es:=Bz hok (n:=n) (by show A.units+1+n<cLine;lia) (λd e x y u v hd2 fZ CJ hy2 rx2 ry2=>ih d e x y u v A.in1 hd2 (by show A.units+1+n<cLine;lia) fZ CJ hy2 rx2 ry2) pq Kk e2 f2 r1 r2;intro prog wd E Q q;obtain⟨⟨cls,dd,data,sl⟩,ho,hc,k,CA⟩:=id ht;obtain⟨⟨Jy,BA,data2,BR⟩,tW,xq,k2,tT⟩:=id qu;simp only at hc CA xq tT;subst hc CA xq tT;have q':Q (.bool (ng g (D.fO ds es))) s:=by have z:=q;unfold D.lt at z;exact z
    have tc:=nr g a b its.toArray cn.toArray k k2 dd BA sl BR ds es l1 l2;have fin:s.heap.get? a=_/\s.heap.get? b=_/\Zp g A.in1 s its cn ds es/\Value.bool (ng g (D.fO ds es))≠Value.notImplemented/\Q (.bool (ng g (D.fO ds es))) s:=⟨ho,tW,zz,(λx=>nomatch x),q'⟩;cases g with
    |false=>exact richCompare_meets_room (op:=.Lt) ⟨_,ho,rfl⟩ ⟨_,tW,rfl⟩ PySem.F.slot_tuple_lt PySem.F.entry_tuple_lt (PySem.F.args_tuple_lt_2 _ _) tc fin ()
    |true=>exact richCompare_meets_room (op:=.GtE) ⟨_,ho,rfl⟩ ⟨_,tW,rfl⟩ PySem.F.slot_tuple_ge PySem.F.entry_tuple_ge (PySem.F.args_tuple_ge_2 _ _) tc fin ()
theorem CZ(hok:fi P w H s.heap):∀(n:Nat)(d e:D)(x y:V)(u v:Value)(A:Around),D.dep d<=n->A.units+n<cLine->D.ff d e->DV H x d->DV H y e->RelV x u->RelV y v->yu false A s u v (D.lt d e):=u9 false hok
theorem Cp(hok:fi P w H s.heap):∀(n:Nat)(d e:D)(x y:V)(u v:Value)(A:Around),D.dep d<=n->A.units+n<cLine->D.ff d e->DV H x d->DV H y e->RelV x u->RelV y v->yu true A s u v (D.lt d e):=u9 true hok
end
end Mx
end
section
namespace Mx
open PySem.W L2 PySem.SeqAt MxSort
section
variable{w:World}{prog:Program}{s:Shared}{A:Around}
theorem CQ{b:Bool}{n m:Nat}{Q:Bool->Shared->Prop}{us vs:List Value}{ds es:List D}(z:Zp false A s us vs ds es):∀(i:Nat),1<=i->ds.length+m=es.length+n->Q (D.fO ds es) s->KatLex prog w A b (decide (n<m)) Q (us.zip vs) i s:=by
 induction z with
 |nil hl=>
  intro i hi hlen q;rw[Wp];refine kat_nil ?_;rename_i ws es;cases es with
  |nil=>simp only[VL]at hlen;rw[D.fO]at q;rw[Ug ()];exact q
  |cons c u=>simp only[VL,T8]at hlen;rw[D.fO]at q;rw[Uk ()];exact q
 |C6 hl=>
  intro i hi hlen q;rw[Wq];refine kat_nil ?_;rename_i vs ds;cases ds with
  |nil=>simp only[VL]at hlen;rw[D.fO]at q;rw[Ug ()];exact q
  |cons c u=>simp only[VL,T8]at hlen;rw[D.fO]at q;rw[Ug ()];exact q
 |cons he hl z' ih=>
  intro i hi hlen q;rename_i v wv d e Bm ws' xi iG;rw[Wo];simp only[T8]at hlen;rw[D.eC]at q;refine kat_cons (he prog w _ _ ?_);by_cases hde:d=e
  ·rw[(D.du d e).mpr hde];rw[W0 hde]at q;exact kat_yes (ih (i+1) () () q)
  ·rw[show D.mV d e=false by rw[D.o4];exact Ug hde];rw[WZ hde]at q;refine kat_no ?_;rw[show (b&&i==0)=false by rw[show (i==0)=false by simp;lia];simp];exact kat_one v wv (hl hde prog w _ _ q)
end
def lu(ds es:List D):Prop:=es.Perm ds/\es.Pairwise λa b=>D.lt b a=false
theorem bc.map{H:Hp}{xs:List V}{ds:List D}(h:bc H xs ds):∀{p:List Nat},(∀i∈p,i<xs.length)->bc H (p.map λi=>xs.getD i .bg) (p.map λi=>ds.getD i (.int 0))
 |[],_=>bc.nil
 |i::p,hp=>by have hi:=hp i TN;obtain⟨d,e1,e2⟩:=h.get (i:=i) (x:=xs[i]) (by simp[hi]);refine bc.cons ?_ (bc.map h λj hj=>hp j (TK _ hj));dsimp only;rw[show xs.getD i .bg=xs[i] by simp[hi],show ds.getD i (.int 0)=d by simp[e1]];exact e2
theorem sG{xs:List V}{us:List Value}(h:aw xs us):∀{p:List Nat},(∀i∈p,i<xs.length)->aw (p.map λi=>xs.getD i .bg) (p.map λi=>us.getD i .none)
 |[],_=>.nil
 |i::p,hp=>by have hi:=hp i TN;obtain⟨u,e1,e2⟩:=h.get (i:=i) (x:=xs[i]) (by simp[hi]);refine .cons ?_ (sG h λj hj=>hp j (TK _ hj));dsimp only;rw[show xs.getD i .bg=xs[i] by simp[hi],show us.getD i .none=u by simp[e1]];exact e2
theorem eD{α:Type}(l:List α)(d:α):(List.range l.length).map (λi=>l.getD i d)=l:=by
 refine List.ext_getElem ∅ λi h1 h2=>?_
 simp at h1;simp[h1]
end Mx
end
section
namespace L2
def oS(env:Env):List (Str×NameKind)->List (Str×Addr)->List (Str×Addr)
 |[],cs=>cs
 |(n,k)::r,cs=>oS env r (if k== .free then(n,(env.cells.lookup n).getD 0)::cs else cs)
def gd(scope:Scope)(env:Env):List (Str×Addr):=oS env scope.names []
theorem lN{env:Env}:∀(l:List (Str×NameKind))(cs:List (Str×Addr)),(∀y∈l,y.2= .free->∃c,env.cells.lookup y.1=some c)->
  (forIn l cs (λx r=>do
   if x.2==NameKind.free then do let a<-cellOf env x.1;pure (ForInStep.yield ((x.1,a)::r)) else pure (ForInStep.yield r)):Sem (List (Str×Addr)))=pure (oS env l cs)
 |[],cs,_=>rfl
 |(n,k)::r,cs,h=>by
  rw[VA];have ih:=λcs=>lN r cs λy hy=>h y (TK _ hy)
  cases hk:(k==NameKind.free) with
  |false=>simp only[hk,UO,WY,oS,pure_bind];exact ih cs
  |true=>
   obtain⟨c,hc⟩:=h (n,k) TN ‹hk›;have ph:env.cells.lookup n=some c:=hc;have e:cellOf env n=pure c:=by unfold cellOf;rw[ph]
   simp only[hk,W1,oS,e,pure_bind,ph,Option.getD_some];exact ih _
theorem iF{scope:Scope}{env:Env}(h:∀y∈scope.names,y.2= .free->∃c,env.cells.lookup y.1=some c):closureFor scope env=pure (gd scope env):=by have q:=lN (env:=env) scope.names [] h;unfold closureFor gd;rw[<-q];simp only[bind_pure]
theorem j8{env:Env}{x:Str}{c:Addr}:∀(l:List (Str×NameKind))(cs:List (Str×Addr)),(∀y∈l,y.2= .free->∃c,env.cells.lookup y.1=some c)->
  (∀c,cs.lookup x=some c->env.cells.lookup x=some c)->(oS env l cs).lookup x=some c->env.cells.lookup x=some c
 |[],cs,_,h2,h=>h2 c h
 |(n,k)::r,cs,h1,h2,h=>by
  refine j8 r _ (λy hy=>h1 y (TK _ hy)) (λc' ph=>?_) h;by_cases hk:(k==NameKind.free)=true
  ·rw[W0 hk]at ph;rw[Uh]at ph;by_cases hx:(x==n)=true
   ·rw[hx]at ph;have tX:x=n:=by simpa using hx
    subst tX;obtain⟨c₁,e⟩:=h1 (x,k) TN ‹hk›;have e':env.cells.lookup x=some c₁:=e;rw[e']at ph ⊢;simpa using ph
   ·rw[Bool.not_eq_true]at hx;rw[hx]at ph;exact h2 c' ph
  ·rw[WZ hk]at ph;exact h2 c' ph
theorem lH{env:Env}{x:Str}:∀(l:List (Str×NameKind))(cs:List (Str×Addr)),(((x,NameKind.free)∈l)\/∃c,cs.lookup x=some c)->∃c,(oS env l cs).lookup x=some c
 |[],cs,h=>by
  rcases h with h|h
  ·cases h
  ·exact h
 |(n,k)::r,cs,h=>by
  refine lH r _ ?_;by_cases hk:(k==NameKind.free)=true
  ·rw[W0 hk];by_cases hx:(x==n)=true
   ·exact .inr ⟨_,by rw[Uh,hx]⟩
   ·rw[Bool.not_eq_true]at hx;rcases h with h|h
    ·rcases TY.mp h with e|h
     ·injection e with e1 e2;subst e1;simp at hx
     ·exact .inl h
    ·exact .inr (by obtain⟨c,e⟩:=h;exact⟨c,by rw[Uh,hx];exact e⟩)
  ·rw[WZ hk];rcases h with h|h
   ·rcases TY.mp h with e|h
    ·injection e with e1 e2;subst e2;exact absurd rfl hk
    ·exact .inl h
   ·exact .inr h
theorem aW{env:Env}{x:Str}:∀{names:List (Str×NameKind)}{k:NameKind},names.lookup x=some k->
  (names.map λ(n,k)=>if (k==NameKind.free&&env.scope.kind== .function&&env.kindOf n==some .cell) then(n,NameKind.cell) else(n,k)).lookup x=
   some (if (k==NameKind.free&&env.scope.kind== .function&&env.kindOf x==some .cell) then NameKind.cell else k)
 |[],_,h=>by simp at h
 |(n,k')::r,k,h=>by
  have ih:=@aW env x r k;show List.lookup x ((if (k'==NameKind.free&&env.scope.kind== .function&&env.kindOf n==some .cell)=true then(n,NameKind.cell) else(n,k'))::_)=_;cases hx:x==n with
  |true=>
   have tX:x=n:=by simpa using hx
   subst tX;simp only[Uh,hx]at h;cases h;by_cases hc:(k'==NameKind.free&&env.scope.kind== .function&&env.kindOf x==some .cell)=true
   ·simp only[hc,W1,Uh,hx]
   ·rw[WZ hc,WZ hc];simp only[Uh,hx]
  |false=>
   simp only[Uh,hx]at h;by_cases hc:(k'==NameKind.free&&env.scope.kind== .function&&env.kindOf n==some .cell)=true
   ·rw[W0 hc];simp only[Uh,hx];exact ih h
   ·rw[WZ hc];simp only[Uh,hx];exact ih h
theorem cz{env:Env}{x:Str}:∀{names:List (Str×NameKind)},names.lookup x=none->
  (names.map λ(n,k)=>if (k==NameKind.free&&env.scope.kind== .function&&env.kindOf n==some .cell) then(n,NameKind.cell) else(n,k)).lookup x=none
 |[],h=>rfl
 |(n,k')::r,h=>by
  show List.lookup x ((if (k'==NameKind.free&&env.scope.kind== .function&&env.kindOf n==some .cell)=true then(n,NameKind.cell) else(n,k'))::_)=_;cases hx:x==n with
  |true=>simp only[Uh,hx]at h;cases h
  |false=>
   simp only[Uh,hx]at h;by_cases hc:(k'==NameKind.free&&env.scope.kind== .function&&env.kindOf n==some .cell)=true
   ·rw[W0 hc];simp only[Uh,hx];exact cz h
   ·rw[WZ hc];simp only[Uh,hx];exact cz h
def dy(cap:List (Option Nat))(σ:St):St:=cap.map λo=>o.bind λi=>(σ[i]?).join
def Ed(X:Cx)(ifs:List Expr)(t:TT):Prop:=
 ∀(pins:List (Addr×Obj))(s:Shared)(σ:St)(H:Hp)(Q:Bool->Hp->Prop),Inv X pins σ H s->t σ H Q->
  wpAny (model X.prog X.w) X.A (forIn ifs true λc r=>if r=true then do let ok<-isTrue c X.env (eval c X.env);pure (ForInStep.yield ok) else pure (ForInStep.yield r)) (TP X pins σ Q) X.xe s
def Pw:TT:=λ_ H Q=>Q true H
theorem DF{X:Cx}:Ed X [] Pw:=λ_ _ _ H _ I h=>wpAny_tests_nil ⟨H,I,h⟩
theorem DG{X:Cx}{c:Expr}{t:TT}(h:PT X c t):Ed X [c] t:=λpins s σ H Q I hw=>wpAny_tests_one (h pins s σ H Q I hw)
def Jd(J:It)(g:TG)(tt:TT)(te:TE)(σ0:St)(D:Addr)(F:Hp->Prop)(H1:Hp):Prop:=
 ∃W:Nat->Nat->List V->Hp->Prop,(∃m,W 0 m [] (upd H1 D (.lst [])))/\∀i m acc H,W i m acc H->
  (J.stop i H/\F H)\/(J.go i H/\∀x H',J.yld i H x H'->g x σ0 H' λσ2 H2=>tt σ2 H2 λb H3=>if b=true then te σ2 H3 λv H4=>∃iz,H4 D=some (.lst iz)/\iz.length<sizeLine/\
   ∃m',m'<m/\W (i+1) m' (iz++[v]) (upd H4 D (.lst (iz++[v]))) else∃m',m'<m/\W (i+1) m' acc H3)
end L2
end
section
namespace Mx
open PySem.W L2 PySem.SeqAt
section
variable{X:Cx}
def OX(K:PySem.W.Frag):List V->Hp->VK->Prop:=λxs H Q=>∃x T t b,xs=[x,.ty T]/\ja K H x t/\PySem.W.kitOne K t (.type T)=some b/\Q (.bl b) H
theorem yX:df X (.builtin "isinstance") (OX X.K):=by intro pins s σ H xs us Q I r h;obtain⟨x,T,t,b,rfl,ty,hk,q⟩:=h;obtain⟨u,v,rfl,r1,r2⟩:=r.two;cases r2;exact xE I r1 ty hk λtk=>⟨.bl b,H,I.tok tk,rfl,q⟩
end
end Mx
end
section
namespace Mx
open PySem.W L2 PySem.SeqAt
section
variable{X:Cx}{pos:Pos}
def vt(K:PySem.W.Frag)(n:Nat)(t:wO):TG:=λv σ H Q=>∃a xs,v= .ref a/\(fj K H a xs\/dF K H a xs)/\xs.length=n/\t xs σ H Q
theorem Du{es:List Expr}{k:Nat}{t:wO}{n:Nat}(hc:X.calm=true)(h:IJ X es t)(hn:(assignEach es X.env).length=n)(nS:(assignEach es X.env).findIdx? (·.1)=none):PG X (.Tuple es k pos) (vt X.K n t):=by
 intro pins s σ H v u Q I r hw;obtain⟨a,xs,rfl,hq|hq,hl,hw⟩:=hw
 ·exact AA hc h hn nS pins s σ H _ u Q I r ⟨a,xs,rfl,hq,hl,hw⟩
 cases r;obtain⟨its,rv,pl,_⟩:=I.list hq;have e:(assignEach es X.env).length=its.toArray.size:=by rw[hn,<-hl,rv.length,TF]
 rw[arm_assign_Tuple];refine Tv (Xo ?_);unfold unpack;rw[nS,e];refine Tv (Xf (PySem.W.kun_itemsOf (I.ok.hd hc) pl.isList λh' hx=>?_));exact h pins _ σ H xs _ Q (I.kept (t':=s.toks) λb o z=>hx b o (Um (TV z)) z) rv hw
end
end Mx
end
section
namespace Mx
open PySem.W L2
structure yB(z TI TO i1 i2:Addr):Prop where
 TIz:TI≠z
 TOz:TO≠z
 i1z:i1≠z
 i2z:i2≠z
 TITO:TI≠TO
 TIi1:TI≠i1
 TIi2:TI≠i2
 TOi1:TO≠i1
 TOi2:TO≠i2
 i12:i1≠i2
theorem eM{H:Hp}{p:Addr}(h:H p=none)(o:HO):cy H (upd H p o):=λb u q=>by rw[aJ (aZ q h)];exact q
theorem oq{H H':Hp}(h:cy H H'):B0 H H':=λa xs q=>h a _ q
theorem A2{H1 H:Hp}{D:Addr}{o:HO}(h:cy H1 H)(hD:H1 D=none):cy H1 (upd H D o):=λb u q=>by rw[aJ (aZ q hD)];exact h b u q
theorem mT{H:Hp}{D:Addr}{xs ys:List V}(hD:H D=some (.lst xs)):B0 H (upd H D (.lst ys)):=λb zs q=>by
 by_cases e:b=D
 ·subst e;rw[hD]at q;cases q
 ·rw[aJ e];exact q
theorem IK{α:Type}{x y:α}{r:List α}:nB (x::y::r) 1=some y:=kK (j:=1) rfl
theorem at2{α:Type}{x y z:α}{r:List α}:nB (x::y::z::r) 2=some z:=kK (j:=2) rfl
section
variable{g:TG}{tt:TT}{te:TE}{σ0:L2.St}{D:Addr}{F:Hp->Prop}{H1:Hp}
theorem qH{J:It}{n:Nat}(hD:H1 D=none)(E:Nat->List Mx.D)(hE:E 0=[])(hn:n<sizeLine)(go:∀i H,i<n->cy H1 H->J.go i H)(stop:∀H,cy H1 H->J.stop n H)
  (hs:∀i x H H',i<n->cy H1 H->J.yld i H x H'->cy H H'/\∀(N:V->Hp->Prop)(M:Hp->Prop),(∀v H4 e,cy H' H4->DV H4 v e->E (i+1)=E i++[e]->N v H4)->(∀H3,cy H' H3->E (i+1)=E i->M H3)->
   g x σ0 H' λσ2 H2=>tt σ2 H2 λb H3=>if b=true then te σ2 H3 N else M H3)
  (hd:∀H acc,cy H1 H->H D=some (.lst acc)->bc H acc (E n)->F H):Jd J g tt te σ0 D F H1:=by
 refine⟨λi m acc H=>m=n-i/\i<=n/\cy H1 H/\H D=some (.lst acc)/\bc H acc (E i)/\acc.length<=i,⟨n,∅,WG _,eM hD _,aN,by rw[hE];exact bc.nil,TM _⟩,?_⟩;rintro i m acc H ⟨rfl,hi,hS,NV,kc,vz⟩;by_cases cU:i<n
 ·refine .inr ⟨go i H cU hS,λx H' y=>?_⟩;obtain⟨s1,st⟩:=hs i x H H' cU hS y;refine st _ _ (λv H4 e s4 he e4=>?_) (λH3 s3 e3=>?_)
  ·have Pd:=s1.trans s4;have JX:=Pd _ _ NV;refine⟨acc,JX,(),n-(i+1),(),rfl,cU,A2 (hS.trans Pd) hD,aN,?_,by simp;lia⟩;rw[e4];exact(bc.append (kc.mono (oq Pd)) (bc.cons he bc.nil)).mono (mT JX)
  ·have Pc:=s1.trans s3;exact⟨n-(i+1),(),rfl,cU,hS.trans Pc,Pc _ _ NV,by rw[e3];exact kc.mono (oq Pc),()⟩
 ·have e:i=n:=()
  subst e;exact .inl ⟨stop H hS,hd H acc hS NV kc⟩
end
def cC:Bool->Heap->Addr->Addr->Nat->Prop
 |false,h,i,l,k=>h.IsListIter i l k
 |true,h,i,l,k=>h.IsTupleIter i l k
def gu:Bool->Heap->Addr->Array Value->Prop
 |false,h,l,xs=>h.IsList l xs
 |true,h,l,xs=>h.IsTuple l xs
theorem cC.at:∀{b:Bool}{h h':Heap}{i l:Addr}{k:Nat},cC b h i l k->(∀o,h.get? i=some o->h'.get? i=some o)->cC b h' i l k
 |false,_,_,_,_,_,x,e=>Heap.IsListIter.at x e
 |true,_,_,_,_,_,x,e=>Heap.IsTupleIter.at x e
theorem gu.at:∀{b:Bool}{h h':Heap}{l:Addr}{xs:Array Value},gu b h l xs->(∀o,h.get? l=some o->h'.get? l=some o)->gu b h' l xs
 |false,_,_,_,_,x,e=>let ⟨o,ho,r⟩:=x;⟨o,e o ho,r⟩
 |true,_,_,_,_,x,e=>let ⟨o,ho,r⟩:=x;⟨o,e o ho,r⟩
theorem cC.obj:∀{b:Bool}{h:Heap}{i l:Addr}{k:Nat},cC b h i l k->∃o,h.get? i=some o/\∀v,o.data≠ .cell v
 |false,_,_,_,_,x=>by obtain⟨o,e,c,d⟩:=x;exact⟨o,e,λv q=>by rw[d]at q;cases q⟩
 |true,_,_,_,_,x=>by obtain⟨o,e,c,d⟩:=x;exact⟨o,e,λv q=>by rw[d]at q;cases q⟩
section
variable{prog:Program}{w:World}{A:Around}{E:Value->Shared->Prop}{s:Shared}
theorem uI{it t:Addr}{i:Nat}{items:Array Value}{x:Value}{Q:Value->Shared->Prop}(hit:s.heap.IsTupleIter it t i)(ht:s.heap.IsTuple t items)(hx:items[i]?=some x)
  (hQ:∀h',h'.IsTupleIter it t (i+1)->Heap.SameBut it s.heap h'->Q x {s with heap:=h'}):wpAny (model prog w) A (Builtin.SmallTypes.nextOf (.ref it)) Q E s:=by
 obtain⟨o,ho,hc,hd⟩:=id hit;obtain⟨ol,Og,_,nl,ME⟩:=ht;unfold Builtin.SmallTypes.nextOf;refine Tv (Xc (name:=Str.ofString "__next__") hit.typeIs UX (Xd UX hit.typeIs UW (show wpAny _ _ (field (.ref it) 0 >>=_) _ _ s from Tv (Xe ho hd (x:=.ref t) rfl ?_)) (UV _)));show wpAny _ _ (if (Value.ref t==Value.none)=true then _ else _) _ _ s;rw[WZ (show¬((Value.ref t==Value.none)=true) from UP)];refine(show wpAny _ _ (field (.ref it) 1 >>=_) _ _ s from Tv (Xe ho hd (x:=.int i 0) rfl (show wpAny _ _ (seqItems? (.ref t) >>=_) _ _ s from Tv (Xn Og ME ?_))));simp only[Va,hx];refine Tv (wpAny_setField ho hd ∅ (Tz ⟨x,rfl,Tz (hQ _ ⟨_,Heap.get?_update_self _ ho (Obj.isFreed_of_fields (Obj.data_mapFields hd _)),(Obj.cls_mapFields ..).trans hc,?_⟩ (Heap.SameBut.update ..))⟩));rw[Obj.data_mapFields hd];simp[rawInt]
theorem ye{it t:Addr}{i:Nat}{items:Array Value}{Q:Value->Shared->Prop}(hh:A.handled=none)(hit:s.heap.IsTupleIter it t i)(ht:s.heap.IsTuple t items)(hx:items[i]?=none)
  (hE:∀h' e,Heap.ExtBut it s.heap h'->(∃o,h'.get? e=some o/\o.cls= .type "StopIteration")->E (.ref e) {s with heap:=h'}):wpAny (model prog w) A (Builtin.SmallTypes.nextOf (.ref it)) Q E s:=by
 obtain⟨o,ho,hc,hd⟩:=id hit;obtain⟨ol,Og,_,nl,ME⟩:=ht;unfold Builtin.SmallTypes.nextOf;refine Tv (Xc (name:=Str.ofString "__next__") hit.typeIs UX (Xd UX hit.typeIs UW (show wpAny _ _ (field (.ref it) 0 >>=_) _ _ s from Tv (Xe ho hd (x:=.ref t) rfl ?_)) (UV _)));show wpAny _ _ (if (Value.ref t==Value.none)=true then _ else _) _ _ s;rw[WZ (show¬((Value.ref t==Value.none)=true) from UP)];refine(show wpAny _ _ (field (.ref it) 1 >>=_) _ _ s from Tv (Xe ho hd (x:=.int i 0) rfl (show wpAny _ _ (seqItems? (.ref t) >>=_) _ _ s from Tv (Xn Og ME ?_))));simp only[Va,hx];refine Tv (Xm (Tv (wpAny_setField ho hd ∅ (show wpAny _ _ (newExc (.type "StopIteration") [] >>=_) _ _ _ from Tv ?_))));simp only[newExc,newTuple];refine Tv (Xh (Tv (m:=firstArgMember _ _) (wpAny_of_eq (a:=Value.none) (by first|rfl|(simp only[firstArgMember];rfl)) (Xh ?_ (by size_fits)))) (by size_fits));simp only[raiseNew];refine Tv (wpAny_handled ?_)
 first|rw[show A.in1.handled=none from hh]|rw[hh]
 exact Tv (Tz (wpAny_throw (hE _ _ (((Heap.SameBut.update ..).extBut.push _).push _) ⟨_,TQ _ rfl,rfl⟩)))
theorem iO{b:Bool}{it l:Addr}{i:Nat}{items:Array Value}{x:Value}{Q:Value->Shared->Prop}(hit:cC b s.heap it l i)(hl:gu b s.heap l items)(hx:items[i]?=some x)
  (hQ:∀h',cC b h' it l (i+1)->Heap.SameBut it s.heap h'->Q x {s with heap:=h'}):wpAny (model prog w) A (Builtin.SmallTypes.nextOf (.ref it)) Q E s:=by
 cases b with
 |false=>exact wpAny_nextOf_list_item hit hl hx hQ
 |true=>exact uI hit hl hx hQ
theorem nV{b:Bool}{it l:Addr}{i:Nat}{items:Array Value}{Q:Value->Shared->Prop}(hh:A.handled=none)(hit:cC b s.heap it l i)(hl:gu b s.heap l items)(hx:items[i]?=none)
  (hE:∀h' e,Heap.ExtBut it s.heap h'->(∃o,h'.get? e=some o/\o.cls= .type "StopIteration")->E (.ref e) {s with heap:=h'}):wpAny (model prog w) A (Builtin.SmallTypes.nextOf (.ref it)) Q E s:=by
 cases b with
 |false=>exact wpAny_nextOf_list_end hh hit hl hx hE
 |true=>exact ye hh hit hl hx hE
end
structure jG(z TO i1 i2 l:Addr):Prop where
 z:l≠z
 o:l≠TO
 a:l≠i1
 b:l≠i2
section
variable{prog:Program}{w:World}{A:Around}{E:Value->Shared->Prop}{s:Shared}
theorem yi{b1 b2:Bool}{z TI TO i1 i2 l1 l2:Addr}{k1 k2:Nat}{xs ys:Array Value}{x y a b:Value}{Q:Option Value->Shared->Prop}(D:yB z TI TO i1 i2)(O1:jG z TO i1 i2 l1)(O2:jG z TO i1 i2 l2)
  (hz:IsZip s.heap z TI TO .none) (N1:IsPair s.heap TI (.ref i1) (.ref i2)) (N3:IsPair s.heap TO a b) (h1:cC b1 s.heap i1 l1 k1) (h2:cC b2 s.heap i2 l2 k2) (kD:gu b1 s.heap l1 xs) (fZ:gu b2 s.heap l2 ys) (hx:xs[k1]?=some x) (hy:ys[k2]?=some y)
  (hQ:∀h',IsZip h' z TI TO (rawInt s.heap.objs.size)->IsPair h' TO x y->cC b1 h' i1 l1 (k1+1)->cC b2 h' i2 l2 (k2+1)->IsPair h' s.heap.objs.size x y->
   (∀c o,c≠z->c≠TO->c≠i1->c≠i2->s.heap.get? c=some o->h'.get? c=some o)->Q (some (.ref s.heap.objs.size)) {s with heap:=h'}):wpAny (model prog w) A (pyNext (.ref z)) Q E s:=by
 have hT:s.TypeIs (.ref z) "zip":=⟨_,hz,rfl⟩;unfold pyNext;refine Tv (wpAny_attempt (Xc (name:=Str.ofString "__next__") hT UY (Xd UY hT F.entry_zip_next ?_ (F.args_zip_next_1 _))));refine(show wpAny _ _ (field (.ref z) 2 >>=_) _ _ _ from Tv (Xe hz rfl (x:=.bool false) rfl (show wpAny _ _ (field (.ref z) 3 >>=_) _ _ _ from Tv (Xe hz rfl (x:=.ref TI) rfl (Tv (Xn N1 rfl (show wpAny _ _ (Builtin.SmallTypes.ownedTupleIsFree (.ref z) >>=_) _ _ _ from Tv ?_)))))));unfold Builtin.SmallTypes.ownedTupleIsFree;refine Tv (Xe hz rfl (x:=.none) rfl (Tz ?_));simp only[W1];refine Tv (Xm (Tv (Xe hz rfl (x:=.ref TO) rfl (Tv (Uq hz ∅ λg1 z1 e1=>Tv ?_)))))
 replace z1:IsZip g1 z TI TO .ellipsis:=z1
 simp only[Wn,List.zipIdx_nil,VA,List.forIn_nil];refine Tv (Tv (Xi (show wpAny _ _ (Builtin.SmallTypes.nextOf (.ref i1) >>=_) _ _ _ from Tv (iO (h1.at λo q=>e1.extBut _ o D.i1z q) (kD.at λo q=>e1.extBut _ o O1.z q) hx λg2 j1 e2=>Tz ?_))));have t2:IsPair g2 TO a b:=e2.extBut _ _ D.TOi1 (e1.extBut _ _ D.TOz N3);refine Tv (Xn t2 rfl (Tv (Xr t2 λg3 t3 e3=>Tv (wpAny_letGo (Tz ?_)))))
 replace t3:IsPair g3 TO x b:=t3
 refine Tv (Tv (Xi (show wpAny _ _ (Builtin.SmallTypes.nextOf (.ref i2) >>=_) _ _ _ from Tv (iO (h2.at λo q=>e3.extBut _ o D.TOi2.symm (e2.extBut _ o D.i12.symm (e1.extBut _ o D.i2z q))) (fZ.at λo q=>e3.extBut _ o O2.o (e2.extBut _ o O2.a (e1.extBut _ o O2.z q))) hy λg4 j2 e4=>Tz ?_))));have t4:IsPair g4 TO x b:=e4.extBut _ _ D.TOi2 t3;refine Tv (Xn t4 rfl (Tv (Xr t4 λg5 t5 e5=>Tv (wpAny_letGo (Tz (Tz ?_))))))
 replace t5:IsPair g5 TO x y:=t5
 refine Tv (Xn t5 rfl (Tv (wpAny_newTuple ?_)));have sz:g5.objs.size=s.heap.objs.size:=by rw[e5.1,e4.1,e3.1,e2.1,e1.1]
 have z5:IsZip g5 z TI TO .ellipsis:=e5.extBut _ _ D.TOz.symm (e4.extBut _ _ D.i2z.symm (e3.extBut _ _ D.TOz.symm (e2.extBut _ _ D.i1z.symm z1)));have old:∀c o,c≠z->c≠TO->c≠i1->c≠i2->s.heap.get? c=some o->g5.get? c=some o:=λc o c1 c2 c3 c4 q=>e5.extBut _ _ c2 (e4.extBut _ _ c4 (e3.extBut _ _ c2 (e2.extBut _ _ c3 (e1.extBut _ _ c1 q))))
 have n1:cC b1 g5 i1 l1 (k1+1):=j1.at λo q=>e5.extBut _ o D.TOi1.symm (e4.extBut _ o D.i12 (e3.extBut _ o D.TOi1.symm q))
 have n2:cC b2 g5 i2 l2 (k2+1):=j2.at λo q=>e5.extBut _ o D.TOi2.symm q
 have QR:z<g5.objs.size:=TV z5;refine(show wpAny _ _ (Builtin.SmallTypes.ownedTupleHandOut (.ref z) (.ref g5.objs.size) >>=_) _ _ _ from Tv ?_);unfold Builtin.SmallTypes.ownedTupleHandOut;have z6:IsZip (g5.push {cls:=.type "tuple",data:=.seq #[x,y]}) z TI TO .ellipsis:=Tx _ z5;refine Tv (Uq z6 ∅ λg7 z7 e7=>?_)
 replace z7:IsZip g7 z TI TO (rawInt g5.objs.size):=z7
 refine Uq z7 ∅ λg8 z8 e8=>?_
 replace z8:IsZip g8 z TI TO (rawInt g5.objs.size):=z8
 have up:∀c o,c≠z->g5.get? c=some o->g8.get? c=some o:=λc o c1 q=>e8.extBut _ _ c1 (e7.extBut _ _ c1 (Tx _ q))
 have t8:IsPair g8 g5.objs.size x y:=e8.extBut _ _ (WB QR) (e7.extBut _ _ (WB QR) (TQ _ rfl));rw[sz]at z8 t8;refine Tz ⟨_,rfl,Tz ?_⟩;show Q (some (.ref g5.objs.size)) _;rw[sz];exact hQ g8 z8 (up _ _ D.TOz t5) (n1.at λo q=>up _ o D.i1z q) (n2.at λo q=>up _ o D.i2z q) t8 λc o c1 c2 c3 c4 q=>up c o c1 (old c o c1 c2 c3 c4 q)
theorem Bx{b1 b2:Bool}{z TI TO i1 i2 l1 l2:Addr}{k1 k2:Nat}{xs ys:Array Value}{a b:Value}{Q:Option Value->Shared->Prop}(hh:A.handled=none)(D:yB z TI TO i1 i2)(O1:jG z TO i1 i2 l1)(O2:jG z TO i1 i2 l2)
  (hz:IsZip s.heap z TI TO .none) (N1:IsPair s.heap TI (.ref i1) (.ref i2)) (N3:IsPair s.heap TO a b) (h1:cC b1 s.heap i1 l1 k1) (h2:cC b2 s.heap i2 l2 k2) (kD:gu b1 s.heap l1 xs) (fZ:gu b2 s.heap l2 ys) (Kg:xs[k1]?=none\/ys[k2]?=none)
  (hQ:∀h',(∀c o,c≠z->c≠TO->c≠i1->c≠i2->s.heap.get? c=some o->h'.get? c=some o)->Q none {s with heap:=h'}):wpAny (model prog w) A (pyNext (.ref z)) Q E s:=by
 have hT:s.TypeIs (.ref z) "zip":=⟨_,hz,rfl⟩;unfold pyNext;refine Tv (wpAny_attempt (Xc (name:=Str.ofString "__next__") hT UY (Xd UY hT F.entry_zip_next ?_ (F.args_zip_next_1 _))));have stop:∀(h':Heap)(e:Addr),(∀c o,c≠z->c≠TO->c≠i1->c≠i2->s.heap.get? c=some o->h'.get? c=some o)->(∃o,h'.get? e=some o/\o.cls= .type "StopIteration")->wpAny (model prog w) A (isInstance (.ref e) (.type "StopIteration")) (λr s'=>r=true/\Q none s') E {s with heap:=h'}:=λh' e kk he=>by obtain⟨o,ho,hc⟩:=he;exact wpAny_isInstance (T:="StopIteration") (b:=true) ⟨o,ho,hc⟩ isSubtype_stop ⟨rfl,hQ _ kk⟩
 refine(show wpAny _ _ (field (.ref z) 2 >>=_) _ _ _ from Tv (Xe hz rfl (x:=.bool false) rfl (show wpAny _ _ (field (.ref z) 3 >>=_) _ _ _ from Tv (Xe hz rfl (x:=.ref TI) rfl (Tv (Xn N1 rfl (show wpAny _ _ (Builtin.SmallTypes.ownedTupleIsFree (.ref z) >>=_) _ _ _ from Tv ?_)))))));unfold Builtin.SmallTypes.ownedTupleIsFree;refine Tv (Xe hz rfl (x:=.none) rfl (Tz ?_));simp only[W1];refine Tv (Xm (Tv (Xe hz rfl (x:=.ref TO) rfl (Tv (Uq hz ∅ λg1 z1 e1=>Tv ?_)))))
 replace z1:IsZip g1 z TI TO .ellipsis:=z1
 simp only[Wn,List.zipIdx_nil,VA,List.forIn_nil];refine Tv (Tv (Xi ?_));show wpAny _ _ (Builtin.SmallTypes.nextOf (.ref i1) >>=_) _ _ _;cases hx:xs[k1]? with
 |none=>
  refine Tv (nV hh (h1.at λo q=>e1.extBut _ o D.i1z q) (kD.at λo q=>e1.extBut _ o O1.z q) hx λg2 e e2 he=>?_);obtain⟨oe,Gd,J9⟩:=he;have z2:IsZip g2 z TI TO .ellipsis:=e2 _ _ D.i1z.symm z1;have N8:e≠z:=λx=>by subst x;rw[z2]at Gd;cases Gd;simp at J9
  refine Uq z2 ∅ λg3 _ e3=>?_
  refine Tv (Xg (stop g3 e (λc o c1 _ c3 _ x=>e3.extBut _ _ c1 (e2 _ _ c3 (e1.extBut _ _ c1 x))) ⟨oe,e3.extBut _ _ N8 Gd,J9⟩) (λr s' q=>?_) λ_ _ q=>q);obtain⟨rfl,q⟩:=q;exact Tz q
 |some x=>
  have hy:ys[k2]?=none:=by rcases Kg with h|h;rw[hx]at h;cases h;exact h
  refine Tv (iO (h1.at λo q=>e1.extBut _ o D.i1z q) (kD.at λo q=>e1.extBut _ o O1.z q) hx λg2 j1 e2=>Tz ?_);have t2:IsPair g2 TO a b:=e2.extBut _ _ D.TOi1 (e1.extBut _ _ D.TOz N3);refine Tv (Xn t2 rfl (Tv (Xr t2 λg3 t3 e3=>Tv (wpAny_letGo (Tz ?_)))));refine Tv (Tv (Xi (show wpAny _ _ (Builtin.SmallTypes.nextOf (.ref i2) >>=_) _ _ _ from Tv (nV hh (h2.at λo q=>e3.extBut _ o D.TOi2.symm (e2.extBut _ o D.i12.symm (e1.extBut _ o D.i2z q))) (fZ.at λo q=>e3.extBut _ o O2.o (e2.extBut _ o O2.a (e1.extBut _ o O2.z q))) hy λg4 e e4 he=>?_))));obtain⟨oe,Gd,J9⟩:=he;have z4:IsZip g4 z TI TO .ellipsis:=e4 _ _ D.i2z.symm (e3.extBut _ _ D.TOz.symm (e2.extBut _ _ D.i1z.symm z1));have N8:e≠z:=λx=>by subst x;rw[z4]at Gd;cases Gd;simp at J9
  refine Uq z4 ∅ λg5 _ e5=>?_
  refine Tv (Xg (stop g5 e (λc o c1 c2 c3 c4 x=>e5.extBut _ _ c1 (e4 _ _ c4 (e3.extBut _ _ c2 (e2.extBut _ _ c3 (e1.extBut _ _ c1 x))))) ⟨oe,e5.extBut _ _ N8 Gd,J9⟩) (λr s' q=>?_) λ_ _ q=>q);obtain⟨rfl,q⟩:=q;exact Tz q
end
def qU:Bool->Addr->Obj
 |false,l=>{cls:=.type "list_iterator",data:=.fields #[.ref l,.int 0 0]}
 |true,l=>{cls:=.type "tuple_iterator",data:=.fields #[.ref l,.int 0 0]}
theorem qV:∀{b:Bool}{h:Heap}{i l:Addr},h.get? i=some (qU b l)->cC b h i l 0
 |false,_,_,_,e=>⟨_,e,rfl,rfl⟩
 |true,_,_,_,e=>⟨_,e,rfl,rfl⟩
theorem nU(b:Bool)(l:Addr):(qU b l).isFreed=false:=by cases b<;>rfl
abbrev M5(h:Heap)(b1:Bool)(l1:Addr):Heap:=h.push (qU b1 l1)
abbrev M6(h:Heap)(b1 b2:Bool)(l1 l2:Addr):Heap:=(M5 h b1 l1).push (qU b2 l2)
abbrev M7(h:Heap)(b1 b2:Bool)(l1 l2:Addr):Heap:=(M6 h b1 b2 l1 l2).push {cls:=.type "tuple",data:=.seq #[.ref h.objs.size,.ref (M5 h b1 l1).objs.size]}
abbrev M8(h:Heap)(b1 b2:Bool)(l1 l2:Addr):Heap:=(M7 h b1 b2 l1 l2).push {cls:=.type "tuple",data:=.seq #[.none,.none]}
abbrev Jc(h:Heap)(b1 b2:Bool)(l1 l2:Addr):Heap:=(M8 h b1 b2 l1 l2).push {cls:=.type "zip",data:=.fields #[.none,.bool false,.bool false,.ref (M6 h b1 b2 l1 l2).objs.size,.ref (M7 h b1 b2 l1 l2).objs.size]}
theorem gu.push{b:Bool}{h:Heap}{l:Addr}{xs:Array Value}(x:gu b h l xs)(o:Obj):gu b (h.push o) l xs:=x.at λ_ e=>Tx _ e
theorem By(b1 b2:Bool)(l1 l2:Addr)(xs ys:Array Value):
  Meets (Builtin.«zip.__new__» ⟨[.type "zip",.ref l1,.ref l2],[]⟩) (λ_ R s=>gu b1 s.heap l1 xs/\gu b2 s.heap l2 ys/\R (.ok (.ret (.ref (M8 s.heap b1 b2 l1 l2).objs.size))) {s with heap:=Jc s.heap b1 b2 l1 l2}):=
 .of_wp λprog w A R s h=>by
  obtain⟨hp,g,d,tk,os⟩:=s;obtain⟨kD,fZ,h⟩:=h;have Sa:=sub_zip;have MB:=fZ.push (qU b1 l1);cases b1<;>cases b2
  ·have k1:Heap.IsList (Shared.heap ⟨hp,g,d,tk,os⟩) l1 xs:=kD;have k2:Heap.IsList (Shared.heap ⟨hp.push {cls:=.type "list_iterator",data:=.fields #[.ref l1,.int 0 0]},g,d,tk,os⟩) l2 ys:=MB
   wp_walk using Xk k1,Xk k2
   exact⟨_,rfl,h⟩
  ·have k1:Heap.IsList (Shared.heap ⟨hp,g,d,tk,os⟩) l1 xs:=kD;have k2:Heap.IsTuple (Shared.heap ⟨hp.push {cls:=.type "list_iterator",data:=.fields #[.ref l1,.int 0 0]},g,d,tk,os⟩) l2 ys:=MB
   wp_walk using Xk k1,Xl k2
   exact⟨_,rfl,h⟩
  ·have k1:Heap.IsTuple (Shared.heap ⟨hp,g,d,tk,os⟩) l1 xs:=kD;have k2:Heap.IsList (Shared.heap ⟨hp.push {cls:=.type "tuple_iterator",data:=.fields #[.ref l1,.int 0 0]},g,d,tk,os⟩) l2 ys:=MB
   wp_walk using Xl k1,Xk k2
   exact⟨_,rfl,h⟩
  ·have k1:Heap.IsTuple (Shared.heap ⟨hp,g,d,tk,os⟩) l1 xs:=kD;have k2:Heap.IsTuple (Shared.heap ⟨hp.push {cls:=.type "tuple_iterator",data:=.fields #[.ref l1,.int 0 0]},g,d,tk,os⟩) l2 ys:=MB
   wp_walk using Xl k1,Xl k2
   exact⟨_,rfl,h⟩
section
variable{prog:Program}{w:World}{A:Around}{E:Value->Shared->Prop}{s:Shared}
theorem w6{b1 b2:Bool}{l1 l2:Addr}{xs ys:Array Value}{Q:Value->Shared->Prop}(kD:gu b1 s.heap l1 xs)(fZ:gu b2 s.heap l2 ys)
  (h:∀h',IsZip h' (s.heap.objs.size+4) (s.heap.objs.size+2) (s.heap.objs.size+3) .none->IsPair h' (s.heap.objs.size+2) (.ref s.heap.objs.size) (.ref (s.heap.objs.size+1))->IsPair h' (s.heap.objs.size+3) .none .none->
   cC b1 h' s.heap.objs.size l1 0->cC b2 h' (s.heap.objs.size+1) l2 0->(∀c o,s.heap.get? c=some o->h'.get? c=some o)->Q (.ref (s.heap.objs.size+4)) {s with heap:=h'}):wpAny (model prog w) A (call (.type "zip") [.ref l1,.ref l2]) Q E s:=by
 refine callType_new F.called_zip ⋯ (F.typeCall_zip_2 _ _) (F.newCall_zip_2 _ _) (λobj=>F.args_object_init_3 obj _ _) F.entry_zip_new (By b1 b2 l1 l2 xs ys) ⟨kD,fZ,?_⟩;have y1:(M5 s.heap b1 l1).objs.size=s.heap.objs.size+1:=Ul ..;have y2:(M6 s.heap b1 b2 l1 l2).objs.size=s.heap.objs.size+2:=by rw[Ul,y1]
 have y3:(M7 s.heap b1 b2 l1 l2).objs.size=s.heap.objs.size+3:=by rw[Ul,y2]
 have y4:(M8 s.heap b1 b2 l1 l2).objs.size=s.heap.objs.size+4:=by rw[Ul,y3]
 have g5:(Jc s.heap b1 b2 l1 l2).get? (M8 s.heap b1 b2 l1 l2).objs.size=some _:=TQ _ rfl;have g4:(Jc s.heap b1 b2 l1 l2).get? (M7 s.heap b1 b2 l1 l2).objs.size=some _:=Tx _ (TQ _ rfl);have g3:(Jc s.heap b1 b2 l1 l2).get? (M6 s.heap b1 b2 l1 l2).objs.size=some _:=Tx _ (Tx _ (TQ _ rfl));have g2:(Jc s.heap b1 b2 l1 l2).get? (M5 s.heap b1 l1).objs.size=some _:=Tx _ (Tx _ (Tx _ (TQ _ (nU b2 l2))));have g1:(Jc s.heap b1 b2 l1 l2).get? s.heap.objs.size=some _:=Tx _ (Tx _ (Tx _ (Tx _ (TQ _ (nU b1 l1)))));show _/\_;rw[y2,y3,y4]at g5;rw[y1,y2]at g3;rw[y3]at g4;rw[y1]at g2;rw[y4];exact⟨⟨_,g5,rfl⟩,h _ g5 g3 g4 (qV g1) (qV g2) λc o x=>Tx _ (Tx _ (Tx _ (Tx _ (Tx _ x))))⟩
end
def sO:Bool->List V->HO
 |false,xs=>.lst xs
 |true,xs=>.tup xs
theorem vA{b:Bool}{xs ys:List V}(h:sO b xs=sO b ys):xs=ys:=by
 cases b with
 |false=>injection h
 |true=>injection h
def Nc(b1 b2:Bool)(l1 l2:Addr):It where
 go:=λi H=>∃xs ys x y,H l1=some (sO b1 xs)/\H l2=some (sO b2 ys)/\xs[i]?=some x/\ys[i]?=some y
 yld:=λi H v H'=>∃p x y,v= .ref p/\H p=none/\H'=upd H p (.tup [x,y])/\∀xs ys,H l1=some (sO b1 xs)->H l2=some (sO b2 ys)->xs[i]?=some x/\ys[i]?=some y
 stop:=λi H=>∃xs ys,H l1=some (sO b1 xs)/\H l2=some (sO b2 ys)/\(xs.length<=i\/ys.length<=i)
theorem ir{X:Cx}{pins:List (Addr×Obj)}{s:Shared}{σ:L2.St}{H:Hp}(I:Inv X pins σ H s){b:Bool}{l:Addr}{xs:List V}(h:H l=some (sO b xs)):∃its:List Value,aw xs its/\gu b s.heap l its.toArray:=by
 cases b with
 |false=>obtain⟨its,r,p,_⟩:=I.list (.inl (.inl h));exact⟨its,r,p.isList⟩
 |true=>obtain⟨its,r,p,_⟩:=I.tuple (.inl (.inl h));exact⟨its,r,p⟩
def SQ(b1 b2:Bool)(z TI TO i1 i2 l1 l2:Addr)(i:Nat)(h:Heap):Prop:=IsZip h z TI TO .none/\IsPair h TI (.ref i1) (.ref i2)/\(∃a b,IsPair h TO a b)/\cC b1 h i1 l1 i/\cC b2 h i2 l2 i
theorem yh{P:Program}{w:World}{K:PySem.W.Frag}{es:List Expr}{k:Nat}{tp:Pos}{b1 b2:Bool}{z TI TO i1 i2 l1 l2:Addr}(ap:yB z TI TO i1 i2):
  Turn P w K (.Tuple es k tp) (Nc b1 b2 l1 l2) [z,TI,TO,i1,i2] z (SQ b1 b2 z TI TO i1 i2 l1 l2) where
 mem:=by simp
 obj:=λi h st b hb=>by
  obtain⟨s1,s2,⟨a,b',s3⟩,s4,s5⟩:=st;simp only[TY,TZ,W8]at hb;rcases hb with rfl|rfl|rfl|rfl|rfl
  ·exact⟨_,s1,λv q=>by cases q⟩
  ·exact⟨_,s2,λv q=>by cases q⟩
  ·exact⟨_,s3,λv q=>by cases q⟩
  ·exact s4.obj
  ·exact s5.obj
 keep:=λi h h' st kk=>by obtain⟨s1,s2,⟨a,b',s3⟩,s4,s5⟩:=st;exact⟨kk z ∅ _ s1,kk TI ∅ _ s2,⟨a,b',kk TO ∅ _ s3⟩,s4.at λo e=>kk i1 ∅ o e,s5.at λo e=>kk i2 ∅ o e⟩
 item:=by
  intro X hP hw hK hc i pins s σ H E I hf st hg;subst hP hw hK;obtain⟨xs,ys,x,y,kD,fZ,hx,hy⟩:=hg;obtain⟨s1,s2,⟨a,b',s3⟩,s4,s5⟩:=st;obtain⟨jQ,r1,p1⟩:=ir I kD;obtain⟨cn,r2,p2⟩:=ir I fZ;obtain⟨u1,Kq,SA⟩:=r1.get hx;obtain⟨u2,Sb,SB⟩:=r2.get hy;have ne:∀{l:Addr}{o:HO},H l=some o->∀b∈[z,TI,TO,i1,i2],l≠b:=λ {l o} hl b hb e=>by subst e;rw[(hf l hb).1]at hl;cases hl
  have off:∀{l:Addr}{o:HO},H l=some o->jG z TO i1 i2 l:=λ {l o} hl=>⟨ne hl z ∅,ne hl TO ∅,ne hl i1 ∅,ne hl i2 ∅⟩
  refine yi ap (off kD) (off fZ) s1 s2 s3 s4 s5 p1 p2 ‹Kq› ‹Sb› λh' a1 a2 a3 a4 a5 a7=>⟨_,rfl,?_⟩
  refine wpAny_letOwnedTupleGo_zip (s:={s with heap:=h'}) a1 λh2 c1 c2=>?_
  have RE:s.heap.objs.size≠z:=λe=>by have:=TV s1;rw[<-e]at this;exact Wu _ this
  have N2:IsPair h2 TI (.ref i1) (.ref i2):=(c2.2 TI ap.TIz).trans (a7 TI _ ap.TIz ap.TITO ap.TIi1 ap.TIi2 s2);have NZ:h2.get? s.heap.objs.size=some {cls:=.type "tuple",data:=.seq #[u1,u2]}:=(c2.2 _ RE).trans a5;have kk:∀b o,b∉[z,TI,TO,i1,i2]->s.heap.get? b=some o->h2.get? b=some o:=λb o hb e=>by simp only[TY,TZ,W8,not_or]at hb;exact(c2.2 b hb.1).trans (a7 b o hb.1 hb.2.2.1 hb.2.2.2.1 hb.2.2.2.2 e)
  have lt:∀{b:Addr}{o:Obj},s.heap.get? b=some o->b≠s.heap.objs.size:=λe=>Um (TV e)
  have KR:∀b u,H b=some u->b∉[z,TI,TO,i1,i2]:=λb u e hb=>by rw[(hf b hb).1]at e;cases e
  have IT:H s.heap.objs.size=none:=I.fresh;have I2:Inv X pins σ (upd H s.heap.objs.size (.tup [x,y])) {s with heap:=h2,toks:=s.toks}:=by
   refine I.step (g':=s.gens) (d':=s.drawn) (ch:=[z,TI,TO,i1,i2]) (λb hb=>⟨(hf b hb).2.2.2.1,(hf b hb).2.1,(hf b hb).2.2.2.2.1,(hf b hb).2.2.2.2.2⟩) (λb o _ _ hb e _=>kk b o hb e) (λb o _ _ hb e _=>⟨o.slots,kk b o hb e⟩)
    (λb o hb e n=>by rw[aJ (lt e)];exact n) (λb o hb e=>⟨o,kk b o hb e⟩) (λb zs e=>by rw[aJ (aZ e IT)];exact e) (λb o u e=>by rw[aJ (aZ e IT)];exact e)
    (λb ps e=>⟨#[],by rw[aJ (aZ e IT),e];simp⟩) (λm hm=>?_) (λb u e=>?_) I.bare
   ·obtain⟨o,iG,ep,ho,rr⟩:=hm;exact⟨o,iG,ep,kk _ o (λhb=>(hf _ hb).2.1 rfl) ho,rr⟩
   ·by_cases hb:b=s.heap.objs.size
    ·subst hb;rw[aN]at e;cases e;exact⟨by show 2<=sizeLine;decide,[u1,u2],.cons SA (.cons SB .nil),_,NZ,rfl,0,rfl,rfl,rfl⟩
    ·rw[aJ hb]at e;refine(I.hok b u e).uF (λc v hc q=>kk c v ?_ q) (λc q=>by rw[aJ (aZ q IT)];exact q) λc zs q=>by rw[aJ (aZ q IT)];exact q
     rcases hc with rfl|hc
     ·exact KR c u e
     ·exact KR c _ hc
  refine⟨.ref s.heap.objs.size,_,I2,rfl,⟨s.heap.objs.size,x,y,rfl,IT,rfl,λBV M4 q1 q2=>?_⟩,⟨c1,N2,⟨u1,u2,(c2.2 TO ap.TOz).trans a2⟩,a3.at λo e=>(c2.2 i1 ap.i1z).trans e,a4.at λo e=>(c2.2 i2 ap.i2z).trans e⟩,λb hb=>?_⟩
  ·rw[kD]at q1;rw[fZ]at q2;rw[vA (WI q1).symm,vA (WI q2).symm];exact⟨hx,hy⟩
  ·rw[aJ (λe=>?_)]
   ·exact(hf b hb).1
   ·have q:∃o,s.heap.get? b=some o:=by
     simp only[TY,TZ,W8]at hb;rcases hb with rfl|rfl|rfl|rfl|rfl
     ·exact⟨_,s1⟩
     ·exact⟨_,s2⟩
     ·exact⟨_,s3⟩
     ·obtain⟨o,e,_⟩:=s4.obj;exact⟨o,e⟩
     ·obtain⟨o,e,_⟩:=s5.obj;exact⟨o,e⟩
    obtain⟨o,q⟩:=q;exact lt q e
 done:=by
  intro X hP hw hK hc i pins s σ H E I hf st hg;subst hP hw hK;obtain⟨xs,ys,kD,fZ,Kg⟩:=hg;obtain⟨s1,s2,⟨a,b',s3⟩,s4,s5⟩:=st;obtain⟨jQ,r1,p1⟩:=ir I kD;obtain⟨cn,r2,p2⟩:=ir I fZ;have ne:∀{l:Addr}{o:HO},H l=some o->∀b∈[z,TI,TO,i1,i2],l≠b:=λ {l o} hl b hb e=>by subst e;rw[(hf l hb).1]at hl;cases hl
  have off:∀{l:Addr}{o:HO},H l=some o->jG z TO i1 i2 l:=λ {l o} hl=>⟨ne hl z ∅,ne hl TO ∅,ne hl i1 ∅,ne hl i2 ∅⟩
  have e1:=r1.length;have e2:=r2.length;refine Bx (I.ok.hd hc) ap (off kD) (off fZ) s1 s2 s3 s4 s5 p1 p2 (by simp;lia) λh' kk=>⟨rfl,?_⟩
  have KR:∀b u,H b=some u->b∉[z,TI,TO,i1,i2]:=λb u e hb=>by rw[(hf b hb).1]at e;cases e
  have KD:∀b o,b∉[z,TI,TO,i1,i2]->s.heap.get? b=some o->h'.get? b=some o:=λb o hb e=>by simp only[TY,TZ,W8,not_or]at hb;exact kk b o hb.1 hb.2.2.1 hb.2.2.2.1 hb.2.2.2.2 e
  refine I.step (g':=s.gens) (d':=s.drawn) (t':=s.toks) (h':=h') (ch:=[z,TI,TO,i1,i2]) (λb hb=>⟨(hf b hb).2.2.2.1,(hf b hb).2.1,(hf b hb).2.2.2.2.1,(hf b hb).2.2.2.2.2⟩) (λb o _ _ hb e _=>KD b o hb e) (λb o _ _ hb e _=>⟨o.slots,KD b o hb e⟩)
   (λb o hb e n=>n) (λb o hb e=>⟨o,KD b o hb e⟩) (λb zs e=>e) (λb o u e=>e) (λb ps e=>⟨#[],by rw[e];simp⟩) (λm hm=>?_) (λb u e=>?_) I.bare
  ·obtain⟨o,iG,ep,ho,rr⟩:=hm;exact⟨o,iG,ep,KD _ o (λhb=>(hf _ hb).2.1 rfl) ho,rr⟩
  ·refine(I.hok b u e).uF (λc v hc q=>KD c v ?_ q) (λc q=>q) λc zs q=>q
   rcases hc with rfl|hc
   ·exact KR c u e
   ·exact KR c _ hc
 self:=λ_ _ _ _ _ st h=>wpAny_pyIter_zip st.1 h
def Kw(ta:TA):TI:=λσ H R=>ta σ H λvs H1=>∃b1 b2 l1 l2 xs ys,vs=[.ref l1,.ref l2]/\H1 l1=some (sO b1 xs)/\H1 l2=some (sO b2 ys)/\R (Nc b1 b2 l1 l2) H1
theorem Dw{X:Cx}{es:List Expr}{k:Nat}{tp:Pos}{a b:Expr}{ta:TA}{p pos:Pos}(hg:Gl X "zip")(hm:X.mg "zip"=none)(ha:PA X [a,b] ta)(hs:starEach [a,b] X.env=[(false,eval a X.env),(false,eval b X.env)]:=by rfl)(xB:starEach [b] X.env=[(false,eval b X.env)]:=by rfl):
  PI X (.Tuple es k tp) (.Call (.Name "zip" p) [a,b] [] pos) (Kw ta):=by
 intro pins s σ H R I h;refine Call_ (jR I hg hm boot_zip (WJ (bV (ha pos pins s σ H _ I h) λus s1⟨vs,H1,I1,r1,q1⟩=>?_) (by rw[hs,xB]) (by rw[xB];rfl)));obtain⟨b1,b2,l1,l2,xs,ys,e,e1,e2,q⟩:=q1;subst e;obtain⟨u,v,rfl,ru,rv⟩:=r1.two;cases ru;cases rv;obtain⟨jQ,_,p1⟩:=ir I1 e1;obtain⟨cn,_,p2⟩:=ir I1 e2;refine w6 p1 p2 λh' g1 g2 g3 g4 g5 kk=>?_
 refine wpAny_pyIter_zip (s:={s1 with heap:=h'}) g1 ?_;have I2:Inv X pins σ H1 {s1 with heap:=h'}:=I1.kept (t':=s1.toks) kk;refine⟨s1.heap.objs.size+4,[s1.heap.objs.size+4,s1.heap.objs.size+2,s1.heap.objs.size+3,s1.heap.objs.size,s1.heap.objs.size+1],_,_,H1,rfl,I2,yh (l1:=l1) (l2:=l2) ⟨?_,?_,?_,?_,?_,?_,?_,?_,?_,?_⟩,⟨g1,g2,⟨_,_,g3⟩,g4,g5⟩,λb hb=>?_,q⟩
 iterate 10 (first|(apply Um;lia)|(apply WB;lia))
 have mW:s1.heap.objs.size<=b:=by simp only[TY,TZ,W8]at hb;rcases hb with h|h|h|h|h<;>(rw[h];first|exact Nat.le_add_right _ _|exact TM _)
 exact I1.zB mW (I1.hok.fresh mW)
end Mx
end
section
namespace MxTim
open PySem.W
def EB:Bool->Keyed->Array Keyed->Nat->Nat->Nat->StateT SortSt Sem (Option Nat):=sortPriv% PySem.Builtin.gallop
theorem F6(jS:Bool)(k:Keyed)(xs:Array Keyed)(b m h:Nat):EB jS k xs b m h=(do
 let past (i:Nat):StateT SortSt Sem (Option Bool):=do
  let y<-elem' xs (b+i)
  if jS then lt' y k else return (<-lt' k y).map (!·)
 let mut la:=0
 let mut st:=1
 let mut u:=0
 let mut v:=0
 let some c0<-past h|return none
 if c0 then
  let mx:=m-h
  for _ in [0:m] do
   if st>=mx then break
   let some c1<-past (h+st)|return none
   if !c1 then break
   la:=st
   st:=2*st+1
  u:=h+la+1
  v:=h+min st mx
 else
  let mx:=h+1
  for _ in [0:m] do
   if st>=mx then break
   let some c1<-past (h-st)|return none
   if c1 then break
   la:=st
   st:=2*st+1
  u:=h+1-min st mx
  v:=h-la
 for _ in [0:m] do
  if u>=v then break
  let mm:=u+(v-u)/2
  let some c2<-past mm|return none
  if c2 then u:=mm+1 else v:=mm
 return some v):=rfl
section
variable{prog:Program}{w:World}{A:Around}{E:Value->Shared->Prop}{κ:SortKind}{s:Shared}{O:KeyOrd}{ky:Keyed->O.α}{Mem:Keyed->Prop}
def Tells(prog:Program)(w:World)(A:Around)(κ:SortKind)(s:Shared)(O:KeyOrd)(ky:Keyed->O.α)(Mem:Keyed->Prop):Prop:=
 ∀x y,Mem x->Mem y->∀C:Bool->Shared->Prop,C (O.blt (ky x) (ky y)) s->wpAny (model prog w) A (keyLt' κ x.1 y.1) C (λ_ _=>False) s
theorem ra(T:Tells prog w A κ s O ky Mem){x y:Keyed}(hx:Mem x)(hy:Mem y){st:SortSt}(hk:kindOf st=κ){Q:Option Bool->SortSt->Shared->Prop}(h:Q (some (O.blt (ky x) (ky y))) st s):kasC (model prog w) A E (lt' x y) Q st s:=by rw[lt'_eq];refine TL (W2 ?_);rw[hk];refine TL (W3 (wpAny_attempt (Xg (T x y hx hy (λc s'=>Q (some c) st s') h) (λc s' hc=>?_) λ_ _ hF=>hF.elim)));exact TR hc
theorem aQ{xs:Array Keyed}{i:Nat}{x:Keyed}(hx:xs[i]?=some x){st:SortSt}{Q:Keyed->SortSt->Shared->Prop}(h:Q x st s):kasC (model prog w) A E (elem' xs i) Q st s:=by rw[elem'_eq,hx];exact TR h
theorem dZ{β:Type}{l:List Nat}{b0:β}{f:Nat->β->StateT SortSt Sem (ForInStep β)}{Q:β->SortSt->Shared->Prop}(Inv:Nat->β->SortSt->Prop){dS:SortSt}(h0:Inv 0 b0 dS)
  (step:∀j b st x,j<l.length->Inv j b st->kasC (model prog w) A E (f x b) (λr ak s'=>s'=s/\match r with|.done b'=>Q b' ak s|.yield b'=>Inv (j+1) b' ak) st s)
  (fin:∀b st,Inv l.length b st->Q b st s):kasC (model prog w) A E (forIn l b0 f) Q dS s:=by
 have go:∀(l':List Nat)(j:Nat)(b:β)(st:SortSt),j+l'.length=l.length->Inv j b st->kasC (model prog w) A E (forIn l' b f) Q st s:=by
  intro l'
  induction l' with
  |nil=>intro j b st hj hI;simp only[VL,Nat.add_zero]at hj;subst hj;exact kasC_nil (fin b st hI)
  |cons x l' ih=>
   intro j b st hj hI;simp only[T8]at hj;refine kasC_cons (Xg (step j b st x () hI) (λr s' h'=>?_) λ_ _ e=>e);obtain⟨r,ak⟩:=r;obtain⟨rfl,h'⟩:=h';cases r with
   |done b'=>exact h'
   |yield b'=>exact ih (j+1) b' ak () h'
 exact go l 0 b0 dS () h0
theorem cq{α:Type}{m:StateT SortSt Sem α}{Q Q':α->SortSt->Shared->Prop}{st:SortSt}(h:kasC (model prog w) A E m Q st s)(hq:∀a ak s',Q a ak s'->Q' a ak s'):kasC (model prog w) A E m Q' st s:=by unfold kasC at h ⊢;exact Xg h (λr s' h'=>hq _ _ _ h') λ_ _ e=>e
def fY(O:KeyOrd)(ky:Keyed->O.α)(jS:Bool)(k:Keyed)(g:Nat->Keyed)(i:Nat):Bool:=if jS=true then O.blt (ky (g i)) (ky k) else !O.blt (ky k) (ky (g i))
theorem yS{m:Nat}{past:Nat->StateT SortSt Sem (Option Bool)}{bb:Nat->Bool}{st:SortSt}(hp:∀(i:Nat){R:Option Bool->SortSt->Shared->Prop},i<m->R (some (bb i)) st s->kasC (model prog w) A E (past i) R st s)(mono:∀i j,i<=j->j<m->bb j=true->bb i=true)(oj:∀i j,i<=j->j<m->bb i=false->bb j=false){u v:Nat}(hv:v<=m)(Qt:u<=v)(m9:∀i,i<u->bb i=true)(yo:∀i,v<=i->i<m->bb i=false)
  {Q:Option Nat->SortSt->Shared->Prop} (q:∀v,v<=m->(∀i,i<v->bb i=true)->(∀i,v<=i->i<m->bb i=false)->Q (some v) st s):kasC (model prog w) A E (do
   let mut u:=u
   let mut v:=v
   for _ in [0:m] do
    if u>=v then break
    let mm:=u+(v-u)/2
    let some c2<-past mm|return none
    if c2 then u:=mm+1 else v:=mm
   return some v) Q st s:=by
 refine TL (W5 (dZ (λj r ak=>st=ak/\∃u v,r=(none,u,v)/\v<=m/\u<=v/\v-u+j<=m/\(∀i,i<u->bb i=true)/\(∀i,v<=i->i<m->bb i=false)) ⟨rfl,_,_,rfl,(),(),(),m9,yo⟩ (λj r ak x hj hI=>?_) (λr ak hI=>?_)))
 ·obtain⟨rfl,u,v,rfl,hv,Qt,Qj,h1,h2⟩:=hI;dsimp only;by_cases c:u>=v
  ·rw[W0 c];have e:u=v:=()
   subst e;exact TR ⟨rfl,TR (q u hv h1 h2)⟩
  ·rw[WZ c];have Tb:u+(v-u)/2<v:=()
   refine TL (hp _ () ?_);dsimp only;cases cb:bb (u+(v-u)/2) with
   |true=>rw[W0 rfl];exact TR ⟨rfl,rfl,_,_,rfl,hv,(),(),λi hi=>mono i _ () () cb,h2⟩
   |false=>rw[WZ ∅];exact TR ⟨rfl,rfl,_,_,rfl,(),(),(),h1,λi hi tU=>oj _ i hi tU cb⟩
 ·obtain⟨rfl,u,v,rfl,hv,Qt,Qj,h1,h2⟩:=hI;have e:u=v:=by
   rw[VN]at Qj
   lia
  subst e;exact TR (q u hv h1 h2)
theorem jP(T:Tells prog w A κ s O ky Mem){jS:Bool}{k:Keyed}{xs:Array Keyed}{b m h:Nat}(g:Nat->Keyed)(hg:∀i,i<m->xs[b+i]?=some (g i))(hm:∀i,i<m->Mem (g i))(hk:Mem k)(hh:h<m)
  (mono:∀i j,i<=j->j<m->fY O ky jS k g j=true->fY O ky jS k g i=true) {st:SortSt} (hs:kindOf st=κ) {Q:Option Nat->SortSt->Shared->Prop}
  (q:∀v,v<=m->(∀i,i<v->fY O ky jS k g i=true)->(∀i,v<=i->i<m->fY O ky jS k g i=false)->Q (some v) st s):kasC (model prog w) A E (EB jS k xs b m h) Q st s:=by
 have past:∀(i:Nat){R:Option Bool->SortSt->Shared->Prop},i<m->R (some (fY O ky jS k g i)) st s->kasC (model prog w) A E (do
   let y<-elem' xs (b+i)
   if jS=true then lt' y k else do
    let r<-lt' k y
    pure (r.map (!·))) R st s:=λi R hi hR=>by
  refine TL (aQ (hg i hi) ?_);unfold fY at hR;cases jS with
  |true=>rw[W0 rfl]at hR ⊢;exact ra T (hm i hi) hk hs hR
  |false=>rw[WZ ∅]at hR ⊢;exact TL (ra T hk (hm i hi) hs (TR hR))
 have oj:∀i j,i<=j->j<m->fY O ky jS k g i=false->fY O ky jS k g j=false:=λi j gp hj hi=>by
  cases c:fY O ky jS k g j with
  |false=>rfl
  |true=>rw[mono i j gp hj c]at hi;cases hi
 rw[F6];dsimp only;refine TL (past h hh ?_);dsimp only;cases c0:fY O ky jS k g h with
 |true=>
  rw[W0 rfl];refine TL (cq (Q:=λr ak s'=>st=ak/\s=s'/\∃la sp,r=(none,la,sp)/\h+la<m/\la<sp/\fY O ky jS k g (h+la)=true/\∀i,h+min sp (m-h)<=i->i<m->fY O ky jS k g i=false) (W5 (dZ (λj r ak=>st=ak/\∃la sp,r=(none,la,sp)/\h+la<m/\la<sp/\j+1<=sp/\fY O ky jS k g (h+la)=true) ⟨rfl,0,1,rfl,(),(),(),c0⟩ (λj r ak x hj hI=>?_) (λr ak hI=>?_))) (λr ak s' hI=>?_))
  ·obtain⟨rfl,la,sp,rfl,vz,qt,Ki,hb⟩:=hI;dsimp only;by_cases c:sp>=m-h
   ·rw[W0 c];exact TR ⟨rfl,rfl,rfl,la,sp,rfl,vz,qt,hb,λi hi tU=>()⟩
   ·rw[WZ c];refine TL (past _ () ?_);dsimp only;cases cb:fY O ky jS k g (h+sp) with
    |true=>rw[WZ ∅];exact TR ⟨rfl,rfl,_,_,rfl,(),(),(),cb⟩
    |false=>rw[W0 ∅];exact TR ⟨rfl,rfl,rfl,la,sp,rfl,vz,qt,hb,λi hi tU=>oj (h+sp) i () tU cb⟩
  ·obtain⟨rfl,la,sp,rfl,vz,qt,Ki,hb⟩:=hI;rw[VN]at Ki;exact⟨rfl,rfl,la,sp,rfl,vz,qt,hb,λi hi tU=>()⟩
  obtain⟨rfl,rfl,la,sp,rfl,vz,qt,hb,yo⟩:=hI;have m9:∀i,i<h+la+1->fY O ky jS k g i=true:=λi hi=>mono i _ () vz hb
  dsimp only;exact yS past mono oj () () m9 yo q
 |false=>
  rw[WZ ∅];refine TL (cq (Q:=λr ak s'=>st=ak/\s=s'/\∃la sp,r=(none,la,sp)/\la<=h/\la<sp/\fY O ky jS k g (h-la)=false/\∀i,i<h+1-min sp (h+1)->fY O ky jS k g i=true) (W5 (dZ (λj r ak=>st=ak/\∃la sp,r=(none,la,sp)/\la<=h/\la<sp/\j+1<=sp/\fY O ky jS k g (h-la)=false) ⟨rfl,0,1,rfl,(),(),(),c0⟩ (λj r ak x hj hI=>?_) (λr ak hI=>?_))) (λr ak s' hI=>?_))
  ·obtain⟨rfl,la,sp,rfl,vz,qt,Ki,hb⟩:=hI;dsimp only;by_cases c:sp>=h+1
   ·rw[W0 c];exact TR ⟨rfl,rfl,rfl,la,sp,rfl,vz,qt,hb,λi hi=>()⟩
   ·rw[WZ c];refine TL (past _ () ?_);dsimp only;cases cb:fY O ky jS k g (h-sp) with
    |true=>rw[W0 rfl];exact TR ⟨rfl,rfl,rfl,la,sp,rfl,vz,qt,hb,λi hi=>mono i (h-sp) () () cb⟩
    |false=>rw[WZ ∅];exact TR ⟨rfl,rfl,_,_,rfl,(),(),(),cb⟩
  ·obtain⟨rfl,la,sp,rfl,vz,qt,Ki,hb⟩:=hI;rw[VN]at Ki;exact⟨rfl,rfl,la,sp,rfl,vz,qt,hb,λi hi=>()⟩
  obtain⟨rfl,rfl,la,sp,rfl,vz,qt,hb,m9⟩:=hI;have yo:∀i,h-la<=i->i<m->fY O ky jS k g i=false:=λi hi tU=>oj (h-la) i () tU hb
  dsimp only;exact yS past mono oj () () m9 yo q
end
section
variable{O:KeyOrd}{ky:Keyed->O.α}
def le(O:KeyOrd)(ky:Keyed->O.α)(x y:Keyed):Prop:=O.kle (ky x) (ky y)
def i8(O:KeyOrd)(ky:Keyed->O.α)(l:List Keyed):Prop:=l.Pairwise (le O ky)
structure MI(O:KeyOrd)(ky:Keyed->O.α)(la lb out:List Keyed)(i j:Nat):Prop where
 p:out.Perm (la.take i++lb.take j)
 s:i8 O ky out
 a:∀x∈out,∀y∈la.drop i,le O ky x y
 b:∀x∈out,∀y∈lb.drop j,le O ky x y
theorem dh{l:List Keyed}{i k:Nat}:l.drop i=(l.drop i).take k++l.drop (i+k):=by rw[<-List.drop_drop,Wg]
theorem iY{l:List Keyed}{i k:Nat}:l.take (i+k)=l.take i++(l.drop i).take k:=by rw[List.take_add]
theorem MI.qB{la lb out:List Keyed}{i j k:Nat}(h:MI O ky la lb out i j)(sa:i8 O ky la)(hk:∀x∈(la.drop i).take k,∀y∈lb.drop j,le O ky x y):MI O ky la lb (out++(la.drop i).take k) (i+k) j:=by
 have sd:i8 O ky (la.drop i):=sa.sublist (Vr _ _);rw[dh (k:=k)]at sd;obtain⟨s1,s2,s3⟩:=V7.mp sd;have GN:∀y∈(la.drop i).take k,y∈la.drop i:=λy hy=>V3 hy
 have xJ:∀y∈la.drop (i+k),y∈la.drop i:=λy hy=>by rw[dh (k:=k)];exact Uo _ hy
 refine⟨?_,V7.mpr ⟨h.s,s1,λx hx y hy=>h.a x hx y (GN y hy)⟩,λx hx y hy=>?_,λx hx y hy=>?_⟩
 ·rw[iY];refine(h.p.append_right _).trans ?_;rw[T4,T4];exact Vh _ Wb
 ·rcases Uc.mp hx with hx|hx
  ·exact h.a x hx y (xJ y hy)
  ·exact s3 x hx y hy
 ·rcases Uc.mp hx with hx|hx
  ·exact h.b x hx y hy
  ·exact hk x hx y hy
theorem MI.qC{la lb out:List Keyed}{i j k:Nat}(h:MI O ky la lb out i j)(sb:i8 O ky lb)(hk:∀x∈(lb.drop j).take k,∀y∈la.drop i,le O ky x y):MI O ky la lb (out++(lb.drop j).take k) i (j+k):=by
 have sd:i8 O ky (lb.drop j):=sb.sublist (Vr _ _);rw[dh (k:=k)]at sd;obtain⟨s1,s2,s3⟩:=V7.mp sd;have GN:∀y∈(lb.drop j).take k,y∈lb.drop j:=λy hy=>V3 hy
 have xJ:∀y∈lb.drop (j+k),y∈lb.drop j:=λy hy=>by rw[dh (k:=k)];exact Uo _ hy
 refine⟨?_,V7.mpr ⟨h.s,s1,λx hx y hy=>h.b x hx y (GN y hy)⟩,λx hx y hy=>?_,λx hx y hy=>?_⟩
 ·rw[iY];refine(h.p.append_right _).trans ?_;rw[T4]
 ·rcases Uc.mp hx with hx|hx
  ·exact h.a x hx y hy
  ·exact hk x hx y hy
 ·rcases Uc.mp hx with hx|hx
  ·exact h.b x hx y (xJ y hy)
  ·exact s3 x hx y hy
def sS(O:KeyOrd)(ky:Keyed->O.α)(la lb out:List Keyed):Prop:=out.Perm (la++lb)/\i8 O ky out
theorem MI.vg{la lb out:List Keyed}{i j:Nat}(h:MI O ky la lb out i j)(sa:i8 O ky la)(hj:lb.length<=j):sS O ky la lb (out++la.drop i++lb.drop j):=by have e:lb.drop j=[]:=Vq hj;have e2:lb.take j=lb:=Wi hj;rw[e,Ux];refine⟨?_,V7.mpr ⟨h.s,sa.sublist (Vr _ _),h.a⟩⟩;refine(h.p.append_right _).trans ?_;rw[e2,T4];refine(Vh _ Wb).trans ?_;rw[<-T4,Wg]
theorem MI.JE{la lb out:List Keyed}{i j:Nat}(h:MI O ky la lb out i j)(sb:i8 O ky lb)(hi:la.length<=i):sS O ky la lb (out++la.drop i++lb.drop j):=by have e:la.drop i=[]:=Vq hi;have e2:la.take i=la:=Wi hi;rw[e,Ux];refine⟨?_,V7.mpr ⟨h.s,sb.sublist (Vr _ _),h.b⟩⟩;refine(h.p.append_right _).trans ?_;rw[e2,T4,Wg]
theorem MI.vN{la lb out:List Keyed}{i j:Nat}(h:MI O ky la lb out i j)(sa:i8 O ky la)(sb:i8 O ky lb)(hl:∀x∈lb.drop j,∀y∈la.drop i,le O ky x y):sS O ky la lb (out++lb.drop j++la.drop i):=by
 refine⟨?_,V7.mpr ⟨V7.mpr ⟨h.s,sb.sublist (Vr _ _),h.b⟩,sa.sublist (Vr _ _),λx hx y hy=>?_⟩⟩
 ·refine((h.p.append_right _).append_right _).trans ?_;rw[T4 (la.take i),Wg];refine(Wb).trans ?_;rw[<-T4];refine(List.Perm.append_right _ Wb).trans ?_;rw[Wg]
 ·rcases Uc.mp hx with hx|hx
  ·exact h.a x hx y hy
  ·exact hl x hx y hy
theorem MI.start{la lb:List Keyed}:MI O ky la lb [] 0 0:=⟨∅,List.Pairwise.nil,λx hx=>absurd hx ∅,λx hx=>absurd hx ∅⟩
end
def GQ:Array Keyed->Array Keyed->StateT SortSt Sem (Array Keyed):=sortPriv% PySem.Builtin.mergeLo
def setG:Nat->StateT SortSt Sem Unit:=sortPriv% PySem.Builtin.setMinGallop
abbrev GS:=Option (Array Keyed)×Array Keyed×Nat×Nat×Nat×Nat×Nat
abbrev SS:=Option (Array Keyed)×Array Keyed×Nat×Nat×Nat×Nat
abbrev OS:=Option (Array Keyed)×Array Keyed×Nat×Nat×Nat
def BP(x y o:Array Keyed)(i j:Nat):Array Keyed:=o++x.extract i x.size++y.extract j y.size
def xY(x y o:Array Keyed)(i j:Nat):Array Keyed:=o++y.extract j y.size++x.extract i x.size
def MA(x y o:Array Keyed)(i j mg ca cb:Nat):StateT SortSt Sem (ForInStep GS):=do
 let e<-elem' x i
 if (i+1+1==x.size)=true then pure (.done (some (xY x y (o.push e) (i+1) j),o.push e,i+1,j,mg,ca,cb))
 else if (decide (ca<7)&&decide (cb<7))=true then pure (.done (none,o.push e,i+1,j,mg,ca,cb))
 else pure (.yield (none,o.push e,i+1,j,mg,ca,cb))
def My(x y o:Array Keyed)(i j mg ca sM:Nat):StateT SortSt Sem (ForInStep GS):=do
 let e<-elem' y j
 if (j+1==y.size)=true then pure (.done (some (BP x y (o.push e) i (j+1)),o.push e,i,j+1,mg,ca,sM))
 else do
  let f<-elem' x i
  let r<-EB true f y (j+1) (y.size-(j+1)) 0
  match r with
  |some k=>
   if k>0 then
    if (j+1+k==y.size)=true then pure (.done (some (BP x y (o.push e++y.extract (j+1) (j+1+k)) i (j+1+k)),o.push e++y.extract (j+1) (j+1+k),i,j+1+k,mg,ca,k))
    else MA x y (o.push e++y.extract (j+1) (j+1+k)) i (j+1+k) mg ca k
   else MA x y (o.push e) i (j+1) mg ca k
  |_=>pure (.done (some (BP x y (o.push e) i (j+1)),o.push e,i,j+1,mg,ca,sM))
def Mw(x y o:Array Keyed)(i j mg NB sM:Nat):StateT SortSt Sem (ForInStep GS):=do
 setG mg
 let e<-elem' y j
 let r<-EB false e x i (x.size-i) 0
 match r with
 |some k=>
  if k>0 then
   if (i+k+1==x.size)=true then pure (.done (some (xY x y (o++x.extract i (i+k)) (i+k) j),o++x.extract i (i+k),i+k,j,mg,k,sM))
   else if (i+k==x.size)=true then pure (.done (some (BP x y (o++x.extract i (i+k)) (i+k) j),o++x.extract i (i+k),i+k,j,mg,k,sM))
   else My x y (o++x.extract i (i+k)) (i+k) j mg k sM
  else My x y o i j mg k sM
 |_=>pure (.done (some (BP x y o i j),o,i,j,mg,NB,sM))
def Pj(x y:Array Keyed)(mg:Nat)(r:SS):StateT SortSt Sem (ForInStep SS):=do
 let e<-elem' y r.2.2.2.1
 let f<-elem' x r.2.2.1
 let c<-lt' e f
 match c with
 |some yw=>
  if yw=true then do
   let e<-elem' y r.2.2.2.1
   if (r.2.2.2.1+1==y.size)=true then pure (.done (some (BP x y (r.2.1.push e) r.2.2.1 (r.2.2.2.1+1)),r.2.1.push e,r.2.2.1,r.2.2.2.1+1,0,r.2.2.2.2.2+1))
   else if r.2.2.2.2.2+1>=mg then pure (.done (none,r.2.1.push e,r.2.2.1,r.2.2.2.1+1,0,r.2.2.2.2.2+1))
   else pure (.yield (none,r.2.1.push e,r.2.2.1,r.2.2.2.1+1,0,r.2.2.2.2.2+1))
  else do
   let f<-elem' x r.2.2.1
   if (r.2.2.1+1+1==x.size)=true then pure (.done (some (xY x y (r.2.1.push f) (r.2.2.1+1) r.2.2.2.1),r.2.1.push f,r.2.2.1+1,r.2.2.2.1,r.2.2.2.2.1+1,0))
   else if r.2.2.2.2.1+1>=mg then pure (.done (none,r.2.1.push f,r.2.2.1+1,r.2.2.2.1,r.2.2.2.2.1+1,0))
   else pure (.yield (none,r.2.1.push f,r.2.2.1+1,r.2.2.2.1,r.2.2.2.2.1+1,0))
 |_=>pure (.done (some (BP x y r.2.1 r.2.2.1 r.2.2.2.1),r.2.1,r.2.2.1,r.2.2.2.1,r.2.2.2.2.1,r.2.2.2.2.2))
def He(x y:Array Keyed)(r:OS):StateT SortSt Sem (ForInStep OS):=do
 let a<-forIn [:x.size+y.size] ((none,r.2.1,r.2.2.1,r.2.2.2.1,0,0):SS) λ_ a=>Pj x y r.2.2.2.2 a
 match a.1 with
 |some v=>pure (.done (some v,a.2.1,a.2.2.1,a.2.2.2.1,r.2.2.2.2))
 |none=>do
  rule "list.sort.gallop"
  let b<-forIn [:x.size+y.size] ((none,a.2.1,a.2.2.1,a.2.2.2.1,r.2.2.2.2+1,a.2.2.2.2.1,a.2.2.2.2.2):GS) λ_ b=>
   if b.2.2.2.2.1>1 then Mw x y b.2.1 b.2.2.1 b.2.2.2.1 (b.2.2.2.2.1-1) b.2.2.2.2.2.1 b.2.2.2.2.2.2 else Mw x y b.2.1 b.2.2.1 b.2.2.2.1 b.2.2.2.2.1 b.2.2.2.2.2.1 b.2.2.2.2.2.2
  match b.1 with
  |some v=>pure (.done (some v,b.2.1,b.2.2.1,b.2.2.2.1,b.2.2.2.2.1))
  |none=>do
   setG (b.2.2.2.2.1+1)
   pure (.yield (none,b.2.1,b.2.2.1,b.2.2.2.1,b.2.2.2.2.1+1))
def Qy(x y:Array Keyed):StateT SortSt Sem (Array Keyed):=do
 rule "list.sort.merge-lo"
 let e<-elem' y 0
 if (1==y.size)=true then pure (BP x y #[e] 0 1)
 else if (0+1==x.size)=true then pure (xY x y #[e] 0 1)
 else do
  let st<-get
  let r<-forIn [:x.size+y.size] ((none,#[e],0,1,gallopOf st):OS) λ_ r=>He x y r
  match r.1 with
  |some a=>pure a
  |none=>unsupported "internal:list.sort.merge-bound"
theorem C4(x y:Array Keyed):GQ x y=Qy x y:=by kernel_rfl
theorem kM(x:Array Keyed)(i:Nat):(x.extract i x.size).toList=x.toList.drop i:=by rw[UI];show (x.toList.drop i).take (x.size-i)=_;exact Wi (by rw[VJ];simp)
theorem lM(x:Array Keyed)(i k:Nat):(x.extract i (i+k)).toList=(x.toList.drop i).take k:=by rw[UI];show (x.toList.drop i).take (i+k-i)=_;rw[Nat.add_sub_cancel_left]
theorem gW(x y o:Array Keyed)(i j:Nat):(BP x y o i j).toList=o.toList++x.toList.drop i++y.toList.drop j:=by unfold BP;rw[UH,UH,kM,kM]
theorem ij(x y o:Array Keyed)(i j:Nat):(xY x y o i j).toList=o.toList++y.toList.drop j++x.toList.drop i:=by unfold xY;rw[UH,UH,kM,kM]
theorem aF{x:Array Keyed}{i:Nat}(h:i<x.size):x[i]?=some (kas_item x i):=by unfold kas_item;simp[Array.getD,h]
theorem take_one{x:Array Keyed}{i:Nat}(h:i<x.size):(x.toList.drop i).take 1=[kas_item x i]:=by have e:x.toList.drop i=x.toList[i]'‹h›::x.toList.drop (i+1):=Vp ‹h›;rw[e];unfold kas_item;simp[Array.getD,h]
theorem hZ{x o:Array Keyed}{i:Nat}(h:i<x.size):(o.push (kas_item x i)).toList=o.toList++(x.toList.drop i).take 1:=by rw[take_one h];simp
section
variable{O:KeyOrd}{ky:Keyed->O.α}{Mem:Keyed->Prop}
theorem c8{x:Array Keyed}(sx:i8 O ky x.toList){i j:Nat}(gp:i<=j)(hj:j<x.size):le O ky (kas_item x i) (kas_item x j):=by
 have e:∀k,(h:k<x.size)->kas_item x k=x.toList[k]'‹h›:=λk h=>by unfold kas_item;simp[Array.getD,h]
 rw[e i (),e j hj];by_cases c:i=j
 ·subst c;exact Ve _
 ·exact V9.mp sx i j (by simpa using (show i<x.size by lia)) ‹hj› ()
theorem c7{x:Array Keyed}{i:Nat}{e:Keyed}(h:e∈x.toList.drop i):∃k,i<=k/\k<x.size/\e=kas_item x k:=by
 obtain⟨k,hk,rfl⟩:=VH h;rw[VJ]at hk;have BH:i+k<x.size:=by simp at hk;lia
 refine⟨i+k,(),BH,?_⟩;rw[List.getElem_drop];unfold kas_item;simp[Array.getD,BH]
theorem aX{x:Array Keyed}{i n:Nat}{e:Keyed}(h:e∈(x.toList.drop i).take n):∃k,i<=k/\k<i+n/\k<x.size/\e=kas_item x k:=by
 obtain⟨k,hk,rfl⟩:=VH h;rw[VR,VJ]at hk;have BH:i+k<x.size:=by simp at hk;lia
 refine⟨i+k,(),(),BH,?_⟩;rw[List.getElem_take,List.getElem_drop];unfold kas_item;simp[Array.getD,BH]
structure MP(O:KeyOrd)(ky:Keyed->O.α)(Mem:Keyed->Prop)(x y:Array Keyed):Prop where
 sa:i8 O ky x.toList
 sb:i8 O ky y.toList
 ma:∀i,i<x.size->Mem (kas_item x i)
 mb:∀i,i<y.size->Mem (kas_item y i)
 pa:1<=x.size
 pb:1<=y.size
 first:O.blt (ky (kas_item y 0)) (ky (kas_item x 0))=true
 last:∀j,j<y.size->O.blt (ky (kas_item y j)) (ky (kas_item x (x.size-1)))=true
theorem MP.lst{x y:Array Keyed}(h:MP O ky Mem x y){i j:Nat}(hi:i+1=x.size):∀e∈y.toList.drop j,∀f∈x.toList.drop i,le O ky e f:=λe he f hf=>by
 obtain⟨k,_,k2,rfl⟩:=c7 he;obtain⟨l,l1,l2,rfl⟩:=c7 hf;have:l=x.size-1:=()
 subst this;exact Vd (h.last k k2)
structure BZ(O:KeyOrd)(ky:Keyed->O.α)(x y o:Array Keyed)(i j:Nat):Prop where
 m:MI O ky x.toList y.toList o.toList i j
 i1:i+1<x.size
 j1:j<y.size
def GP(O:KeyOrd)(ky:Keyed->O.α)(x y:Array Keyed)(n:Nat)(v:Option (Array Keyed))(o:Array Keyed)(i j:Nat):Prop:=(∃a,v=some a/\sS O ky x.toList y.toList a.toList)\/(v=none/\BZ O ky x y o i j/\n<=i+j)
def SI(dS st:SortSt):Prop:=kindOf st=kindOf dS/\arrOf st=arrOf dS/\pendingOf st=pendingOf dS/\failedOf st=failedOf dS
theorem SI.refl(st:SortSt):SI st st:=⟨rfl,rfl,rfl,rfl⟩
theorem SI.trans{a b c:SortSt}(h:SI a b)(g:SI b c):SI a c:=⟨g.1.trans h.1,g.2.1.trans h.2.1,g.2.2.1.trans h.2.2.1,g.2.2.2.trans h.2.2.2⟩
variable{prog:Program}{w:World}{A:Around}{E:Value->Shared->Prop}{κ:SortKind}{s:Shared}
theorem kZ{g:Nat}{st:SortSt}{Q:Unit->SortSt->Shared->Prop}(h:∀ak,SI st ak->Q .unit ak s):kasC (model prog w) A E (setG g) Q st s:=by
 have e:setG g=modify λt=>SortSt.mk' (kindOf t) (arrOf t) (pendingOf t) g (failedOf t):=by kernel_rfl
 rw[e];exact W4 (h _ ⟨rfl,rfl,rfl,rfl⟩)
def yx(O:KeyOrd)(ky:Keyed->O.α)(x y:Array Keyed)(n:Nat):ForInStep GS->Prop
 |.done r=>GP O ky x y n r.1 r.2.1 r.2.2.1 r.2.2.2.1
 |.yield r=>r.1=none/\GP O ky x y n r.1 r.2.1 r.2.2.1 r.2.2.2.1
theorem zI{x y o:Array Keyed}(M:MP O ky Mem x y){i j mg ca cb n:Nat}(h:MI O ky x.toList y.toList o.toList i j)(hi:i+1<x.size)(hj:j<y.size)(hk:∀l,j<=l->l<y.size->le O ky (kas_item x i) (kas_item y l))(hn:n<=i+1+j){st:SortSt}{Q:ForInStep GS->SortSt->Shared->Prop}
  (q:∀r,yx O ky x y n r->Q r st s):kasC (model prog w) A E (MA x y o i j mg ca cb) Q st s:=by
 unfold MA;refine TL (aQ (aF ()) ?_);have m1:=h.qB (k:=1) M.sa (λe he f hf=>by
  obtain⟨a,a1,a2,a3,rfl⟩:=aX he;obtain⟨b,b1,b2,rfl⟩:=c7 hf;have:a=i:=()
  subst this;exact hk b b1 b2)
 rw[<-hZ (x:=x) ()]at m1;by_cases c:(i+1+1==x.size)=true
 ·rw[W0 c];have c':i+1+1=x.size:=by simpa using c
  refine TR (q _ (.inl ⟨_,rfl,?_⟩));rw[ij];exact m1.vN M.sa M.sb (M.lst c')
 ·rw[WZ c];have c':¬i+1+1=x.size:=by simpa using c
  have g:GP O ky x y n none (o.push (kas_item x i)) (i+1) j:=.inr ⟨rfl,⟨m1,(),hj⟩,()⟩;by_cases d:(decide (ca<7)&&decide (cb<7))=true
  ·rw[W0 d];exact TR (q _ g)
  ·rw[WZ d];exact TR (q _ ⟨rfl,g⟩)
theorem zH(T:Tells prog w A κ s O ky Mem){x y o:Array Keyed}(M:MP O ky Mem x y){i j mg ca cb n:Nat}(h:MI O ky x.toList y.toList o.toList i j)(hi:i+1<x.size)(hj:j<y.size)(hk:∀l,i<=l->l<x.size->le O ky (kas_item y j) (kas_item x l))(hn:n<=i+j+1){st:SortSt}(hs:kindOf st=κ)
  {Q:ForInStep GS->SortSt->Shared->Prop} (q:∀r,yx O ky x y n r->Q r st s):kasC (model prog w) A E (My x y o i j mg ca cb) Q st s:=by
 unfold My;refine TL (aQ (aF hj) ?_);have m1:=h.qC (k:=1) M.sb (λe he f hf=>by
  obtain⟨a,a1,a2,a3,rfl⟩:=aX he;obtain⟨b,b1,b2,rfl⟩:=c7 hf;have:a=j:=()
  subst this;exact hk b b1 b2)
 rw[<-hZ (x:=y) hj]at m1;by_cases c:(j+1==y.size)=true
 ·rw[W0 c];have c':j+1=y.size:=by simpa using c
  refine TR (q _ (.inl ⟨_,rfl,?_⟩));rw[gW];exact m1.vg M.sa (by simp;lia)
 ·rw[WZ c];have c':¬j+1=y.size:=by simpa using c
  refine TL (aQ (aF ()) (TL ?_));refine jP T (λt=>kas_item y (j+1+t)) (λt ht=>aF ()) (λt ht=>M.mb _ ()) (M.ma i ()) () (λa b gh hb qR=>?_) hs (λk hk1 cU mW=>?_)
  ·unfold fY at qR ⊢;rw[W0 rfl]at qR ⊢;have:=c8 M.sb (show j+1+a<=j+1+b by lia) ();exact Vf this qR
  ·have lo:∀t,t<k->O.blt (ky (kas_item y (j+1+t))) (ky (kas_item x i))=true:=λt ht=>by have:=cU t ht;unfold fY at this;rw[W0 rfl]at this;exact this
   have xx:∀l,j+1+k<=l->l<y.size->le O ky (kas_item x i) (kas_item y l):=λl kD fZ=>by have z:=mW (l-(j+1)) () ();unfold fY at z;rw[W0 rfl]at z;have z2:O.blt (ky (kas_item y (j+1+(l-(j+1))))) (ky (kas_item x i))=false:=z;rw[show j+1+(l-(j+1))=l by lia]at z2;exact z2
   dsimp only;by_cases k0:k>0
   ·rw[W0 k0];have m2:=m1.qC (k:=k) M.sb (λe he f hf=>by
     obtain⟨a,a1,a2,a3,rfl⟩:=aX he;obtain⟨b,b1,b2,rfl⟩:=c7 hf;have h1:=lo (a-(j+1)) ();rw[show j+1+(a-(j+1))=a by lia]at h1;exact Ui (Vd h1) (c8 M.sa b1 b2))
    rw[<-lM,<-UH]at m2;by_cases d:(j+1+k==y.size)=true
    ·rw[W0 d];have d':j+1+k=y.size:=by simpa using d
     refine TR (q _ (.inl ⟨_,rfl,?_⟩));rw[gW];exact m2.vg M.sa (by simp;lia)
    ·rw[WZ d];have d':¬j+1+k=y.size:=by simpa using d
     exact zI M m2 hi () xx () q
   ·rw[WZ k0];have:k=0:=()
    subst this;exact zI M m1 hi () xx () q
theorem zG(T:Tells prog w A κ s O ky Mem){x y o:Array Keyed}(M:MP O ky Mem x y){i j mg ca cb n:Nat}(h:BZ O ky x y o i j)(hn:n<=i+j){dS st:SortSt}(hs:kindOf st=κ)(nS:SI dS st)
  {Q:ForInStep GS->SortSt->Shared->Prop} (q:∀r ak,SI dS ak->yx O ky x y n r->Q r ak s):kasC (model prog w) A E (Mw x y o i j mg ca cb) Q st s:=by
 unfold Mw;have hi:=h.i1;have hj:=h.j1;refine TL (kZ λuE h1=>?_);have Gi:kindOf uE=κ:=h1.1.trans hs;have q':=λr=>q r uE (nS.trans h1)
 refine TL (aQ (aF hj) (TL ?_));refine jP T (λt=>kas_item x (i+t)) (λt ht=>aF ()) (λt ht=>M.ma _ ()) (M.mb j hj) () (λa b gh hb qR=>?_) Gi (λk hk1 cU mW=>?_)
 ·unfold fY at qR ⊢;rw[WZ ∅]at qR ⊢;have:=c8 M.sa (show i+a<=i+b by lia) ();cases z:O.blt (ky (kas_item y j)) (ky (kas_item x (i+a))) with
  |false=>rfl
  |true=>have z2:O.blt (ky (kas_item y j)) (ky (kas_item x (i+b)))=true:=Vg z this;have zQ:(!O.blt (ky (kas_item y j)) (ky (kas_item x (i+b))))=true:=qR;rw[z2]at zQ;cases zQ
 ·have lo:∀t,t<k->le O ky (kas_item x (i+t)) (kas_item y j):=λt ht=>by have z:=cU t ht;unfold fY at z;rw[WZ ∅]at z;have z2:(!O.blt (ky (kas_item y j)) (ky (kas_item x (i+t))))=true:=z;show O.blt (ky (kas_item y j)) (ky (kas_item x (i+t)))=false;simpa using z2
  have xx:∀l,i+k<=l->l<x.size->le O ky (kas_item y j) (kas_item x l):=λl kD fZ=>by
   have z:=mW (l-i) () ();unfold fY at z;rw[WZ ∅]at z;have z2:(!O.blt (ky (kas_item y j)) (ky (kas_item x (i+(l-i)))))=false:=z;rw[show i+(l-i)=l by lia]at z2;have z3:O.blt (ky (kas_item y j)) (ky (kas_item x l))=true:=by simpa using z2
   exact Vd z3
  dsimp only;by_cases k0:k>0
  ·rw[W0 k0];have m2:=h.m.qB (k:=k) M.sa (λe he f hf=>by
    obtain⟨a,a1,a2,a3,rfl⟩:=aX he;obtain⟨b,b1,b2,rfl⟩:=c7 hf;have h1:=lo (a-i) ();rw[show i+(a-i)=a by lia]at h1;exact Ui h1 (c8 M.sb b1 b2))
   rw[<-lM,<-UH]at m2;by_cases c:(i+k+1==x.size)=true
   ·rw[W0 c];have c':i+k+1=x.size:=by simpa using c
    refine TR (q' _ (.inl ⟨_,rfl,?_⟩));rw[ij];exact m2.vN M.sa M.sb (M.lst c')
   ·rw[WZ c];have c':¬i+k+1=x.size:=by simpa using c
    by_cases d:(i+k==x.size)=true
    ·rw[W0 d];have d':i+k=x.size:=by simpa using d
     refine TR (q' _ (.inl ⟨_,rfl,?_⟩));rw[gW];exact m2.JE M.sb (by simp;lia)
    ·rw[WZ d];have d':¬i+k=x.size:=by simpa using d
     exact zH T M m2 () hj xx () Gi q'
  ·rw[WZ k0];have:k=0:=()
   subst this;exact zH T M h.m hi hj xx () Gi q'
end
section
variable{O:KeyOrd}{ky:Keyed->O.α}{Mem:Keyed->Prop}
variable{prog:Program}{w:World}{A:Around}{E:Value->Shared->Prop}{κ:SortKind}{s:Shared}
def SStep(O:KeyOrd)(ky:Keyed->O.α)(x y:Array Keyed)(n:Nat):ForInStep SS->Prop
 |.done r=>GP O ky x y n r.1 r.2.1 r.2.2.1 r.2.2.2.1
 |.yield r=>r.1=none/\GP O ky x y n r.1 r.2.1 r.2.2.1 r.2.2.2.1
theorem GP.none{x y:Array Keyed}{n:Nat}{v:Option (Array Keyed)}{o:Array Keyed}{i j:Nat}(h:GP O ky x y n v o i j)(hv:v=none):BZ O ky x y o i j/\n<=i+j:=by
 rcases h with ⟨a,e,_⟩|⟨_,h⟩
 ·rw[hv]at e;cases e
 ·exact h
theorem Ic(T:Tells prog w A κ s O ky Mem){x y:Array Keyed}(M:MP O ky Mem x y){mg:Nat}{r:SS}(h:BZ O ky x y r.2.1 r.2.2.1 r.2.2.2.1){n:Nat}(hn:n<=r.2.2.1+r.2.2.2.1+1){st:SortSt}(hs:kindOf st=κ)
  {Q:ForInStep SS->SortSt->Shared->Prop} (q:∀r',SStep O ky x y n r'->Q r' st s):kasC (model prog w) A E (Pj x y mg r) Q st s:=by
 obtain⟨v,o,i,j,ca,cb⟩:=r;have hi:i+1<x.size:=h.i1;have hj:j<y.size:=h.j1;have hm:MI O ky x.toList y.toList o.toList i j:=h.m;dsimp only at hn;unfold Pj;dsimp only;refine TL (aQ (aF hj) (TL (aQ (aF ()) (TL (ra T (M.mb j hj) (M.ma i ()) hs ?_)))));dsimp only;cases c:O.blt (ky (kas_item y j)) (ky (kas_item x i)) with
 |true=>
  rw[W0 rfl];refine TL (aQ (aF hj) ?_);have m1:=hm.qC (k:=1) M.sb (λe he f hf=>by
   obtain⟨a,a1,a2,a3,rfl⟩:=aX he;obtain⟨b,b1,b2,rfl⟩:=c7 hf;have:a=j:=()
   subst this;exact Ui (Vd c) (c8 M.sa b1 b2))
  rw[<-hZ (x:=y) hj]at m1;by_cases d:(j+1==y.size)=true
  ·rw[W0 d];have d':j+1=y.size:=by simpa using d
   refine TR (q _ (.inl ⟨_,rfl,?_⟩));rw[gW];exact m1.vg M.sa (by simp;lia)
  ·rw[WZ d];have d':¬j+1=y.size:=by simpa using d
   have g:GP O ky x y n none (o.push (kas_item y j)) i (j+1):=.inr ⟨rfl,⟨m1,hi,()⟩,()⟩;by_cases e:cb+1>=mg
   ·rw[W0 e];exact TR (q _ g)
   ·rw[WZ e];exact TR (q _ ⟨rfl,g⟩)
 |false=>
  rw[WZ ∅];refine TL (aQ (aF ()) ?_);have m1:=hm.qB (k:=1) M.sa (λe he f hf=>by
   obtain⟨a,a1,a2,a3,rfl⟩:=aX he;obtain⟨b,b1,b2,rfl⟩:=c7 hf;have:a=i:=()
   subst this;exact Ui (show O.kle (ky (kas_item x a)) (ky (kas_item y j)) from c) (c8 M.sb b1 b2))
  rw[<-hZ (x:=x) ()]at m1;by_cases d:(i+1+1==x.size)=true
  ·rw[W0 d];have d':i+1+1=x.size:=by simpa using d
   refine TR (q _ (.inl ⟨_,rfl,?_⟩));rw[ij];exact m1.vN M.sa M.sb (M.lst d')
  ·rw[WZ d];have d':¬i+1+1=x.size:=by simpa using d
   have g:GP O ky x y n none (o.push (kas_item x i)) (i+1) j:=.inr ⟨rfl,⟨m1,(),hj⟩,()⟩;by_cases e:ca+1>=mg
   ·rw[W0 e];exact TR (q _ g)
   ·rw[WZ e];exact TR (q _ ⟨rfl,g⟩)
def Jh(O:KeyOrd)(ky:Keyed->O.α)(x y:Array Keyed)(n:Nat):ForInStep OS->Prop
 |.done r=>∃a,r.1=some a/\sS O ky x.toList y.toList a.toList
 |.yield r=>r.1=none/\BZ O ky x y r.2.1 r.2.2.1 r.2.2.2.1/\n<=r.2.2.1+r.2.2.2.1
theorem Di(T:Tells prog w A κ s O ky Mem){x y:Array Keyed}(M:MP O ky Mem x y){r:OS}(h:BZ O ky x y r.2.1 r.2.2.1 r.2.2.2.1){n:Nat}(hn:n<=r.2.2.1+r.2.2.2.1){dS st:SortSt}(hs:kindOf st=κ)(nS:SI dS st)
  {Q:ForInStep OS->SortSt->Shared->Prop} (q:∀r' ak,SI dS ak->Jh O ky x y (n+1) r'->Q r' ak s):kasC (model prog w) A E (He x y r) Q st s:=by
 unfold He;have hp:=M.pa;refine TL (cq (Q:=λa ak s'=>st=ak/\s=s'/\GP O ky x y (n+1) a.1 a.2.1 a.2.2.1 a.2.2.2.1) (W5 (dZ (λjj a ak=>st=ak/\a.1=none/\BZ O ky x y a.2.1 a.2.2.1 a.2.2.2.1/\n+jj<=a.2.2.1+a.2.2.2.1) ⟨rfl,rfl,h,by simpa using hn⟩ (λjj a ak z hj hI=>?_) (λa ak hI=>?_))) (λa ak s' hI=>?_))
 ·obtain⟨rfl,a0,Fp,an⟩:=hI;refine Ic T M Fp (n:=n+jj+1) () hs (λr' i4=>⟨rfl,?_⟩);cases r' with
  |done b=>
   refine⟨rfl,rfl,?_⟩;rcases i4 with ⟨v,e,m⟩|⟨e,ok,l⟩
   ·exact .inl ⟨v,e,m⟩
   ·exact .inr ⟨e,ok,()⟩
  |yield b=>obtain⟨b0,gb⟩:=i4;obtain⟨ok,l⟩:=gb.none b0;exact⟨rfl,b0,ok,()⟩
 ·obtain⟨rfl,a0,Fp,an⟩:=hI;rw[VN]at an;exact⟨rfl,rfl,.inr ⟨a0,Fp,()⟩⟩
 obtain⟨rfl,rfl,ga⟩:=hI;rcases ga with ⟨v,e,m⟩|⟨e,ok,l⟩
 ·rw[e];exact TR (q _ _ nS ⟨v,rfl,m⟩)
 ·rw[e];refine TL (W3 (Xm ?_));refine TL (cq (Q:=λb ak s'=>SI dS ak/\s=s'/\GP O ky x y (n+1) b.1 b.2.1 b.2.2.1 b.2.2.2.1) (W5 (dZ (λjj b ak=>SI dS ak/\kindOf ak=κ/\b.1=none/\BZ O ky x y b.2.1 b.2.2.1 b.2.2.2.1/\n+1<=b.2.2.1+b.2.2.2.1) ⟨nS,hs,rfl,ok,l⟩ (λjj b ak z hj hI=>?_) (λb ak hI=>?_))) (λb ak s' hI=>?_))
  ·obtain⟨si,ks,b0,Ce,bn⟩:=hI;have kk:∀eN,SI dS eN->kindOf eN=κ:=λeN h2=>(h2.1.trans si.1.symm).trans ks
   by_cases c:b.2.2.2.2.1>1
   ·rw[W0 c];refine zG T M Ce bn ks si (λr' eN h2 i4=>⟨rfl,?_⟩);cases r' with
    |done b'=>exact⟨h2,rfl,i4⟩
    |yield b'=>obtain⟨c0,gc⟩:=i4;obtain⟨G4,l'⟩:=gc.none c0;exact⟨h2,kk eN h2,c0,G4,l'⟩
   ·rw[WZ c];refine zG T M Ce bn ks si (λr' eN h2 i4=>⟨rfl,?_⟩);cases r' with
    |done b'=>exact⟨h2,rfl,i4⟩
    |yield b'=>obtain⟨c0,gc⟩:=i4;obtain⟨G4,l'⟩:=gc.none c0;exact⟨h2,kk eN h2,c0,G4,l'⟩
  ·obtain⟨si,ks,b0,Ce,bn⟩:=hI;exact⟨si,rfl,.inr ⟨b0,Ce,bn⟩⟩
  obtain⟨si,rfl,gb⟩:=hI;rcases gb with ⟨v,e2,m⟩|⟨e2,OM,l2⟩
  ·rw[e2];exact TR (q _ _ si ⟨v,rfl,m⟩)
  ·rw[e2];exact TL (kZ λeN h2=>TR (q _ _ (si.trans h2) ⟨rfl,OM,l2⟩))
theorem C5(T:Tells prog w A κ s O ky Mem){x y:Array Keyed}(M:MP O ky Mem x y){st:SortSt}(hs:kindOf st=κ){Q:Array Keyed->SortSt->Shared->Prop}(q:∀v ak,SI st ak->sS O ky x.toList y.toList v.toList->Q v ak s):kasC (model prog w) A E (GQ x y) Q st s:=by
 rw[C4];unfold Qy;have hp:=M.pa;have hq:=M.pb;refine TL (W3 (Xm ?_));refine TL (aQ (aF ()) ?_);have m1:=(MI.start (O:=O) (ky:=ky) (la:=x.toList) (lb:=y.toList)).qC (k:=1) M.sb (λe he f hf=>by
  obtain⟨a,a1,a2,a3,rfl⟩:=aX he;obtain⟨b,b1,b2,rfl⟩:=c7 hf;have:a=0:=()
  subst this;exact Ui (Vd M.first) (c8 M.sa (WG b) b2))
 have e0:(#[kas_item y 0]:Array Keyed).toList=[]++(y.toList.drop 0).take 1:=by rw[take_one ()];rfl
 rw[<-e0,WE]at m1;by_cases c:(1==y.size)=true
 ·rw[W0 c];have c':1=y.size:=by simpa using c
  refine TR (q _ _ (SI.refl _) ?_);rw[gW];exact m1.vg M.sa (by simp;lia)
 ·rw[WZ c];have c':¬1=y.size:=by simpa using c
  by_cases d:(0+1==x.size)=true
  ·rw[W0 d];have d':0+1=x.size:=by simpa using d
   refine TR (q _ _ (SI.refl _) ?_);rw[ij];exact m1.vN M.sa M.sb (M.lst d')
  ·rw[WZ d];have d':¬0+1=x.size:=by simpa using d
   refine TL (W2 ?_);refine TL (cq (Q:=λr ak s'=>SI st ak/\s=s'/\∃a,r.1=some a/\sS O ky x.toList y.toList a.toList) (W5 (dZ (λjj r ak=>SI st ak/\r.1=none/\BZ O ky x y r.2.1 r.2.2.1 r.2.2.2.1/\jj+1<=r.2.2.1+r.2.2.2.1) ⟨SI.refl _,rfl,⟨m1,(show 0+1<x.size by lia),(show 1<y.size by lia)⟩,∅⟩ (λjj r ak z hj hI=>?_) (λr ak hI=>?_))) (λr ak s' hI=>?_))
   ·obtain⟨si,r0,DR,rn⟩:=hI;refine Di T M DR rn (si.1.trans hs) si (λr' eN h2 i4=>⟨rfl,?_⟩);cases r' with
    |done b=>exact⟨h2,rfl,i4⟩
    |yield b=>exact⟨h2,i4.1,i4.2.1,i4.2.2⟩
   ·obtain⟨si,r0,DR,rn⟩:=hI;rw[VN]at rn;have h1:=DR.i1;have h2:=DR.j1
    lia
   obtain⟨si,rfl,a,e,m⟩:=hI;rw[e];exact TR (q _ _ si m)
end
section
variable{O:KeyOrd}{ky:Keyed->O.α}
structure HI(O:KeyOrd)(ky:Keyed->O.α)(la lb R:List Keyed)(i j:Nat):Prop where
 p:R.Perm (la.drop i++lb.drop j)
 s:i8 O ky R
 a:∀x∈la.take i,∀y∈R,le O ky x y
 b:∀x∈lb.take j,∀y∈R,le O ky x y
theorem g9{l:List Keyed}{i k:Nat}(h:k<=i):l.take i=l.take k++(l.drop k).take (i-k):=by have:=iY (l:=l) (i:=k) (k:=i-k);rw[show k+(i-k)=i by lia]at this;exact this
theorem lC{l:List Keyed}{i k:Nat}(h:k<=i):l.drop k=(l.drop k).take (i-k)++l.drop i:=by have:=dh (l:=l) (i:=k) (k:=i-k);rw[show k+(i-k)=i by lia]at this;exact this
theorem HI.qB{la lb R:List Keyed}{i k j:Nat}(h:HI O ky la lb R i j)(hk:k<=i)(sa:i8 O ky la)(hb:∀e∈(la.drop k).take (i-k),∀y∈lb.take j,le O ky y e):HI O ky la lb ((la.drop k).take (i-k)++R) k j:=by
 have st:i8 O ky (la.take i):=sa.sublist (Wj _ _);rw[g9 hk]at st;obtain⟨s1,s2,s3⟩:=V7.mp st;have m1:∀y∈(la.drop k).take (i-k),y∈la.take i:=λy hy=>by rw[g9 hk];exact Uo _ hy
 have m2:∀y∈la.take k,y∈la.take i:=λy hy=>by rw[g9 hk];exact VX _ hy
 refine⟨?_,V7.mpr ⟨s2,h.s,λx hx y hy=>h.a x (m1 x hx) y hy⟩,λx hx y hy=>?_,λx hx y hy=>?_⟩
 ·refine(h.p.append_left _).trans ?_;rw[<-T4,<-lC (l:=la) hk]
 ·rcases Uc.mp hy with hy|hy
  ·exact s3 x hx y hy
  ·exact h.a x (m2 x hx) y hy
 ·rcases Uc.mp hy with hy|hy
  ·exact hb y hy x hx
  ·exact h.b x hx y hy
theorem HI.qC{la lb R:List Keyed}{i k j:Nat}(h:HI O ky la lb R i j)(hk:k<=j)(sb:i8 O ky lb)(hb:∀e∈(lb.drop k).take (j-k),∀y∈la.take i,le O ky y e):HI O ky la lb ((lb.drop k).take (j-k)++R) i k:=by
 have st:i8 O ky (lb.take j):=sb.sublist (Wj _ _);rw[g9 hk]at st;obtain⟨s1,s2,s3⟩:=V7.mp st;have m1:∀y∈(lb.drop k).take (j-k),y∈lb.take j:=λy hy=>by rw[g9 hk];exact Uo _ hy
 have m2:∀y∈lb.take k,y∈lb.take j:=λy hy=>by rw[g9 hk];exact VX _ hy
 refine⟨?_,V7.mpr ⟨s2,h.s,λx hx y hy=>h.b x (m1 x hx) y hy⟩,λx hx y hy=>?_,λx hx y hy=>?_⟩
 ·refine(h.p.append_left _).trans ?_;rw[<-T4];refine(List.Perm.append_right _ Wb).trans ?_;rw[T4,<-lC (l:=lb) hk]
 ·rcases Uc.mp hy with hy|hy
  ·exact hb y hy x hx
  ·exact h.a x hx y hy
 ·rcases Uc.mp hy with hy|hy
  ·exact s3 x hx y hy
  ·exact h.b x (m2 x hx) y hy
theorem HI.jN{la lb R:List Keyed}{i j:Nat}(h:HI O ky la lb R i j)(sa:i8 O ky la)(sb:i8 O ky lb)(hf:∀x∈lb.take j,∀y∈la.take i,le O ky x y):sS O ky la lb (lb.take j++la.take i++R):=by
 refine⟨?_,?_⟩
 ·refine(h.p.append_left _).trans ?_;rw[T4,<-T4 (la.take i),Wg];refine(Wb).trans ?_;rw[T4];refine Vh _ ((Wb).trans ?_);rw[Wg]
 ·refine V7.mpr ⟨V7.mpr ⟨sb.sublist (Wj _ _),sa.sublist (Wj _ _),hf⟩,h.s,λx hx y hy=>?_⟩;rcases Uc.mp hx with hx|hx
  ·exact h.b x hx y hy
  ·exact h.a x hx y hy
theorem HI.vf{la lb R:List Keyed}{j:Nat}(h:HI O ky la lb R 0 j)(sa:i8 O ky la)(sb:i8 O ky lb):sS O ky la lb (la.take 0++lb.take j++R):=by have:=h.jN sa sb (λx hx y hy=>absurd hy ∅);simpa using this
theorem HI.FN{la lb R:List Keyed}{i:Nat}(h:HI O ky la lb R i 0)(sa:i8 O ky la)(sb:i8 O ky lb):sS O ky la lb (la.take i++lb.take 0++R):=by have:=h.jN sa sb (λx hx y hy=>absurd hx ∅);simpa using this
theorem HI.start{la lb:List Keyed}:HI O ky la lb [] la.length lb.length:=⟨∅,List.Pairwise.nil,λx _ y hy=>absurd hy ∅,λx _ y hy=>absurd hy ∅⟩
end
def GO:Array Keyed->Array Keyed->StateT SortSt Sem (Array Keyed):=sortPriv% PySem.Builtin.mergeHi
abbrev GH:=Option (Array Keyed)×Nat×Nat×Array Keyed×Nat×Nat×Nat
abbrev SH:=Option (Array Keyed)×Nat×Nat×Array Keyed×Nat×Nat
abbrev OH:=Option (Array Keyed)×Nat×Nat×Array Keyed×Nat
def mZ(x y o:Array Keyed)(i j:Nat):Array Keyed:=x.extract 0 i++y.extract 0 j++o.reverse
def xo(x y o:Array Keyed)(i j:Nat):Array Keyed:=y.extract 0 j++x.extract 0 i++o.reverse
def MK(x y o:Array Keyed)(i j mg ca cb:Nat):StateT SortSt Sem (ForInStep GH):=do
 let e<-elem' x (i-1)
 if (i-1==0)=true then pure (.done (some (mZ x y (o.push e) (i-1) j),i-1,j,o.push e,mg,ca,cb))
 else if (decide (ca<7)&&decide (cb<7))=true then pure (.done (none,i-1,j,o.push e,mg,ca,cb))
 else pure (.yield (none,i-1,j,o.push e,mg,ca,cb))
def fZ(x y o:Array Keyed)(i j mg ca sM:Nat):StateT SortSt Sem (ForInStep GH):=do
 let e<-elem' y (j-1)
 if (j-1==1)=true then pure (.done (some (xo x y (o.push e) i (j-1)),i,j-1,o.push e,mg,ca,sM))
 else do
  let f<-elem' x (i-1)
  let r<-EB true f y 0 (j-1) (j-1-1)
  match r with
  |some k=>
   if j-1-k>0 then
    if (k==1)=true then pure (.done (some (xo x y (o.push e++(y.extract k (j-1)).reverse) i k),i,k,o.push e++(y.extract k (j-1)).reverse,mg,ca,j-1-k))
    else if (k==0)=true then pure (.done (some (mZ x y (o.push e++(y.extract k (j-1)).reverse) i k),i,k,o.push e++(y.extract k (j-1)).reverse,mg,ca,j-1-k))
    else MK x y (o.push e++(y.extract k (j-1)).reverse) i k mg ca (j-1-k)
   else MK x y (o.push e) i (j-1) mg ca (j-1-k)
  |_=>pure (.done (some (mZ x y (o.push e) i (j-1)),i,j-1,o.push e,mg,ca,sM))
def kD(x y o:Array Keyed)(i j mg NB sM:Nat):StateT SortSt Sem (ForInStep GH):=do
 setG mg
 let e<-elem' y (j-1)
 let r<-EB false e x 0 i (i-1)
 match r with
 |some k=>
  if i-k>0 then
   if (k==0)=true then pure (.done (some (mZ x y (o++(x.extract k i).reverse) k j),k,j,o++(x.extract k i).reverse,mg,i-k,sM))
   else fZ x y (o++(x.extract k i).reverse) k j mg (i-k) sM
  else fZ x y o i j mg (i-k) sM
 |_=>pure (.done (some (mZ x y o i j),i,j,o,mg,NB,sM))
def Ph(x y:Array Keyed)(mg:Nat)(r:SH):StateT SortSt Sem (ForInStep SH):=do
 let e<-elem' y (r.2.2.1-1)
 let f<-elem' x (r.2.1-1)
 let c<-lt' e f
 match c with
 |some xw=>
  if xw=true then do
   let f<-elem' x (r.2.1-1)
   if (r.2.1-1==0)=true then pure (.done (some (mZ x y (r.2.2.2.1.push f) (r.2.1-1) r.2.2.1),r.2.1-1,r.2.2.1,r.2.2.2.1.push f,r.2.2.2.2.1+1,0))
   else if r.2.2.2.2.1+1>=mg then pure (.done (none,r.2.1-1,r.2.2.1,r.2.2.2.1.push f,r.2.2.2.2.1+1,0))
   else pure (.yield (none,r.2.1-1,r.2.2.1,r.2.2.2.1.push f,r.2.2.2.2.1+1,0))
  else do
   let e<-elem' y (r.2.2.1-1)
   if (r.2.2.1-1==1)=true then pure (.done (some (xo x y (r.2.2.2.1.push e) r.2.1 (r.2.2.1-1)),r.2.1,r.2.2.1-1,r.2.2.2.1.push e,0,r.2.2.2.2.2+1))
   else if r.2.2.2.2.2+1>=mg then pure (.done (none,r.2.1,r.2.2.1-1,r.2.2.2.1.push e,0,r.2.2.2.2.2+1))
   else pure (.yield (none,r.2.1,r.2.2.1-1,r.2.2.2.1.push e,0,r.2.2.2.2.2+1))
 |_=>pure (.done (some (mZ x y r.2.2.2.1 r.2.1 r.2.2.1),r.2.1,r.2.2.1,r.2.2.2.1,r.2.2.2.2.1,r.2.2.2.2.2))
def Hf(x y:Array Keyed)(r:OH):StateT SortSt Sem (ForInStep OH):=do
 let a<-forIn [:x.size+y.size] ((none,r.2.1,r.2.2.1,r.2.2.2.1,0,0):SH) λ_ a=>Ph x y r.2.2.2.2 a
 match a.1 with
 |some v=>pure (.done (some v,a.2.1,a.2.2.1,a.2.2.2.1,r.2.2.2.2))
 |none=>do
  rule "list.sort.gallop"
  let b<-forIn [:x.size+y.size] ((none,a.2.1,a.2.2.1,a.2.2.2.1,r.2.2.2.2+1,a.2.2.2.2.1,a.2.2.2.2.2):GH) λ_ b=>
   if b.2.2.2.2.1>1 then kD x y b.2.2.2.1 b.2.1 b.2.2.1 (b.2.2.2.2.1-1) b.2.2.2.2.2.1 b.2.2.2.2.2.2 else kD x y b.2.2.2.1 b.2.1 b.2.2.1 b.2.2.2.2.1 b.2.2.2.2.2.1 b.2.2.2.2.2.2
  match b.1 with
  |some v=>pure (.done (some v,b.2.1,b.2.2.1,b.2.2.2.1,b.2.2.2.2.1))
  |none=>do
   setG (b.2.2.2.2.1+1)
   pure (.yield (none,b.2.1,b.2.2.1,b.2.2.2.1,b.2.2.2.2.1+1))
def qr(x y:Array Keyed):StateT SortSt Sem (Array Keyed):=do
 rule "list.sort.merge-hi"
 let e<-elem' x (x.size-1)
 if (x.size-1==0)=true then pure (mZ x y #[e] (x.size-1) y.size)
 else if (y.size==1)=true then pure (xo x y #[e] (x.size-1) y.size)
 else do
  let st<-get
  let r<-forIn [:x.size+y.size] ((none,x.size-1,y.size,#[e],gallopOf st):OH) λ_ r=>Hf x y r
  match r.1 with
  |some a=>pure a
  |none=>unsupported "internal:list.sort.merge-bound"
theorem C2(x y:Array Keyed):GO x y=qr x y:=by kernel_rfl
theorem o8(x:Array Keyed)(i:Nat):(x.extract 0 i).toList=x.toList.take i:=by rw[UI];show (x.toList.drop 0).take (i-0)=_;simp
theorem vm(x:Array Keyed){k i:Nat}:(x.extract k i).toList=(x.toList.drop k).take (i-k):=by rw[UI]
theorem fq(x y o:Array Keyed)(i j:Nat):(mZ x y o i j).toList=x.toList.take i++y.toList.take j++o.toList.reverse:=by unfold mZ;rw[UH,UH,o8,o8,UK]
theorem hV(x y o:Array Keyed)(i j:Nat):(xo x y o i j).toList=y.toList.take j++x.toList.take i++o.toList.reverse:=by unfold xo;rw[UH,UH,o8,o8,UK]
theorem wt(x o:Array Keyed)(k i:Nat):(o++(x.extract k i).reverse).toList.reverse=(x.toList.drop k).take (i-k)++o.toList.reverse:=by rw[UH,UK,List.reverse_append,List.reverse_reverse,vm]
theorem jx{x o:Array Keyed}{i:Nat}(h1:1<=i)(h2:i<=x.size):(o.push (kas_item x (i-1))).toList.reverse=(x.toList.drop (i-1)).take (i-(i-1))++o.toList.reverse:=by rw[show i-(i-1)=1 by lia,take_one ()];simp
section
variable{O:KeyOrd}{ky:Keyed->O.α}{Mem:Keyed->Prop}
variable{prog:Program}{w:World}{A:Around}{E:Value->Shared->Prop}{κ:SortKind}{s:Shared}
theorem fQ{x:Array Keyed}{i:Nat}{e:Keyed}(h:e∈x.toList.take i):∃k,k<i/\k<x.size/\e=kas_item x k:=by
 have h':e∈(x.toList.drop 0).take i:=by simpa using h
 obtain⟨k,_,k1,k2,e⟩:=aX h';exact⟨k,(),k2,e⟩
structure BY(O:KeyOrd)(ky:Keyed->O.α)(x y o:Array Keyed)(i j:Nat):Prop where
 m:HI O ky x.toList y.toList o.toList.reverse i j
 i1:1<=i
 i2:i<x.size
 j1:2<=j
 j2:j<=y.size
theorem MP.fst{x y:Array Keyed}(h:MP O ky Mem x y){i:Nat}(hi:i<=x.size):∀e∈y.toList.take 1,∀f∈x.toList.take i,le O ky e f:=λe he f hf=>by
 obtain⟨k,k1,k2,rfl⟩:=fQ he;obtain⟨l,l1,l2,rfl⟩:=fQ hf;have:k=0:=()
 subst this;exact Ui (Vd h.first) (c8 h.sa (WG l) l2)
def HP(O:KeyOrd)(ky:Keyed->O.α)(x y:Array Keyed)(n:Nat)(v:Option (Array Keyed))(o:Array Keyed)(i j:Nat):Prop:=(∃a,v=some a/\sS O ky x.toList y.toList a.toList)\/(v=none/\BY O ky x y o i j/\i+j+n<=x.size+y.size)
theorem HP.none{x y:Array Keyed}{n:Nat}{v:Option (Array Keyed)}{o:Array Keyed}{i j:Nat}(h:HP O ky x y n v o i j)(hv:v=none):BY O ky x y o i j/\i+j+n<=x.size+y.size:=by
 rcases h with ⟨a,e,_⟩|⟨_,h⟩
 ·rw[hv]at e;cases e
 ·exact h
def yy(O:KeyOrd)(ky:Keyed->O.α)(x y:Array Keyed)(n:Nat):ForInStep GH->Prop
 |.done r=>HP O ky x y n r.1 r.2.2.2.1 r.2.1 r.2.2.1
 |.yield r=>r.1=none/\HP O ky x y n r.1 r.2.2.2.1 r.2.1 r.2.2.1
theorem zW{x y o:Array Keyed}(M:MP O ky Mem x y){i j mg ca cb n:Nat}(h:HI O ky x.toList y.toList o.toList.reverse i j)(hi:1<=i)(xx:i<x.size)(hj:2<=j)(CB:j<=y.size)(hk:∀l,l<j->le O ky (kas_item y l) (kas_item x (i-1)))(hn:i-1+j+n<=x.size+y.size){st:SortSt}{Q:ForInStep GH->SortSt->Shared->Prop}
  (q:∀r,yy O ky x y n r->Q r st s):kasC (model prog w) A E (MK x y o i j mg ca cb) Q st s:=by
 unfold MK;refine TL (aQ (aF ()) ?_);have m1:=h.qB (k:=i-1) () M.sa (λe he f hf=>by
  obtain⟨a,a1,a2,a3,rfl⟩:=aX he;obtain⟨b,b1,b2,rfl⟩:=fQ hf;have:a=i-1:=()
  subst this;exact hk b b1)
 rw[<-jx (x:=x) hi ()]at m1;by_cases c:(i-1==0)=true
 ·rw[W0 c];have c':i-1=0:=by simpa using c
  refine TR (q _ (.inl ⟨_,rfl,?_⟩));rw[fq];rw[c']at m1 ⊢;exact m1.vf M.sa M.sb
 ·rw[WZ c];have c':¬i-1=0:=by simpa using c
  have g:HP O ky x y n none (o.push (kas_item x (i-1))) (i-1) j:=.inr ⟨rfl,⟨m1,(),(),hj,CB⟩,()⟩;by_cases d:(decide (ca<7)&&decide (cb<7))=true
  ·rw[W0 d];exact TR (q _ g)
  ·rw[WZ d];exact TR (q _ ⟨rfl,g⟩)
theorem zV(T:Tells prog w A κ s O ky Mem){x y o:Array Keyed}(M:MP O ky Mem x y){i j mg ca cb n:Nat}(h:HI O ky x.toList y.toList o.toList.reverse i j)(hi:1<=i)(xx:i<x.size)(hj:2<=j)(CB:j<=y.size)(hk:∀l,l<i->le O ky (kas_item x l) (kas_item y (j-1)))(hn:i+(j-1)+n<=x.size+y.size){st:SortSt}(hs:kindOf st=κ)
  {Q:ForInStep GH->SortSt->Shared->Prop} (q:∀r,yy O ky x y n r->Q r st s):kasC (model prog w) A E (fZ x y o i j mg ca cb) Q st s:=by
 unfold fZ;refine TL (aQ (aF ()) ?_);have m1:=h.qC (k:=j-1) () M.sb (λe he f hf=>by
  obtain⟨a,a1,a2,a3,rfl⟩:=aX he;obtain⟨b,b1,b2,rfl⟩:=fQ hf;have:a=j-1:=()
  subst this;exact hk b b1)
 rw[<-jx (x:=y) () CB]at m1;by_cases c:(j-1==1)=true
 ·rw[W0 c];have c':j-1=1:=by simpa using c
  refine TR (q _ (.inl ⟨_,rfl,?_⟩));rw[hV];rw[c']at m1 ⊢;exact m1.jN M.sa M.sb (M.fst ())
 ·rw[WZ c];have c':¬j-1=1:=by simpa using c
  refine TL (aQ (aF ()) (TL ?_));refine jP T (λt=>kas_item y t) (λt ht=>by rw[WE];exact aF ()) (λt ht=>M.mb _ ()) (M.ma (i-1) ()) () (λa b gh hb qR=>?_) hs (λk hk1 cU mW=>?_)
  ·unfold fY at qR ⊢;rw[W0 rfl]at qR ⊢;have:=c8 M.sb gh ();exact Vf this qR
  ·have lo:∀t,t<k->le O ky (kas_item y t) (kas_item x (i-1)):=λt ht=>by have z:=cU t ht;unfold fY at z;rw[W0 rfl]at z;exact Vd z
   have up:∀t,k<=t->t<j-1->le O ky (kas_item x (i-1)) (kas_item y t):=λt h1 h2=>by have z:=mW t h1 h2;unfold fY at z;rw[W0 rfl]at z;exact z
   dsimp only;by_cases k0:j-1-k>0
   ·rw[W0 k0];have m2:=m1.qC (k:=k) () M.sb (λe he f hf=>by
     obtain⟨a,a1,a2,a3,rfl⟩:=aX he;obtain⟨b,b1,b2,rfl⟩:=fQ hf;exact Ui (c8 M.sa (show b<=i-1 by lia) ()) (up a a1 ()))
    rw[<-wt]at m2;by_cases d:(k==1)=true
    ·rw[W0 d];have d':k=1:=by simpa using d
     subst d';refine TR (q _ (.inl ⟨_,rfl,?_⟩));rw[hV];exact m2.jN M.sa M.sb (M.fst ())
    ·rw[WZ d];have d':¬k=1:=by simpa using d
     by_cases e:(k==0)=true
     ·rw[W0 e];have e':k=0:=by simpa using e
      subst e';refine TR (q _ (.inl ⟨_,rfl,?_⟩));rw[fq];exact m2.FN M.sa M.sb
     ·rw[WZ e];have e':¬k=0:=by simpa using e
      exact zW M m2 hi xx () () lo () q
   ·rw[WZ k0];exact zW M m1 hi xx () () (λl hl=>lo l ()) () q
theorem zU(T:Tells prog w A κ s O ky Mem){x y o:Array Keyed}(M:MP O ky Mem x y){i j mg ca cb n:Nat}(h:BY O ky x y o i j)(hn:i+j+n<=x.size+y.size){dS st:SortSt}(hs:kindOf st=κ)(nS:SI dS st)
  {Q:ForInStep GH->SortSt->Shared->Prop} (q:∀r ak,SI dS ak->yy O ky x y n r->Q r ak s):kasC (model prog w) A E (kD x y o i j mg ca cb) Q st s:=by
 unfold kD;have hi:=h.i1;have xx:=h.i2;have hj:=h.j1;have CB:=h.j2;refine TL (kZ λuE h1=>?_);have Gi:kindOf uE=κ:=h1.1.trans hs;have q':=λr=>q r uE (nS.trans h1)
 refine TL (aQ (aF ()) (TL ?_));refine jP T (λt=>kas_item x t) (λt ht=>by rw[WE];exact aF ()) (λt ht=>M.ma _ ()) (M.mb (j-1) ()) () (λa b gh hb qR=>?_) Gi (λk hk1 cU mW=>?_)
 ·unfold fY at qR ⊢;rw[WZ ∅]at qR ⊢;have:=c8 M.sa gh ();cases z:O.blt (ky (kas_item y (j-1))) (ky (kas_item x a)) with
  |false=>rfl
  |true=>have z2:O.blt (ky (kas_item y (j-1))) (ky (kas_item x b))=true:=Vg z this;have zQ:(!O.blt (ky (kas_item y (j-1))) (ky (kas_item x b)))=true:=qR;rw[z2]at zQ;cases zQ
 ·have lo:∀t,t<k->le O ky (kas_item x t) (kas_item y (j-1)):=λt ht=>by have z:=cU t ht;unfold fY at z;rw[WZ ∅]at z;have z2:(!O.blt (ky (kas_item y (j-1))) (ky (kas_item x t)))=true:=z;show O.blt (ky (kas_item y (j-1))) (ky (kas_item x t))=false;simpa using z2
  have up:∀t,k<=t->t<i->le O ky (kas_item y (j-1)) (kas_item x t):=λt h1 h2=>by
   have z:=mW t h1 h2;unfold fY at z;rw[WZ ∅]at z;have z2:(!O.blt (ky (kas_item y (j-1))) (ky (kas_item x t)))=false:=z;have z3:O.blt (ky (kas_item y (j-1))) (ky (kas_item x t))=true:=by simpa using z2
   exact Vd z3
  dsimp only;by_cases k0:i-k>0
  ·rw[W0 k0];have m2:=h.m.qB (k:=k) () M.sa (λe he f hf=>by
    obtain⟨a,a1,a2,a3,rfl⟩:=aX he;obtain⟨b,b1,b2,rfl⟩:=fQ hf;exact Ui (c8 M.sb (show b<=j-1 by lia) ()) (up a a1 ()))
   rw[<-wt]at m2;by_cases e:(k==0)=true
   ·rw[W0 e];have e':k=0:=by simpa using e
    subst e';refine TR (q' _ (.inl ⟨_,rfl,?_⟩));rw[fq];exact m2.vf M.sa M.sb
   ·rw[WZ e];have e':¬k=0:=by simpa using e
    exact zV T M m2 () () hj CB lo () Gi q'
  ·rw[WZ k0];exact zV T M h.m hi xx hj CB (λl hl=>lo l ()) () Gi q'
def QV(O:KeyOrd)(ky:Keyed->O.α)(x y:Array Keyed)(n:Nat):ForInStep SH->Prop
 |.done r=>HP O ky x y n r.1 r.2.2.2.1 r.2.1 r.2.2.1
 |.yield r=>r.1=none/\HP O ky x y n r.1 r.2.2.2.1 r.2.1 r.2.2.1
theorem Ia(T:Tells prog w A κ s O ky Mem){x y:Array Keyed}(M:MP O ky Mem x y){mg:Nat}{r:SH}(h:BY O ky x y r.2.2.2.1 r.2.1 r.2.2.1){n:Nat}(hn:r.2.1+r.2.2.1+n<=x.size+y.size+1){st:SortSt}(hs:kindOf st=κ)
  {Q:ForInStep SH->SortSt->Shared->Prop} (q:∀r',QV O ky x y n r'->Q r' st s):kasC (model prog w) A E (Ph x y mg r) Q st s:=by
 obtain⟨v,i,j,o,ca,cb⟩:=r;have hi:1<=i:=h.i1;have xx:i<x.size:=h.i2;have hj:2<=j:=h.j1;have CB:j<=y.size:=h.j2;have hm:HI O ky x.toList y.toList o.toList.reverse i j:=h.m;dsimp only at hn;unfold Ph;dsimp only;refine TL (aQ (aF ()) (TL (aQ (aF ()) (TL (ra T (M.mb (j-1) ()) (M.ma (i-1) ()) hs ?_)))));dsimp only;cases c:O.blt (ky (kas_item y (j-1))) (ky (kas_item x (i-1))) with
 |true=>
  rw[W0 rfl];refine TL (aQ (aF ()) ?_);have m1:=hm.qB (k:=i-1) () M.sa (λe he f hf=>by
   obtain⟨a,a1,a2,a3,rfl⟩:=aX he;obtain⟨b,b1,b2,rfl⟩:=fQ hf;have:a=i-1:=()
   subst this;exact Ui (c8 M.sb (show b<=j-1 by lia) ()) (Vd c))
  rw[<-jx (x:=x) hi ()]at m1;by_cases d:(i-1==0)=true
  ·rw[W0 d];have d':i-1=0:=by simpa using d
   refine TR (q _ (.inl ⟨_,rfl,?_⟩));rw[fq];rw[d']at m1 ⊢;exact m1.vf M.sa M.sb
  ·rw[WZ d];have d':¬i-1=0:=by simpa using d
   have g:HP O ky x y n none (o.push (kas_item x (i-1))) (i-1) j:=.inr ⟨rfl,⟨m1,(),(),hj,CB⟩,()⟩;by_cases e:ca+1>=mg
   ·rw[W0 e];exact TR (q _ g)
   ·rw[WZ e];exact TR (q _ ⟨rfl,g⟩)
 |false=>
  rw[WZ ∅];refine TL (aQ (aF ()) ?_);have m1:=hm.qC (k:=j-1) () M.sb (λe he f hf=>by
   obtain⟨a,a1,a2,a3,rfl⟩:=aX he;obtain⟨b,b1,b2,rfl⟩:=fQ hf;have:a=j-1:=()
   subst this;exact Ui (c8 M.sa (show b<=i-1 by lia) ()) c)
  rw[<-jx (x:=y) () CB]at m1;by_cases d:(j-1==1)=true
  ·rw[W0 d];have d':j-1=1:=by simpa using d
   refine TR (q _ (.inl ⟨_,rfl,?_⟩));rw[hV];rw[d']at m1 ⊢;exact m1.jN M.sa M.sb (M.fst ())
  ·rw[WZ d];have d':¬j-1=1:=by simpa using d
   have g:HP O ky x y n none (o.push (kas_item y (j-1))) i (j-1):=.inr ⟨rfl,⟨m1,hi,xx,(),()⟩,()⟩;by_cases e:cb+1>=mg
   ·rw[W0 e];exact TR (q _ g)
   ·rw[WZ e];exact TR (q _ ⟨rfl,g⟩)
def QU(O:KeyOrd)(ky:Keyed->O.α)(x y:Array Keyed)(n:Nat):ForInStep OH->Prop
 |.done r=>∃a,r.1=some a/\sS O ky x.toList y.toList a.toList
 |.yield r=>r.1=none/\BY O ky x y r.2.2.2.1 r.2.1 r.2.2.1/\r.2.1+r.2.2.1+n<=x.size+y.size
theorem Dj(T:Tells prog w A κ s O ky Mem){x y:Array Keyed}(M:MP O ky Mem x y){r:OH}(h:BY O ky x y r.2.2.2.1 r.2.1 r.2.2.1){n:Nat}(hn:r.2.1+r.2.2.1+n<=x.size+y.size){dS st:SortSt}(hs:kindOf st=κ)(nS:SI dS st)
  {Q:ForInStep OH->SortSt->Shared->Prop} (q:∀r' ak,SI dS ak->QU O ky x y (n+1) r'->Q r' ak s):kasC (model prog w) A E (Hf x y r) Q st s:=by
 unfold Hf;have hp:=M.pa;refine TL (cq (Q:=λa ak s'=>st=ak/\s=s'/\HP O ky x y (n+1) a.1 a.2.2.2.1 a.2.1 a.2.2.1) (W5 (dZ (λjj a ak=>st=ak/\a.1=none/\BY O ky x y a.2.2.2.1 a.2.1 a.2.2.1/\a.2.1+a.2.2.1+n+jj<=x.size+y.size) ⟨rfl,rfl,h,by simpa using hn⟩ (λjj a ak z hj hI=>?_) (λa ak hI=>?_))) (λa ak s' hI=>?_))
 ·obtain⟨rfl,a0,Fp,an⟩:=hI;refine Ia T M Fp (n:=n+jj+1) () hs (λr' i4=>⟨rfl,?_⟩);cases r' with
  |done b=>
   refine⟨rfl,rfl,?_⟩;rcases i4 with ⟨v,e,m⟩|⟨e,ok,l⟩
   ·exact .inl ⟨v,e,m⟩
   ·exact .inr ⟨e,ok,()⟩
  |yield b=>obtain⟨b0,gb⟩:=i4;obtain⟨ok,l⟩:=gb.none b0;exact⟨rfl,b0,ok,()⟩
 ·obtain⟨rfl,a0,Fp,an⟩:=hI;rw[VN]at an;exact⟨rfl,rfl,.inr ⟨a0,Fp,()⟩⟩
 obtain⟨rfl,rfl,ga⟩:=hI;rcases ga with ⟨v,e,m⟩|⟨e,ok,l⟩
 ·rw[e];exact TR (q _ _ nS ⟨v,rfl,m⟩)
 ·rw[e];refine TL (W3 (Xm ?_));refine TL (cq (Q:=λb ak s'=>SI dS ak/\s=s'/\HP O ky x y (n+1) b.1 b.2.2.2.1 b.2.1 b.2.2.1) (W5 (dZ (λjj b ak=>SI dS ak/\kindOf ak=κ/\b.1=none/\BY O ky x y b.2.2.2.1 b.2.1 b.2.2.1/\b.2.1+b.2.2.1+(n+1)<=x.size+y.size) ⟨nS,hs,rfl,ok,l⟩ (λjj b ak z hj hI=>?_) (λb ak hI=>?_))) (λb ak s' hI=>?_))
  ·obtain⟨si,ks,b0,Ce,bn⟩:=hI;have kk:∀eN,SI dS eN->kindOf eN=κ:=λeN h2=>(h2.1.trans si.1.symm).trans ks
   by_cases c:b.2.2.2.2.1>1
   ·rw[W0 c];refine zU T M Ce bn ks si (λr' eN h2 i4=>⟨rfl,?_⟩);cases r' with
    |done b'=>exact⟨h2,rfl,i4⟩
    |yield b'=>obtain⟨c0,gc⟩:=i4;obtain⟨G4,l'⟩:=gc.none c0;exact⟨h2,kk eN h2,c0,G4,l'⟩
   ·rw[WZ c];refine zU T M Ce bn ks si (λr' eN h2 i4=>⟨rfl,?_⟩);cases r' with
    |done b'=>exact⟨h2,rfl,i4⟩
    |yield b'=>obtain⟨c0,gc⟩:=i4;obtain⟨G4,l'⟩:=gc.none c0;exact⟨h2,kk eN h2,c0,G4,l'⟩
  ·obtain⟨si,ks,b0,Ce,bn⟩:=hI;exact⟨si,rfl,.inr ⟨b0,Ce,bn⟩⟩
  obtain⟨si,rfl,gb⟩:=hI;rcases gb with ⟨v,e2,m⟩|⟨e2,OM,l2⟩
  ·rw[e2];exact TR (q _ _ si ⟨v,rfl,m⟩)
  ·rw[e2];exact TL (kZ λeN h2=>TR (q _ _ (si.trans h2) ⟨rfl,OM,l2⟩))
theorem C3(T:Tells prog w A κ s O ky Mem){x y:Array Keyed}(M:MP O ky Mem x y){st:SortSt}(hs:kindOf st=κ){Q:Array Keyed->SortSt->Shared->Prop}(q:∀v ak,SI st ak->sS O ky x.toList y.toList v.toList->Q v ak s):kasC (model prog w) A E (GO x y) Q st s:=by
 rw[C2];unfold qr;have hp:=M.pa;have hq:=M.pb;refine TL (W3 (Xm ?_));refine TL (aQ (aF ()) ?_);have m0:=HI.start (O:=O) (ky:=ky) (la:=x.toList) (lb:=y.toList);have lx:x.toList.length=x.size:=by simp
 have ly:y.toList.length=y.size:=by simp
 rw[lx,ly]at m0;have m1:=m0.qB (k:=x.size-1) () M.sa (λe he f hf=>by
  obtain⟨a,a1,a2,a3,rfl⟩:=aX he;obtain⟨b,b1,b2,rfl⟩:=fQ hf;have:a=x.size-1:=()
  subst this;exact Vd (M.last b b2))
 have e0:(#[kas_item x (x.size-1)]:Array Keyed).toList.reverse=(x.toList.drop (x.size-1)).take (x.size-(x.size-1))++[]:=by rw[show x.size-(x.size-1)=1 by lia,take_one ()];rfl
 rw[<-e0]at m1;by_cases c:(x.size-1==0)=true
 ·rw[W0 c];have c':x.size-1=0:=by simpa using c
  refine TR (q _ _ (SI.refl _) ?_);rw[fq];rw[c']at m1 ⊢;exact m1.vf M.sa M.sb
 ·rw[WZ c];have c':¬x.size-1=0:=by simpa using c
  by_cases d:(y.size==1)=true
  ·rw[W0 d];have d':y.size=1:=by simpa using d
   refine TR (q _ _ (SI.refl _) ?_);rw[hV];rw[d']at m1 ⊢;exact m1.jN M.sa M.sb (M.fst ())
  ·rw[WZ d];have d':¬y.size=1:=by simpa using d
   refine TL (W2 ?_);refine TL (cq (Q:=λr ak s'=>SI st ak/\s=s'/\∃a,r.1=some a/\sS O ky x.toList y.toList a.toList) (W5 (dZ (λjj r ak=>SI st ak/\r.1=none/\BY O ky x y r.2.2.2.1 r.2.1 r.2.2.1/\r.2.1+r.2.2.1+(jj+1)<=x.size+y.size) ⟨SI.refl _,rfl,⟨m1,(show 1<=x.size-1 by lia),(show x.size-1<x.size by lia),(show 2<=y.size by lia),TM _⟩,(show x.size-1+y.size+(0+1)<=x.size+y.size by lia)⟩ (λjj r ak z hj hI=>?_) (λr ak hI=>?_))) (λr ak s' hI=>?_))
   ·obtain⟨si,r0,DR,rn⟩:=hI;refine Dj T M DR rn (si.1.trans hs) si (λr' eN h2 i4=>⟨rfl,?_⟩);cases r' with
    |done b=>exact⟨h2,rfl,i4⟩
    |yield b=>exact⟨h2,i4.1,i4.2.1,i4.2.2⟩
   ·obtain⟨si,r0,DR,rn⟩:=hI;rw[VN]at rn;have h1:=DR.i1;have h2:=DR.j1
    lia
   obtain⟨si,rfl,a,e,m⟩:=hI;rw[e];exact TR (q _ _ si m)
end
def KI:Nat->StateT SortSt Sem Bool:=sortPriv% PySem.Builtin.mergeAt
def back(M:Array Keyed)(p:Nat)(a:Array Keyed):Array Keyed:=M.toList.zipIdx.foldl (λb(q,j)=>b.setIfInBounds (p+j) q) a
theorem GM(i:Nat):KI i=(do
 let t<-get
 let (some (p,n,pw),some (q,m,_)):=((pendingOf t)[i]?,(pendingOf t)[i+1]?)|unsupported "internal:list.sort.pending"
 set (SortSt.mk' (kindOf t) (arrOf t) (((pendingOf t).setIfInBounds i (p,n+m,pw)).eraseIdxIfInBounds (i+1)) (gallopOf t) (failedOf t))
 let some k<-EB false (<-elem' (arrOf t) q) (arrOf t) p n 0|return false
 let (p,n):=(p+k,n-k)
 if n==0 then return true
 let some m<-EB true (<-elem' (arrOf t) (p+n-1)) (arrOf t) q m (m-1)|return false
 if m==0 then return true
 let x:=(arrOf t).extract p q
 let y:=(arrOf t).extract q (q+m)
 let M<-if n<=m then GQ x y else GO x y
 modify λt=>SortSt.mk' (kindOf t) (back M p (arrOf t)) (pendingOf t) (gallopOf t) (failedOf t)
 return (failedOf (<-get)).isNone):=by kernel_rfl
theorem nC:∀(M:List Keyed)(p c:Nat)(a:Array Keyed),p+c+M.length<=a.size->((M.zipIdx c).foldl (λb(q:Keyed×Nat)=>b.setIfInBounds (p+q.2) q.1) a).toList=a.toList.take (p+c)++M++a.toList.drop (p+c+M.length)
 |[],p,c,a,h=>by simp
 |e::M,p,c,a,h=>by
  rw[Wn,List.foldl_cons];simp only[T8]at h;have ih:=nC M p (c+1) (a.setIfInBounds (p+c) e) (by rw[Array.size_setIfInBounds];lia);rw[ih];have hs:(a.setIfInBounds (p+c) e).toList=a.toList.take (p+c)++[e]++a.toList.drop (p+c+1):=by rw[Array.toList_setIfInBounds];rw[Wd];rw[W0 (by simp;lia)];simp
  have hl:(a.toList.take (p+c)++[e]).length=p+c+1:=by simp;lia
  rw[hs];have e1:(a.toList.take (p+c)++[e]++a.toList.drop (p+c+1)).take (p+(c+1))=a.toList.take (p+c)++[e]:=by rw[show p+(c+1)=(a.toList.take (p+c)++[e]).length by lia,List.take_left]
  have e2:(a.toList.take (p+c)++[e]++a.toList.drop (p+c+1)).drop (p+(c+1)+M.length)=a.toList.drop (p+c+(e::M).length):=by
   rw[show p+(c+1)+M.length=(a.toList.take (p+c)++[e]).length+M.length by lia,List.drop_append,Vq (Nat.le_add_right _ _),V4,Nat.add_sub_cancel_left,List.drop_drop];congr 1;simp only[T8]
   lia
  rw[e1,e2];simp
section
variable{prog:Program}{w:World}{A:Around}{E:Value->Shared->Prop}{s:Shared}
theorem Ac{t st:SortSt}{Q:PUnit->SortSt->Shared->Prop}(h:Q ⟨⟩ t s):kasC (model prog w) A E (set t:StateT SortSt Sem PUnit) Q st s:=by unfold kasC;rw[StateT.run_set];exact Tz h
theorem er(n1 n2 pw z:Nat):((#[(0,n1,pw),(n1,n2,z)]:Array (Nat×Nat×Nat)).setIfInBounds 0 (0,n1+n2,pw)).eraseIdxIfInBounds (0+1)=#[(0,n1+n2,pw)]:=by simp[Array.eraseIdxIfInBounds]
end
def aL(lo n m:Nat):StateT SortSt Sem AscSt:=
 forIn [n:m] ((none,n):AscSt) λ_ r=>do
  let x<-ltAt' (lo+r.2) (lo+r.2-1)
  match x with
  |some c=>if c=true then pure (.done (none,r.2)) else pure (.yield (none,r.2+1))
  |_=>pure (.done (some none,r.2))
def t3(lo n m:Nat):StateT SortSt Sem (Option Nat):=do
 reverseSlice' lo (lo+n)
 let r<-aL lo n m
 match r.1 with
 |some v=>pure v
 |none=>pure (some r.2)
def dL(lo n m:Nat):StateT SortSt Sem DescSt:=
 forIn [n:m] ((none,n,0):DescSt) λ_ r=>do
  let x<-ltAt' (lo+r.2.1) (lo+r.2.1-1)
  match x with
  |some c=>
   if c=true then
    if r.2.2>0 then do
     reverseSlice' (lo+r.2.1-(r.2.2+1)) (lo+r.2.1)
     pure (.yield (none,r.2.1+1,0))
    else pure (.yield (none,r.2.1+1,0))
   else do
    let y<-ltAt' (lo+r.2.1-1) (lo+r.2.1)
    match y with
    |some d=>if d=true then pure (.done (none,r.2.1,r.2.2)) else pure (.yield (none,r.2.1+1,r.2.2+1))
    |_=>pure (.done (some none,r.2.1,r.2.2))
  |_=>pure (.done (some none,r.2.1,r.2.2))
def dP(lo n m:Nat):StateT SortSt Sem (Option Nat):=do
 rule "list.sort.descending-run"
 let r<-dL lo (n+1) m
 match r.1 with
 |some v=>pure v
 |none=>
  if r.2.2>0 then do
   reverseSlice' (lo+r.2.1-(r.2.2+1)) (lo+r.2.1)
   t3 lo r.2.1 m
  else t3 lo r.2.1 m
def cR(lo m:Nat):StateT SortSt Sem (Option Nat):=do
 let r<-aL lo 1 m
 match r.1 with
 |some v=>pure v
 |none=>
  if (r.2==m)=true then pure (some r.2)
  else if r.2>1 then do
   let x<-ltAt' lo (lo+r.2-1)
   match x with
   |some c=>if c=true then pure (some r.2) else do
     reverseSlice' lo (lo+r.2)
     dP lo r.2 m
   |_=>pure none
  else dP lo r.2 m
theorem Jv(lo m:Nat):countRun' lo m=cR lo m:=by kernel_rfl
def pL(lo k:Nat):StateT SortSt Sem (Option Bool×Nat×Nat):=
 forIn [:k] ((none,0,k):Option Bool×Nat×Nat) λ_ r=>
  if r.2.1>=r.2.2 then pure (.done (none,r.2.1,r.2.2)) else do
   let x<-ltAt' (lo+k) (lo+(r.2.1+r.2.2)/2)
   match x with
   |some c=>if c=true then pure (.yield (none,r.2.1,(r.2.1+r.2.2)/2)) else pure (.yield (none,(r.2.1+r.2.2)/2+1,r.2.2))
   |_=>pure (.done (some false,r.2.1,r.2.2))
def bS(lo n ok:Nat):StateT SortSt Sem Bool:=do
 let r<-forIn [max ok 1:n] ((none,.unit):Option Bool×Unit) λk _=>do
  let r<-pL lo k
  match r.1 with
  |some v=>pure (.done (some v,.unit))
  |none=>do
   moveDown' (lo+k) (lo+r.2.1)
   pure (.yield (none,.unit))
 match r.1 with
 |some v=>pure v
 |none=>pure true
theorem Jq(lo n ok:Nat):binarySort' lo n ok=bS lo n ok:=by kernel_rfl
section
variable{O:KeyOrd}{ky:Keyed->O.α}{Mem:Keyed->Prop}
variable{prog:Program}{w:World}{A:Around}{E:Value->Shared->Prop}{κ:SortKind}{s:Shared}
theorem eK{β:Type}{a b:Nat}{b0:β}{f:Nat->β->StateT SortSt Sem (ForInStep β)}{Q:β->SortSt->Shared->Prop}(Inv:Nat->β->SortSt->Prop){dS:SortSt}(h0:Inv a b0 dS)
  (step:∀x c st,a<=x->x<b->Inv x c st->kasC (model prog w) A E (f x c) (λr ak s'=>s'=s/\match r with|.done b'=>Q b' ak s|.yield b'=>Inv (x+1) b' ak) st s)
  (fin:∀c st,Inv (max a b) c st->Q c st s):kasC (model prog w) A E (forIn [a:b] b0 f) Q dS s:=by
 have go:∀(n x:Nat)(c:β)(st:SortSt),x+n=max a b->a<=x->Inv x c st->kasC (model prog w) A E (forIn (List.range' x n) c f) Q st s:=by
  intro n
  induction n with
  |zero=>
   intro x c st hx hax hI;have e:x=max a b:=()
   subst e;exact kasC_nil (fin c st hI)
  |succ n ih=>
   intro x c st hx hax hI;rw[List.range'_succ];refine kasC_cons (Xg (step x c st hax () hI) (λr s' h'=>?_) λ_ _ e=>e);obtain⟨r,ak⟩:=r;obtain⟨rfl,h'⟩:=h';cases r with
   |done b'=>exact h'
   |yield b'=>exact ih (x+1) b' ak () () h'
 exact W5 (go (b-a) a b0 dS () (TM _) h0)
structure Bs(κ:SortKind)(P:Array (Nat×Nat×Nat))(lo:Nat)(b:Array Keyed)(st:SortSt):Prop where
 k:kindOf st=κ
 f:failedOf st=none
 p:pendingOf st=P
 pm:(arrOf st).toList.Perm b.toList
 lw:∀i,i<lo->kas_item (arrOf st) i=kas_item b i
variable{P:Array (Nat×Nat×Nat)}{lo:Nat}{b:Array Keyed}
theorem Bs.size{st:SortSt}(h:Bs κ P lo b st):(arrOf st).size=b.size:=by have:=h.pm.length_eq;simpa using this
theorem Bs.mem{st:SortSt}(h:Bs κ P lo b st)(hb:∀x∈b.toList,Mem x){i:Nat}(hi:i<b.size):Mem (kas_item (arrOf st) i):=by
 have IW:i<(arrOf st).size:=by rw[h.size];exact hi
 refine hb _ (h.pm.mem_iff.mp ?_);have e:kas_item (arrOf st) i=(arrOf st)[i]:=by unfold kas_item;simp[Array.getD,IW]
 rw[e];simp
theorem jh{p q:Array Keyed}{i j:Nat}(h:p[i]?=q[j]?):kas_item p i=kas_item q j:=by unfold kas_item;rw[UG,UG,h]
theorem ji{a:Array Keyed}{i j:Nat}(hj:j<=a.size)(k:Nat):kas_item (mirror a i j ((j-i)/2)) k=if i<=k/\k<j then kas_item a (i+j-1-k) else kas_item a k:=by
 have e:=getElem?_mirror_all (i:=i) hj k;by_cases h1:i<=k/\k<j
 ·rw[W0 h1]at e ⊢;exact jh e
 ·rw[WZ h1]at e ⊢;exact jh e
theorem lX{a:Array Keyed}{src d:Nat}(hs:src<a.size)(hd:d<=src)(k:Nat):
  kas_item (bubble a src d) k=if k=src-d then kas_item a src else if src-d<k/\k<=src then kas_item a (k-1) else kas_item a k:=by
 have e:=getElem?_bubble hs d hd k;by_cases h1:k=src-d
 ·rw[W0 h1]at e ⊢;exact jh e
 ·rw[WZ h1]at e ⊢;by_cases h2:src-d<k/\k<=src
  ·rw[W0 h2]at e ⊢;exact jh e
  ·rw[WZ h2]at e ⊢;exact jh e
theorem Bs.rev{st:SortSt}(h:Bs κ P lo b st){i j:Nat}(hi:lo<=i)(hj:j<=b.size):Bs κ P lo b (setArr st (mirror (arrOf st) i j ((j-i)/2))):=
 ⟨h.k,h.f,h.p,(Array.perm_iff_toList_perm.mp (mirror_perm _ _ _ _)).trans h.pm,λk hk=>by
  have:=ji (a:=arrOf st) (i:=i) (j:=j) (by rw[h.size];exact hj) k;rw[WZ ()]at this;exact this.trans (h.lw k hk)⟩
theorem Bs.Q3{st:SortSt}(h:Bs κ P lo b st){c d:Nat}(hs:c<b.size)(hd:lo+d<=c):Bs κ P lo b (setArr st (bubble (arrOf st) c d)):=
 ⟨h.k,h.f,h.p,(Array.perm_iff_toList_perm.mp (bubble_perm _ _ _)).trans h.pm,λk hk=>by
  have:=lX (a:=arrOf st) (src:=c) (d:=d) (by rw[h.size];exact hs) () k;rw[WZ (),WZ ()]at this;exact this.trans (h.lw k hk)⟩
theorem jl(T:Tells prog w A κ s O ky Mem)(hb:∀x∈b.toList,Mem x){st:SortSt}(h:Bs κ P lo b st){i j:Nat}(hi:i<b.size)(hj:j<b.size){Q:Option Bool->SortSt->Shared->Prop}
  (q:Q (some (O.blt (ky (kas_item (arrOf st) i)) (ky (kas_item (arrOf st) j)))) st s):kasC (model prog w) A E (ltAt' i j) Q st s:=by
 rw[ltAt'_eq];refine TL (W2 ?_);dsimp only;exact TL (aQ (aF (by rw[h.size];exact hi)) (TL (aQ (aF (by rw[h.size];exact hj)) (ra T (h.mem hb hi) (h.mem hb hj) h.k q))))
def Up(O:KeyOrd)(ky:Keyed->O.α)(lo:Nat)(a:Array Keyed)(n:Nat):Prop:=∀i j,lo<=i->i<=j->j<lo+n->O.kle (ky (kas_item a i)) (ky (kas_item a j))
def Dn(O:KeyOrd)(ky:Keyed->O.α)(lo:Nat)(a:Array Keyed)(n:Nat):Prop:=∀i j,lo<=i->i<=j->j<lo+n->O.kle (ky (kas_item a j)) (ky (kas_item a i))
def Nb(O:KeyOrd)(ky:Keyed->O.α)(lo:Nat)(a:Array Keyed)(n q:Nat):Prop:=∀k,lo+n-(q+1)<=k->k<lo+n->ky (kas_item a k)=ky (kas_item a (lo+n-1))
theorem Up.succ{a:Array Keyed}{n:Nat}(h:Up O ky lo a n)(h1:1<=n)(h2:O.kle (ky (kas_item a (lo+n-1))) (ky (kas_item a (lo+n)))):Up O ky lo a (n+1):=λi j hi gp hj=>by
 by_cases e:j=lo+n
 ·subst e;by_cases e2:i=lo+n
  ·subst e2;exact Ve _
  ·exact Ui (h i (lo+n-1) hi () ()) h2
 ·exact h i j hi gp ()
theorem Dn.succ{a:Array Keyed}{n:Nat}(h:Dn O ky lo a n)(h1:1<=n)(h2:O.kle (ky (kas_item a (lo+n))) (ky (kas_item a (lo+n-1)))):Dn O ky lo a (n+1):=λi j hi gp hj=>by
 by_cases e:j=lo+n
 ·subst e;by_cases e2:i=lo+n
  ·subst e2;exact Ve _
  ·exact Ui h2 (h i (lo+n-1) hi () ())
 ·exact h i j hi gp ()
theorem Dn.of{a c:Array Keyed}{n:Nat}(e:∀k,ky (kas_item c k)=ky (kas_item a k))(h:Dn O ky lo a n):Dn O ky lo c n:=λi j x y z=>by rw[e,e];exact h i j x y z
theorem Up.one(a:Array Keyed):Up O ky lo a 1:=λi j x y z=>by rw[show i=j by lia];exact Ve _
theorem Dn.one(a:Array Keyed):Dn O ky lo a 1:=λi j x y z=>by rw[show i=j by lia];exact Ve _
theorem zk{a:Array Keyed}{i j:Nat}(hj:j<=a.size)(he:∀k,i<=k->k<j->ky (kas_item a k)=ky (kas_item a (j-1)))(k:Nat):ky (kas_item (mirror a i j ((j-i)/2)) k)=ky (kas_item a k):=by
 rw[ji hj];split
 ·rename_i h;rw[he (i+j-1-k) () (),he k h.1 h.2]
 ·rfl
theorem Bj{a:Array Keyed}{n:Nat}(hn:lo+n<=a.size)(h:Dn O ky lo a n):Up O ky lo (mirror a lo (lo+n) ((lo+n-lo)/2)) n:=λi j hi gp hj=>by rw[ji hn,ji hn,W0 (by omega),W0 (by omega)];exact h _ _ (by omega) (by omega) (by omega)
theorem Ef(T:Tells prog w A κ s O ky Mem)(hb:∀x∈b.toList,Mem x){st:SortSt}(h:Bs κ P lo b st){n m:Nat}(hz:lo+m<=b.size)(h1:1<=n)(hn:n<=m)(hu:Up O ky lo (arrOf st) n){Q:AscSt->SortSt->Shared->Prop}
  (q:∀k,n<=k->k<=m->Up O ky lo (arrOf st) k->(k<m->O.blt (ky (kas_item (arrOf st) (lo+k))) (ky (kas_item (arrOf st) (lo+k-1)))=true)->Q (none,k) st s):kasC (model prog w) A E (aL lo n m) Q st s:=by
 unfold aL;refine eK (λx r ak=>st=ak/\r=(none,x)/\Up O ky lo (arrOf st) x) ⟨rfl,rfl,hu⟩ (λx r ak hx1 CJ hI=>?_) (λr ak hI=>?_)
 ·obtain⟨rfl,rfl,hu⟩:=hI;dsimp only;refine TL (jl T hb h () () ?_);dsimp only;cases c:O.blt (ky (kas_item (arrOf st) (lo+x))) (ky (kas_item (arrOf st) (lo+x-1))) with
  |true=>rw[W0 rfl];exact TR ⟨rfl,q x hx1 () hu λ_=>c⟩
  |false=>rw[WZ ∅];exact TR ⟨rfl,rfl,rfl,hu.succ () c⟩
 ·obtain⟨rfl,rfl,hu⟩:=hI;rw[show max n m=m by lia]at hu ⊢;exact q m hn (TM _) hu λz=>absurd z ()
theorem p5{i j:Nat}{st:SortSt}{Q:Unit->SortSt->Shared->Prop}(q:Q .unit (setArr st (mirror (arrOf st) i j ((j-i)/2))) s):kasC (model prog w) A E (reverseSlice' i j) Q st s:=by rw[reverseSlice'_eq];exact W4 q
theorem JA(T:Tells prog w A κ s O ky Mem)(hb:∀x∈b.toList,Mem x){st:SortSt}(h:Bs κ P lo b st){n m:Nat}(hz:lo+m<=b.size)(h1:1<=n)(hn:n<=m)(hd:Dn O ky lo (arrOf st) n){Q:DescSt->SortSt->Shared->Prop}
  (q:∀ak k e,Bs κ P lo b ak->n<=k->k<=m->e+1<=k->Dn O ky lo (arrOf ak) k->Nb O ky lo (arrOf ak) k e->Q (none,k,e) ak s):kasC (model prog w) A E (dL lo n m) Q st s:=by
 unfold dL;have one:∀(a:Array Keyed)(k:Nat),1<=k->Nb O ky lo a k 0:=λa k hk j x y=>by rw[show j=lo+k-1 by lia]
 refine eK (λx r ak=>∃e,r=(none,x,e)/\Bs κ P lo b ak/\e+1<=x/\Dn O ky lo (arrOf ak) x/\Nb O ky lo (arrOf ak) x e) ⟨0,rfl,h,(),hd,one _ _ h1⟩ (λx r ak hx1 CJ hI=>?_) (λr ak hI=>?_)
 ·obtain⟨e,rfl,h,he,hd,hq⟩:=hI;have nT:=h.size;dsimp only;refine TL (jl T hb h () () ?_);dsimp only;cases c:O.blt (ky (kas_item (arrOf ak) (lo+x))) (ky (kas_item (arrOf ak) (lo+x-1))) with
  |true=>
   rw[W0 rfl];have pq:=hd.succ () (Vd c);by_cases d:e>0
   ·rw[W0 d];refine TL (p5 (TR ⟨rfl,0,rfl,h.rev () (),(),?_,one _ _ ()⟩));exact Dn.of (zk () hq) pq
   ·rw[WZ d];exact TR ⟨rfl,0,rfl,h,(),pq,one _ _ ()⟩
  |false=>
   rw[WZ ∅];refine TL (jl T hb h () () ?_);dsimp only;cases d:O.blt (ky (kas_item (arrOf ak) (lo+x-1))) (ky (kas_item (arrOf ak) (lo+x))) with
   |true=>rw[W0 rfl];exact TR ⟨rfl,q ak x e h hx1 () he hd hq⟩
   |false=>
    rw[WZ ∅];have heq:ky (kas_item (arrOf ak) (lo+x))=ky (kas_item (arrOf ak) (lo+x-1)):=O.total _ _ c d;refine TR ⟨rfl,e+1,rfl,h,(),hd.succ () (by rw[heq];exact Ve _),λk k1 k2=>?_⟩;rw[show lo+(x+1)-1=lo+x by lia];by_cases z:k=lo+x
    ·rw[z]
    ·rw[hq k () (),heq]
 ·obtain⟨e,rfl,h,he,hd,hq⟩:=hI;rw[show max n m=m by lia]at hd hq he ⊢;exact q ak m e h hn (TM _) he hd hq
theorem E4(T:Tells prog w A κ s O ky Mem)(hb:∀x∈b.toList,Mem x){st:SortSt}(h:Bs κ P lo b st){n m:Nat}(hz:lo+m<=b.size)(h1:1<=n)(hn:n<=m)(hd:Dn O ky lo (arrOf st) n){Q:Option Nat->SortSt->Shared->Prop}
  (q:∀ak k,Bs κ P lo b ak->1<=k->k<=m->Up O ky lo (arrOf ak) k->Q (some k) ak s):kasC (model prog w) A E (t3 lo n m) Q st s:=by
 unfold t3;have nT:=h.size;refine TL (p5 (TL (Ef T hb (h.rev (TM _) ()) hz h1 hn (Bj () hd) λk k1 k2 ku _=>?_)));exact TR (q _ k (h.rev (TM _) ()) () k2 ku)
theorem Et(T:Tells prog w A κ s O ky Mem)(hb:∀x∈b.toList,Mem x){st:SortSt}(h:Bs κ P lo b st){n m:Nat}(hz:lo+m<=b.size)(h1:1<=n)(hn:n+1<=m)(hd:Dn O ky lo (arrOf st) (n+1)){Q:Option Nat->SortSt->Shared->Prop}
  (q:∀ak k,Bs κ P lo b ak->1<=k->k<=m->Up O ky lo (arrOf ak) k->Q (some k) ak s):kasC (model prog w) A E (dP lo n m) Q st s:=by
 unfold dP;refine TL (W3 (Xm ?_));refine TL (JA T hb h hz () hn hd λak k e h' k1 k2 ke kd kq=>?_);dsimp only;have nT:=h'.size;by_cases d:e>0
 ·rw[W0 d];exact TL (p5 (E4 T hb (h'.rev () ()) hz () k2 (Dn.of (zk () kq) kd) q))
 ·rw[WZ d];exact E4 T hb h' hz () k2 kd q
theorem Jw(T:Tells prog w A κ s O ky Mem)(hb:∀x∈b.toList,Mem x){st:SortSt}(h:Bs κ P lo b st){m:Nat}(hz:lo+m<=b.size)(h1:1<=m){Q:Option Nat->SortSt->Shared->Prop}
  (q:∀ak k,Bs κ P lo b ak->1<=k->k<=m->Up O ky lo (arrOf ak) k->Q (some k) ak s):kasC (model prog w) A E (countRun' lo m) Q st s:=by
 rw[Jv];unfold cR;have nT:=h.size;refine TL (Ef T hb h hz (TM _) h1 (Up.one _) λn n1 n2 nu nl=>?_);dsimp only;by_cases e:(n==m)=true
 ·rw[W0 e];exact TR (q _ n h n1 n2 nu)
 ·rw[WZ e];have e':n≠m:=by simpa using e
  have cU:=nl ();by_cases hn:n>1
  ·rw[W0 hn];refine TL (jl T hb h () () ?_);dsimp only;cases c:O.blt (ky (kas_item (arrOf st) lo)) (ky (kas_item (arrOf st) (lo+n-1))) with
   |true=>rw[W0 rfl];exact TR (q _ n h n1 n2 nu)
   |false=>
    rw[WZ ∅];have all:∀k,lo<=k->k<lo+n->ky (kas_item (arrOf st) k)=ky (kas_item (arrOf st) (lo+n-1)):=λk k1 k2=>by refine KeyOrd.kle_antisymm (nu k (lo+n-1) k1 () ()) (Ui (show O.kle (ky (kas_item (arrOf st) (lo+n-1))) (ky (kas_item (arrOf st) lo)) from c) (nu lo k (TM _) k1 k2))
    refine TL (p5 (Et T hb (h.rev (TM _) ()) hz n1 () (Dn.of (zk () all) (Dn.succ (λi j hi gp hj=>?_) n1 (Vd cU))) q));rw[all i hi (),all j () hj];exact Ve _
  ·rw[WZ hn];have e1:n=1:=()
   subst e1;exact Et T hb h hz n1 () (Dn.succ (Dn.one _) n1 (Vd cU)) q
theorem K7(T:Tells prog w A κ s O ky Mem)(hb:∀x∈b.toList,Mem x){st:SortSt}(h:Bs κ P lo b st){k:Nat}(hz:lo+k<b.size)(hu:Up O ky lo (arrOf st) k){Q:Option Bool×Nat×Nat->SortSt->Shared->Prop}
  (q:∀l r,l<=k->(∀i,lo<=i->i<lo+l->O.kle (ky (kas_item (arrOf st) i)) (ky (kas_item (arrOf st) (lo+k))))->(∀i,lo+l<=i->i<lo+k->O.klt (ky (kas_item (arrOf st) (lo+k))) (ky (kas_item (arrOf st) i)))->Q (none,l,r) st s):kasC (model prog w) A E (pL lo k) Q st s:=by
 unfold pL;refine eK (λx c ak=>st=ak/\∃l r,c=(none,l,r)/\l<=r/\r<=k/\r-l<=k-x/\(∀i,lo<=i->i<lo+l->O.kle (ky (kas_item (arrOf st) i)) (ky (kas_item (arrOf st) (lo+k))))/\(∀i,lo+r<=i->i<lo+k->O.klt (ky (kas_item (arrOf st) (lo+k))) (ky (kas_item (arrOf st) i))))
  ⟨rfl,0,k,rfl,(),(),(),λi a c=>absurd a (),λi a c=>absurd a ()⟩ (λx r ak hx1 CJ hI=>?_) (λr ak hI=>?_)
 ·obtain⟨rfl,l,r,rfl,lr,rk,rl,m9,yo⟩:=hI;dsimp only;by_cases c:l>=r
  ·rw[W0 c];have e:l=r:=()
   subst e;exact TR ⟨rfl,q l l rk m9 yo⟩
  ·rw[WZ c];refine TL (jl T hb h () () ?_);dsimp only;cases d:O.blt (ky (kas_item (arrOf st) (lo+k))) (ky (kas_item (arrOf st) (lo+(l+r)/2))) with
   |true=>rw[W0 rfl];exact TR ⟨rfl,rfl,l,(l+r)/2,rfl,(),(),(),m9,λi i1 i2=>Vg d (hu _ _ () i1 i2)⟩
   |false=>rw[WZ ∅];exact TR ⟨rfl,rfl,(l+r)/2+1,r,rfl,(),(),(),λi i1 i2=>Ui (hu i (lo+(l+r)/2) i1 () ()) d,yo⟩
 ·obtain⟨rfl,l,r,rfl,lr,rk,rl,m9,yo⟩:=hI;have e:l=r:=()
  subst e;exact q l l rk m9 yo
theorem Jr(T:Tells prog w A κ s O ky Mem)(hb:∀x∈b.toList,Mem x){st:SortSt}(h:Bs κ P lo b st){n k:Nat}(hz:lo+n<=b.size)(h1:1<=k)(hk:k<=n)(hu:Up O ky lo (arrOf st) k){Q:Bool->SortSt->Shared->Prop}
  (q:∀ak,Bs κ P lo b ak->Up O ky lo (arrOf ak) n->Q true ak s):kasC (model prog w) A E (binarySort' lo n k) Q st s:=by
 rw[Jq];unfold bS;refine TL (eK (λx c ak=>c=(none,.unit)/\Bs κ P lo b ak/\Up O ky lo (arrOf ak) x) ⟨rfl,h,by rw[show max k 1=k by lia];exact hu⟩ (λx r ak hx1 CJ hI=>?_) (λr ak hI=>?_))
 ·obtain⟨rfl,h,hu⟩:=hI;have nT:=h.size;refine TL (K7 T hb h () hu λl r hl m9 yo=>?_);dsimp only;rw[moveDown'_eq];refine TL (W4 (TR ⟨rfl,rfl,h.Q3 () (),λi j hi gp hj=>?_⟩));show O.kle (ky (kas_item (bubble (arrOf ak) (lo+x) (lo+x-(lo+l))) i)) (ky (kas_item (bubble (arrOf ak) (lo+x) (lo+x-(lo+l))) j));rw[lX () (),lX () (),show lo+x-(lo+x-(lo+l))=lo+l by lia]
  repeat' split
  all_goals first
   |(exfalso;lia)
   |exact Ve _
   |exact m9 _ () ()
   |exact Vd (yo _ () ())
   |exact hu _ _ () () ()
 ·obtain⟨rfl,h,hu⟩:=hI;rw[show max (max k 1) n=n by lia]at hu;exact TR (q _ h hu)
end
def OR(size pw:Nat):StateT SortSt Sem (Option Unit×Unit):=
 forIn [:size] ((none,.unit):Option Unit×Unit) λ_ _=>do
  let st<-get
  match (if (pendingOf st).size>1 then(pendingOf st)[(pendingOf st).size-2]? else none) with
  |some (_,_,older)=>
   if older<=pw then pure (.done (none,.unit)) else do
    let ok<-KI ((pendingOf st).size-2)
    if (!ok)=true then pure (.done (some .unit,.unit)) else pure (.yield (none,.unit))
  |_=>pure (.done (none,.unit))
def Mp(size lo n:Nat):StateT SortSt Sem (ForInStep (Option Unit×Nat)):=do
 let st<-get
 match (pendingOf st).back? with
 |some (s1,n1,_)=>do
  let r<-OR size (power' size (2*s1+n1) (2*s1+n1+n1+n) size)
  match r.1 with
  |some v=>pure (.done (some v,lo))
  |none=>do
   modify λs=>setPending s ((pendingOf s).modify ((pendingOf s).size-1) λ(st,len,_)=>(st,len,power' size (2*s1+n1) (2*s1+n1+n1+n) size))
   modify λs=>setPending s ((pendingOf s).push (lo,n,0))
   pure (.yield (none,lo+n))
 |_=>do
  modify λs=>setPending s ((pendingOf s).push (lo,n,0))
  pure (.yield (none,lo+n))
def LM(size mr lo:Nat):StateT SortSt Sem (ForInStep (Option Unit×Nat)):=
 if lo>=size then pure (.done (none,lo)) else do
  let f<-countRun' lo (size-lo)
  match f with
  |some n=>
   if n<mr then do
    rule "list.sort.binary-insertion"
    let ok<-binarySort' lo (min (size-lo) mr) n
    if (!ok)=true then pure (.done (some .unit,lo)) else Mp size lo (min (size-lo) mr)
   else Mp size lo n
  |_=>pure (.done (some .unit,lo))
def ix(p:Array (Nat×Nat×Nat)):Nat:=if (if p.size-2>0 then p[p.size-2-1]?.map (·.2.1) else none).any (· < (p[p.size-2+1]?.elim 0 (·.2.1))) then p.size-2-1 else p.size-2
def MQ(size:Nat):StateT SortSt Sem (Option Unit×Unit):=
 forIn [:size] ((none,.unit):Option Unit×Unit) λ_ _=>do
  let st<-get
  if (pendingOf st).size<=1 then pure (.done (none,.unit)) else do
   let ok<-KI (ix (pendingOf st))
   if (!ok)=true then pure (.done (some .unit,.unit)) else pure (.yield (none,.unit))
def sR:StateT SortSt Sem Unit:=do
 let st<-get
 let r<-forIn [:(arrOf st).size] ((none,0):Option Unit×Nat) λ_ r=>LM (arrOf st).size (minRun' (arrOf st).size (arrOf st).size 0) r.2
 match r.1 with
 |some v=>pure v
 |none=>do
  let r<-MQ (arrOf st).size
  match r.1 with
  |some v=>pure v
  |none=>pure .unit
theorem Lp:sortRuns'=sR:=by kernel_rfl
section
variable{O:KeyOrd}{ky:Keyed->O.α}
theorem Up.LL{b:Array Keyed}{n:Nat}(hn:b.size=n)(h:Up O ky 0 b n):i8 O ky b.toList:=by
 refine V9.mpr λi j hi hj gp=>?_
 have e:∀k,(h:k<b.size)->kas_item b k=b.toList[k]'‹h›:=λk h=>by unfold kas_item;simp[Array.getD,h]
 have xA:j<b.size:=by simpa using hj
 rw[<-e i (),<-e j xA];exact h i j () () ()
end
section
variable{O:KeyOrd}{ky:Keyed->O.α}{Mem:Keyed->Prop}
variable{prog:Program}{w:World}{A:Around}{E:Value->Shared->Prop}{κ:SortKind}{s:Shared}
theorem item_list(b:Array Keyed)(t:Nat):kas_item b t=b.toList.getD t (Value.none,Value.none):=by unfold kas_item;simp[Array.getD,List.getD];split<;>simp_all
theorem Ih{l:List Keyed}(h:i8 O ky l){i j:Nat}(gp:i<=j)(hj:j<l.length):le O ky (l.getD i (Value.none,Value.none)) (l.getD j (Value.none,Value.none)):=by
 rcases Nat.lt_or_ge i j with c|c
 ·have:=V9.mp h i j () hj c;rw[VB,VB,Ue hj,Ue ()];exact this
 ·have e:i=j:=()
  subst e;exact Ve _
theorem zE{l m:List Keyed}{d:Keyed}{i:Nat}(h:i<l.length):(l++m).getD i d=l.getD i d:=by rw[VB,VB,Uz h]
theorem zF{l m:List Keyed}{d:Keyed}{i:Nat}(h:l.length<=i):(l++m).getD i d=m.getD (i-l.length) d:=by rw[VB,VB,UA h]
theorem OD(T:Tells prog w A κ s O ky Mem){a:Array Keyed}{P:Array (Nat×Nat×Nat)}{i p n1 n2 pw z g:Nat}(RA:P[i]?=some (p,n1,pw))(NZ:P[i+1]?=some (p+n1,n2,z))(nT:p+n1+n2<=a.size)(h1:1<=n1)(h2:1<=n2)(hm:∀i,i<a.size->Mem (kas_item a i))
  (sA:∀i j,p<=i->i<=j->j<p+n1->le O ky (kas_item a i) (kas_item a j)) (sB:∀i j,p+n1<=i->i<=j->j<p+n1+n2->le O ky (kas_item a i) (kas_item a j))
  {Q:Bool->SortSt->Shared->Prop} (q:∀ak:SortSt,kindOf ak=κ->pendingOf ak=(P.setIfInBounds i (p,n1+n2,pw)).eraseIdxIfInBounds (i+1)->failedOf ak=none->(arrOf ak).toList.Perm a.toList->Up O ky p (arrOf ak) (n1+n2)->
   (∀t,t<p\/p+n1+n2<=t->kas_item (arrOf ak) t=kas_item a t)->Q true ak s):
  kasC (model prog w) A E (KI i) Q (SortSt.mk' κ a P g none) s:=by
 rw[GM];refine TL (W2 ?_);dsimp only;have e0:(pendingOf (SortSt.mk' κ a P g none))[i]?=some (p,n1,pw):=RA;have e1:(pendingOf (SortSt.mk' κ a P g none))[i+1]?=some (p+n1,n2,z):=NZ;rw[e0,e1];dsimp only;refine TL (Ac ?_);refine TL (aQ (aF (x:=a) (show p+n1<a.size by lia)) (TL ?_));refine jP T (λt=>kas_item a (p+t)) (λt ht=>aF (x:=a) ()) (λt ht=>hm _ ()) (hm (p+n1) ()) () (λi j gp hj hb=>?_) rfl (λk hk1 cU mW=>?_)
 ·unfold fY at hb ⊢;rw[WZ ∅]at hb ⊢;have:=sA (p+i) (p+j) () () ();cases zz:O.blt (ky (kas_item a (p+n1))) (ky (kas_item a (p+i))) with
  |false=>rfl
  |true=>have z2:O.blt (ky (kas_item a (p+n1))) (ky (kas_item a (p+j)))=true:=Vg zz this;have vy:(!O.blt (ky (kas_item a (p+n1))) (ky (kas_item a (p+j))))=true:=hb;rw[z2]at vy;cases vy
 have lo:∀t,p<=t->t<p+k->le O ky (kas_item a t) (kas_item a (p+n1)):=λt h0 ht=>by have zz:=cU (t-p) ();unfold fY at zz;rw[WZ ∅]at zz;have z2:(!O.blt (ky (kas_item a (p+n1))) (ky (kas_item a (p+(t-p)))))=true:=zz;rw[show p+(t-p)=t by lia]at z2;show O.blt (ky (kas_item a (p+n1))) (ky (kas_item a t))=false;simpa using z2
 have up:∀t,p+k<=t->t<p+n1->O.blt (ky (kas_item a (p+n1))) (ky (kas_item a t))=true:=λt h1 h2=>by have zz:=mW (t-p) () ();unfold fY at zz;rw[WZ ∅]at zz;have z2:(!O.blt (ky (kas_item a (p+n1))) (ky (kas_item a (p+(t-p)))))=false:=zz;rw[show p+(t-p)=t by lia]at z2;simpa using z2
 have A9:∀b:Array Keyed,(∀i j,i<j->j<b.size->le O ky (kas_item b i) (kas_item b j))->i8 O ky b.toList:=λb hb=>by
  refine V9.mpr λi j hi hj gp=>?_
  have e:∀k,(h:k<b.size)->kas_item b k=b.toList[k]'‹h›:=λk h=>by unfold kas_item;simp[Array.getD,h]
  rw[<-e i ‹hi›,<-e j ‹hj›];exact hb i j gp ‹hj›
 dsimp only;by_cases c:(n1-k==0)=true
 ·rw[W0 c];have c':n1-k=0:=by simpa using c
  refine TR (q _ rfl rfl rfl (Vi _) (λi j hi gp hj=>?_) λt _=>rfl);by_cases ci:j<p+n1
  ·exact sA i j hi gp ci
  ·by_cases cj:i<p+n1
   ·exact Ui (lo i hi ()) (sB (p+n1) j (TM _) () ())
   ·exact sB i j () () ()
 ·rw[WZ c];have c':¬n1-k=0:=by simpa using c
  refine TL (aQ (aF (x:=a) (show p+k+(n1-k)-1<a.size by lia)) (TL ?_));have el:p+k+(n1-k)-1=p+n1-1:=()
  refine jP T (λt=>kas_item a (p+n1+t)) (λt ht=>aF (x:=a) ()) (λt ht=>hm _ ()) (hm _ ()) () (λi j gp hj hb=>?_) rfl (λm hm1 hmlt hmge=>?_)
  ·unfold fY at hb ⊢;rw[W0 rfl]at hb ⊢;exact Vf (sB (p+n1+i) (p+n1+j) () () ()) hb
  have Q1:∀t,p+n1<=t->t<p+n1+m->O.blt (ky (kas_item a t)) (ky (kas_item a (p+n1-1)))=true:=λt h1 h2=>by have zz:=hmlt (t-(p+n1)) ();unfold fY at zz;rw[W0 rfl,el]at zz;have z2:O.blt (ky (kas_item a (p+n1+(t-(p+n1))))) (ky (kas_item a (p+n1-1)))=true:=zz;rw[show p+n1+(t-(p+n1))=t by lia]at z2;exact z2
  have PU:∀t,p+n1+m<=t->t<p+n1+n2->le O ky (kas_item a (p+n1-1)) (kas_item a t):=λt h1 h2=>by have zz:=hmge (t-(p+n1)) () ();unfold fY at zz;rw[W0 rfl,el]at zz;have z2:O.blt (ky (kas_item a (p+n1+(t-(p+n1))))) (ky (kas_item a (p+n1-1)))=false:=zz;rw[show p+n1+(t-(p+n1))=t by lia]at z2;exact z2
  have m0:m≠0:=λe=>by have z1:=PU (p+n1) () ();have z2:=up (p+n1-1) () ();exact KeyOrd.not_klt_of_kle z1 z2
  dsimp only;rw[WZ ‹m0›];have gx:∀t,t<n1-k->kas_item (a.extract (p+k) (p+n1)) t=kas_item a (p+k+t):=λt ht=>by unfold kas_item;simp[Array.getD,show t<p+n1-(p+k) by lia,show p+k+t<a.size by lia,show min (p+n1) a.size=p+n1 by lia]
  have gy:∀t,t<m->kas_item (a.extract (p+n1) (p+n1+m)) t=kas_item a (p+n1+t):=λt ht=>by unfold kas_item;simp[Array.getD,show p+n1+t<a.size by lia,show min (p+n1+m) a.size=p+n1+m by lia,ht]
  have sx:(a.extract (p+k) (p+n1)).size=n1-k:=by simp;lia
  have sy:(a.extract (p+n1) (p+n1+m)).size=m:=by simp;lia
  have MM:MP O ky Mem (a.extract (p+k) (p+n1)) (a.extract (p+n1) (p+n1+m)):=by
   refine⟨A9 _ λi j gp hj=>?_,A9 _ λi j gp hj=>?_,λi hi=>?_,λi hi=>?_,(),(),?_,λj hj=>?_⟩
   ·rw[gx i (),gx j ()];exact sA _ _ () () ()
   ·rw[gy i (),gy j ()];exact sB _ _ () () ()
   ·rw[gx i ()];exact hm _ ()
   ·rw[gy i ()];exact hm _ ()
   ·rw[gx 0 (),gy 0 ()];exact up (p+k) (TM _) ()
   ·rw[sx,gx (n1-k-1) (),gy j (),show p+k+(n1-k-1)=p+n1-1 by lia];exact Q1 _ () ()
  have lx:(a.extract (p+k) (p+n1)).toList=(a.toList.drop (p+k)).take (n1-k):=by have:=vm a (k:=p+k) (i:=p+n1);rw[show p+n1-(p+k)=n1-k by lia]at this;exact this
  have ly:(a.extract (p+n1) (p+n1+m)).toList=(a.toList.drop (p+n1)).take m:=lM a (p+n1) m;have fin:∀(v:Array Keyed)(ak:SortSt),kindOf ak=κ->arrOf ak=a->pendingOf ak=(P.setIfInBounds i (p,n1+n2,pw)).eraseIdxIfInBounds (i+1)->failedOf ak=none->sS O ky (a.extract (p+k) (p+n1)).toList (a.extract (p+n1) (p+n1+m)).toList v.toList->
    kasC (model prog w) A E (do
     modify λt=>SortSt.mk' (kindOf t) (back v (p+k) (arrOf t)) (pendingOf t) (gallopOf t) (failedOf t)
     let t<-get
     pure (failedOf t).isNone) Q ak s:=λv ak k1 k2 k3 k4 hv=>by
   refine TL (W4 (TL (W2 (TR ?_))));obtain⟨vp,vs⟩:=hv;have vl:v.toList.length=n1-k+m:=by
    rw[vp.length_eq,T6];simp only[Ua]
    lia
   have bl:(back v (p+k) a).toList=a.toList.take (p+k)++v.toList++a.toList.drop (p+n1+m):=by
    have:=nC v.toList (p+k) 0 a ();unfold back;refine Eq.trans ?_ (this.trans ?_)
    ·rfl
    ·rw[Nat.add_zero,vl,show p+k+(n1-k+m)=p+n1+m by lia]
   have al:a.toList.length=a.size:=Ua;have SC:a.toList=a.toList.take (p+k)++((a.toList.drop (p+k)).take (n1-k)++(a.toList.drop (p+n1)).take m)++a.toList.drop (p+n1+m):=by have b1:=lC (l:=a.toList) (i:=p+n1) (k:=p+k) ();rw[show p+n1-(p+k)=n1-k by lia]at b1;rw[T4,T4,<-dh (l:=a.toList) (i:=p+n1) (k:=m),<-b1,Wg]
   have pm:(back v (p+k) a).toList.Perm a.toList:=by
    rw[bl]
    conv=>rhs;rw[SC]
    rw[lx,ly]at vp;exact((Vi _).append vp).append (Vi _)
   have OE:∀e∈v.toList,(∃t,p+k<=t/\t<p+n1/\e=kas_item a t)\/(∃t,p+n1<=t/\t<p+n1+m/\e=kas_item a t):=λe he=>by
    rw[lx,ly]at vp;rcases Uc.mp (vp.mem_iff.mp he)with he|he
    ·obtain⟨t,t1,t2,t3,rfl⟩:=aX he;exact .inl ⟨t,t1,(),rfl⟩
    ·obtain⟨t,t1,t2,t3,rfl⟩:=aX he;exact .inr ⟨t,t1,(),rfl⟩
   have IK:∀t,t<p+k->kas_item (back v (p+k) a) t=kas_item a t:=λt ht=>by rw[item_list,item_list,bl,T4,zE (by rw[VR];lia)];rw[VB,VB,VF ht]
   have at2:∀t,p+k<=t->t<p+n1+m->kas_item (back v (p+k) a) t=v.toList.getD (t-(p+k)) (Value.none,Value.none):=λt h1 h2=>by
    have hl:(a.toList.take (p+k)).length=p+k:=by rw[VR];lia
    rw[item_list,bl,T4,zF (),hl,zE ()]
   have Np:∀t,p+n1+m<=t->kas_item (back v (p+k) a) t=kas_item a t:=λt h1=>by
    have hl:(a.toList.take (p+k)++v.toList).length=p+n1+m:=by rw[T6,VR];lia
    rw[item_list,item_list,bl,zF (),hl];rw[VB,VB,List.getElem?_drop];congr 2
    lia
   have xJ:∀t,p+k<=t->t<p+n1+m->(∃u,p+k<=u/\u<p+n1/\kas_item (back v (p+k) a) t=kas_item a u)\/(∃u,p+n1<=u/\u<p+n1+m/\kas_item (back v (p+k) a) t=kas_item a u):=λt h1 h2=>by rw[at2 t h1 h2];refine OE _ ?_;rw[VB,Ue ()];exact VG _
   have ss:Up O ky p (back v (p+k) a) (n1+n2):=λi j hi gp hj=>by
    show le O ky (kas_item (back v (p+k) a) i) (kas_item (back v (p+k) a) j);by_cases c1:j<p+k
    ·rw[IK i (),IK j c1];exact sA i j hi gp ()
    by_cases c2:j<p+n1+m
    ·by_cases c3:i<p+k
     ·rw[IK i c3];rcases xJ j () c2 with ⟨u,u1,u2,e⟩|⟨u,u1,u2,e⟩
      ·rw[e];exact sA i u hi () u2
      ·rw[e];exact Ui (lo i hi c3) (sB (p+n1) u (TM _) u1 ())
     ·rw[at2 i () (),at2 j () c2];exact Ih vs () ()
    ·rw[Np j ()];by_cases c3:i<p+k
     ·rw[IK i c3];exact Ui (lo i hi c3) (sB (p+n1) j (TM _) () ())
     by_cases c4:i<p+n1+m
     ·rcases xJ i () c4 with ⟨u,u1,u2,e⟩|⟨u,u1,u2,e⟩
      ·rw[e];exact Ui (sA u (p+n1-1) () () ()) (PU j () ())
      ·rw[e];exact sB u j u1 () ()
     ·rw[Np i ()];exact sB i j () gp ()
   have qq:=q (SortSt.mk' (kindOf ak) (back v (p+k) (arrOf ak)) (pendingOf ak) (gallopOf ak) (failedOf ak)) k1 k3 k4 (by rw[k2];exact pm) (by rw[k2];exact ss) (λt ht=>by
    show kas_item (back v (p+k) (arrOf ak)) t=_;rw[k2];rcases ht with ht|ht
    ·exact IK t ()
    ·exact Np t ())
   have e:(failedOf ak).isNone=true:=by rw[k4];rfl
   show Q (failedOf ak).isNone _ s;rw[e];exact qq
  by_cases d:n1-k<=m
  ·rw[W0 d];refine TL (C5 T MM rfl λv ak si hv=>?_);exact fin v ak si.1 si.2.1 si.2.2.1 si.2.2.2 hv
  ·rw[WZ d];refine TL (C3 T MM rfl λv ak si hv=>?_);exact fin v ak si.1 si.2.1 si.2.2.1 si.2.2.2 hv
end
section
variable{O:KeyOrd}{ky:Keyed->O.α}{Mem:Keyed->Prop}
variable{prog:Program}{w:World}{A:Around}{E:Value->Shared->Prop}{κ:SortKind}{s:Shared}{a:Array Keyed}
def Rn(O:KeyOrd)(ky:Keyed->O.α)(b:Array Keyed):List (Nat×Nat×Nat)->Nat->Nat->Prop
 |[],lo,hi=>lo=hi
 |x::r,lo,hi=>x.1=lo/\1<=x.2.1/\Up O ky lo b x.2.1/\Rn O ky b r (lo+x.2.1) hi
theorem Rn.le{b:Array Keyed}:∀{l:List (Nat×Nat×Nat)}{lo hi:Nat},Rn O ky b l lo hi->lo+l.length<=hi
 |[],lo,hi,h=>by have h:lo=hi:=h;simp;lia
 |x::r,lo,hi,h=>by
  obtain⟨_,h2,_,h4⟩:=h;have:=Rn.le h4;simp only[T8]
  lia
theorem Rn.app{b:Array Keyed}:∀{l m:List (Nat×Nat×Nat)}{lo hi:Nat},Rn O ky b (l++m) lo hi↔∃k,Rn O ky b l lo k/\Rn O ky b m k hi
 |[],m,lo,hi=>⟨λh=>⟨lo,rfl,h⟩,λ⟨k,h1,h2⟩=>by have h1:lo=k:=h1;subst h1;exact h2⟩
 |x::r,m,lo,hi=>by
  constructor
  ·rintro⟨h1,h2,h3,h4⟩;obtain⟨k,k1,k2⟩:=Rn.app.mp h4;exact⟨k,⟨h1,h2,h3,k1⟩,k2⟩
  ·rintro⟨k,⟨h1,h2,h3,h4⟩,k2⟩;exact⟨h1,h2,h3,Rn.app.mpr ⟨k,h4,k2⟩⟩
theorem Rn.congr{b c:Array Keyed}:∀{l:List (Nat×Nat×Nat)}{lo hi:Nat},Rn O ky b l lo hi->(∀t,lo<=t->t<hi->kas_item c t=kas_item b t)->Rn O ky c l lo hi
 |[],lo,hi,h,_=>h
 |x::r,lo,hi,⟨h1,h2,h3,h4⟩,e=>by have hl:=Rn.le h4;refine⟨h1,h2,λi j hi gp hj=>?_,Rn.congr h4 λt a b=>e t () b⟩;rw[e i () (),e j () ()];exact h3 i j hi gp hj
structure Ru(O:KeyOrd)(ky:Keyed->O.α)(κ:SortKind)(a:Array Keyed)(lo:Nat)(st:SortSt):Prop where
 k:kindOf st=κ
 f:failedOf st=none
 pm:(arrOf st).toList.Perm a.toList
 rn:Rn O ky (arrOf st) (pendingOf st).toList 0 lo
theorem Ru.size{lo:Nat}{st:SortSt}(h:Ru O ky κ a lo st):(arrOf st).size=a.size:=by have:=h.pm.length_eq;simpa using this
theorem Ru.mem{lo:Nat}{st:SortSt}(h:Ru O ky κ a lo st)(hb:∀x∈a.toList,Mem x){i:Nat}(hi:i<(arrOf st).size):Mem (kas_item (arrOf st) i):=by refine hb _ (h.pm.mem_iff.mp ?_);unfold kas_item;simp[Array.getD,hi]
theorem Ig{α:Type}{l:List α}{i:Nat}(h:i+1<l.length):∃l1 x y l2,l=l1++x::y::l2/\l1.length=i:=by refine⟨l.take i,l[i],l[i+1],l.drop (i+2),?_,by rw[VR];lia⟩;rw[<-Vp h,<-Vp (),Wg]
theorem tH{P:Array (Nat×Nat×Nat)}{l1 l2:List (Nat×Nat×Nat)}{x y v:Nat×Nat×Nat}{i:Nat}(h:P.toList=l1++x::y::l2)(hi:l1.length=i):((P.setIfInBounds i v).eraseIdxIfInBounds (i+1)).toList=l1++v::l2:=by
 have nT:P.size=l1.length+(l2.length+2):=by
  have:=WW List.length h;simp at this
  lia
 have e1:(P.setIfInBounds i v).toList=l1++v::y::l2:=by rw[Array.toList_setIfInBounds,h,<-hi,List.set_append_right _ _ (TM _)];simp
 unfold Array.eraseIdxIfInBounds;rw[dif_pos (by rw[Array.size_setIfInBounds];lia),Array.toList_eraseIdx,e1,<-hi];rw[List.eraseIdx_append_of_length_le ()];simp
theorem rT(T:Tells prog w A κ s O ky Mem)(hb:∀x∈a.toList,Mem x){lo i:Nat}{st:SortSt}(h:Ru O ky κ a lo st)(m9:lo<=a.size)(hi:i+1<(pendingOf st).size){Q:Bool->SortSt->Shared->Prop}
  (q:∀ak,Ru O ky κ a lo ak->(pendingOf ak).size+1=(pendingOf st).size->(∀t,lo<=t->kas_item (arrOf ak) t=kas_item (arrOf st) t)->Q true ak s):kasC (model prog w) A E (KI i) Q st s:=by
 obtain⟨l1,x,y,l2,hl,hlen⟩:=Ig (l:=(pendingOf st).toList) (i:=i) ‹hi›;have nT:=h.size;have rn:=h.rn;rw[hl]at rn;obtain⟨p,r1,r2⟩:=Rn.app.mp rn;obtain⟨xp,xn,xw⟩:=x;obtain⟨yp,yn,yw⟩:=y;obtain⟨e1,x1,x2,e2,y1,y2,r3⟩:=r2;have e1:xp=p:=e1;have e2:yp=p+xn:=e2;subst e1 e2;have h3:=r3.le;simp only at x1 x2 y1 y2 r3 h3;have eP:∀j,(pendingOf st)[j]?=(l1++(xp,xn,xw)::(xp+xn,yn,yw)::l2)[j]?:=λj=>by rw[<-hl,Array.getElem?_toList]
 have g1:(pendingOf st)[i]?=some (xp,xn,xw):=by rw[eP,UA (),show i-l1.length=0 by lia];rfl
 have g2:(pendingOf st)[i+1]?=some (xp+xn,yn,yw):=by rw[eP,UA (),show i+1-l1.length=1 by lia];rfl
 have Mv:st=SortSt.mk' κ (arrOf st) (pendingOf st) (gallopOf st) none:=by have e:st=SortSt.mk' (kindOf st) (arrOf st) (pendingOf st) (gallopOf st) (failedOf st):=rfl;rw[h.k,h.f]at e;exact e
 have z:=OD (E:=E) T (a:=arrOf st) (P:=pendingOf st) (g:=gallopOf st) g1 g2 () x1 y1 (λi hi=>h.mem hb hi) (λi j a b c=>x2 i j a b c) (λi j a b c=>y2 i j a b c) (Q:=Q) λak k1 k2 k3 k4 k5 k6=>?_
 ·rw[<-Mv]at z;exact z
 ·have ee:=tH (v:=(xp,xn+yn,xw)) hl hlen;refine q ak ⟨k1,k3,k4.trans h.pm,?_⟩ ?_ λt ht=>k6 t (.inr ())
  ·rw[k2,ee];refine Rn.app.mpr ⟨xp,r1.congr λt _ ht=>k6 t (.inl ht),rfl,by show 1<=xn+yn;lia,k5,?_⟩;have:Rn O ky (arrOf ak) l2 (xp+xn+yn) lo:=r3.congr λt ht _=>k6 t (.inr ht)
   rw[Nat.add_assoc]at this;exact this
  ·rw[k2,<-Ua,ee,<-Ua,hl];simp
   lia
theorem HC(T:Tells prog w A κ s O ky Mem)(hb:∀x∈a.toList,Mem x){lo size pw:Nat}{st:SortSt}(h:Ru O ky κ a lo st)(m9:lo<=a.size)(hp:1<=(pendingOf st).size){Q:Option Unit×Unit->SortSt->Shared->Prop}
  (q:∀ak,Ru O ky κ a lo ak->1<=(pendingOf ak).size->(∀t,lo<=t->kas_item (arrOf ak) t=kas_item (arrOf st) t)->Q (none,.unit) ak s):kasC (model prog w) A E (OR size pw) Q st s:=by
 unfold OR;refine eK (λ_ c ak=>c=(none,.unit)/\Ru O ky κ a lo ak/\1<=(pendingOf ak).size/\∀t,lo<=t->kas_item (arrOf ak) t=kas_item (arrOf st) t) ⟨rfl,h,hp,λ_ _=>rfl⟩ (λx c ak _ _ hI=>?_) (λc ak hI=>?_)
 ·obtain⟨rfl,h',CG,he⟩:=hI;refine TL (W2 ?_);by_cases c1:(pendingOf ak).size>1
  ·rw[W0 c1];have:(pendingOf ak)[(pendingOf ak).size-2]?=some (pendingOf ak)[(pendingOf ak).size-2]:=by simp
   rw[this];dsimp only;by_cases c2:(pendingOf ak)[(pendingOf ak).size-2].2.2<=pw
   ·rw[W0 c2];exact TR ⟨rfl,q _ h' CG he⟩
   ·rw[WZ c2];refine TL (rT T hb h' m9 () λeN h2 s2 e2=>?_);rw[WZ ∅];exact TR ⟨rfl,rfl,h2,(),λt ht=>(e2 t ht).trans (he t ht)⟩
  ·rw[WZ c1];exact TR ⟨rfl,q _ h' CG he⟩
 ·obtain⟨rfl,h',CG,he⟩:=hI;exact q _ h' CG he
theorem Rn.OQ{b:Array Keyed}{l:List (Nat×Nat×Nat)}{x y:Nat×Nat×Nat}{lo hi:Nat}(h:Rn O ky b (l++[x]) lo hi)(e1:y.1=x.1)(e2:y.2.1=x.2.1):Rn O ky b (l++[y]) lo hi:=by obtain⟨k,k1,h1,h2,h3,h4⟩:=Rn.app.mp h;exact Rn.app.mpr ⟨k,k1,e1.trans h1,by rw[e2];exact h2,by rw[e2];exact h3,by rw[e2];exact h4⟩
theorem snoc{α:Type}{P:Array α}(h:1<=P.size):∃l x,P.toList=l++[x]/\P.back?=some x:=by
 have dH:P.toList≠[]:=λz=>by have:=WW List.length z;simp at this;rw[this]at h;simp at h
 refine⟨P.toList.dropLast,P.toList.getLast dH,(Vo dH).symm,?_⟩;rw[<-Array.getLast?_toList,List.getLast?_eq_some_getLast dH]
theorem kh{α:Type}(f:α->α):∀(l:List α)(x:α),(l++[x]).modify l.length f=l++[f x]
 |[],x=>rfl
 |y::l,x=>by show y::(l++[x]).modify l.length f=y::(l++[f x]);rw[kh f l x]
theorem yD(T:Tells prog w A κ s O ky Mem)(hb:∀x∈a.toList,Mem x){size lo n:Nat}{st:SortSt}(h:Ru O ky κ a lo st)(m9:lo<=a.size)(hn:1<=n)(hu:Up O ky lo (arrOf st) n)(h0:1<=(pendingOf st).size\/lo=0){Q:ForInStep (Option Unit×Nat)->SortSt->Shared->Prop}
  (q:∀ak,Ru O ky κ a (lo+n) ak->1<=(pendingOf ak).size->Q (.yield (none,lo+n)) ak s):kasC (model prog w) A E (Mp size lo n) Q st s:=by
 unfold Mp;refine TL (W2 ?_);by_cases hp:1<=(pendingOf st).size
 ·obtain⟨l,x,hl,RJ⟩:=snoc hp;rw[RJ];obtain⟨s1,n1,w1⟩:=x;dsimp only;refine TL (HC T hb h m9 hp λeN h2 p2 e2=>?_);dsimp only;obtain⟨l2,x2,fZ,RK⟩:=snoc p2;have Sk:(pendingOf eN).size=l2.length+1:=by
   have:=WW List.length fZ;simp at this
   lia
  refine TL (W4 (TL (W4 (TR (q _ ⟨h2.k,h2.f,h2.pm,?_⟩ ?_)))))
  ·show Rn O ky (arrOf eN) (((pendingOf eN).modify ((pendingOf eN).size-1) _).push (lo,n,0)).toList 0 (lo+n);rw[Array.toList_push,Array.toList_modify,fZ,Sk];have em:(l2++[x2]).modify (l2.length+1-1) (λ(x:Nat×Nat×Nat)=>(x.1,x.2.1,power' size (2*s1+n1) (2*s1+n1+n1+n) size))=l2++[(x2.1,x2.2.1,power' size (2*s1+n1) (2*s1+n1+n1+n) size)]:=by rw[Nat.add_sub_cancel];exact kh _ _ _
   rw[show (λ(x:Nat×Nat×Nat)=>match x with|(st,len,_)=>(st,len,power' size (2*s1+n1) (2*s1+n1+n1+n) size))=λ(x:Nat×Nat×Nat)=>(x.1,x.2.1,power' size (2*s1+n1) (2*s1+n1+n1+n) size) from rfl,em];have rn:=h2.rn;rw[fZ]at rn;refine Rn.app.mpr ⟨lo,rn.OQ rfl rfl,rfl,hn,λi j hi gp hj=>?_,rfl⟩;rw[e2 i hi,e2 j ()];exact hu i j hi gp hj
  ·show 1<=(((pendingOf eN).modify ((pendingOf eN).size-1) _).push (lo,n,0)).size;rw[Array.size_push]
   lia
 ·have hz:(pendingOf st).size=0:=()
  have e:(pendingOf st).back?=none:=by rw[Array.back?_eq_none_iff];exact UF hz
  rw[e];have Oc:lo=0:=h0.resolve_left hp;subst Oc;refine TL (W4 (TR (q _ ⟨h.k,h.f,h.pm,?_⟩ ?_)))
  ·show Rn O ky (arrOf st) ((pendingOf st).push (0,n,0)).toList 0 (0+n);rw[Array.toList_push,UF hz];exact⟨rfl,hn,hu,rfl⟩
  ·show 1<=((pendingOf st).push (0,n,0)).size;rw[Array.size_push]
   lia
theorem Ij(T:Tells prog w A κ s O ky Mem)(hb:∀x∈a.toList,Mem x){mr lo:Nat}{st:SortSt}(h:Ru O ky κ a lo st)(m9:lo<a.size)(hm:1<=mr)(h0:1<=(pendingOf st).size\/lo=0){Q:ForInStep (Option Unit×Nat)->SortSt->Shared->Prop}
  (q:∀ak n,1<=n->lo+n<=a.size->Ru O ky κ a (lo+n) ak->1<=(pendingOf ak).size->Q (.yield (none,lo+n)) ak s):kasC (model prog w) A E (LM a.size mr lo) Q st s:=by
 unfold LM;rw[WZ ()];have nT:=h.size;have vy:∀x∈(arrOf st).toList,Mem x:=λx hx=>hb x (h.pm.mem_iff.mp hx)
 have b0:Bs κ (pendingOf st) lo (arrOf st) st:=⟨h.k,h.f,rfl,Vi _,λ_ _=>rfl⟩;have QO:∀{ak:SortSt},Bs κ (pendingOf st) lo (arrOf st) ak->Ru O ky κ a lo ak:=λb=>⟨b.k,b.f,b.pm.trans h.pm,by rw[b.p];exact h.rn.congr λt _ ht=>b.lw t ht⟩
 refine TL (Jw T vy b0 (m:=a.size-lo) () () λak k b' k1 k2 ku=>?_);dsimp only;by_cases c:k<mr
 ·rw[W0 c];refine TL (W3 (Xm ?_));refine TL (Jr T vy b' (n:=min (a.size-lo) mr) () k1 () ku λeN b2 u2=>?_);rw[WZ ∅];exact yD T hb (QO b2) () () u2 (by rw[b2.p];exact h0) λJb h3 p3=>q Jb _ () () h3 p3
 ·rw[WZ c];exact yD T hb (QO b') () () ku (by rw[b'.p];exact h0) λJb h3 p3=>q Jb _ () () h3 p3
theorem Kz{P:Array (Nat×Nat×Nat)}(h:1<P.size):ix P+1<P.size:=by
 have key:ix P=P.size-2-1\/ix P=P.size-2:=by
  unfold ix;generalize Option.any _ _=b;cases b
  ·exact .inr rfl
  ·exact .inl rfl
 rcases key with e|e<;>lia
theorem GU(T:Tells prog w A κ s O ky Mem)(hb:∀x∈a.toList,Mem x){st:SortSt}(h:Ru O ky κ a a.size st){Q:Option Unit×Unit->SortSt->Shared->Prop}
  (q:∀ak,Ru O ky κ a a.size ak->(pendingOf ak).size<=1->Q (none,.unit) ak s):kasC (model prog w) A E (MQ a.size) Q st s:=by
 unfold MQ;have hle:=h.rn.le;simp at hle;refine eK (λx c ak=>c=(none,.unit)/\Ru O ky κ a a.size ak/\(pendingOf ak).size<=max 1 (a.size-x)) ⟨rfl,h,()⟩ (λx c ak _ hx hI=>?_) (λc ak hI=>?_)
 ·obtain⟨rfl,h',hp⟩:=hI;refine TL (W2 ?_);by_cases c1:(pendingOf ak).size<=1
  ·rw[W0 c1];exact TR ⟨rfl,q _ h' c1⟩
  ·rw[WZ c1];refine TL (rT T hb h' (TM _) (Kz ()) λeN h2 s2 _=>?_);rw[WZ ∅];exact TR ⟨rfl,rfl,h2,()⟩
 ·obtain⟨rfl,h',hp⟩:=hI;exact q _ h' ()
theorem ml:∀(f n r:Nat),1<=n->1<=minRun' f n r
 |0,n,r,h=>by
  have e:minRun' 0 n r=n+r:=by kernel_rfl
  rw[e];lia
 |f+1,n,r,h=>by
  rw[minRun'_succ];split
  ·lia
  ·exact ml f (n/2) _ ()
theorem HQ(T:Tells prog w A κ s O ky Mem)(hb:∀x∈a.toList,Mem x)(h2:2<=a.size){g:Nat}{Q:Unit->SortSt->Shared->Prop}
  (q:∀ak:SortSt,failedOf ak=none->(arrOf ak).toList.Perm a.toList->i8 O ky (arrOf ak).toList->Q .unit ak s):kasC (model prog w) A E sortRuns' Q (SortSt.mk' κ a #[] g none) s:=by
 rw[Lp];unfold sR;refine TL (W2 ?_);have Qz:=ml a.size a.size 0 ();show kasC _ _ _ (do
  let r<-forIn [:a.size] ((none,0):Option Unit×Nat) λ_ r=>LM a.size (minRun' a.size a.size 0) r.2
  match r.1 with
  |some v=>pure v
  |none=>do
   let r<-MQ a.size
   match r.1 with
   |some v=>pure v
   |none=>pure .unit) _ _ _
 generalize minRun' a.size a.size 0=mr at Qz ⊢;refine TL (cq (Q:=λr ak s'=>s=s'/\r.1=none/\Ru O ky κ a a.size ak) (eK (λx c ak=>∃lo,c=(none,lo)/\x<=lo/\lo<=a.size/\Ru O ky κ a lo ak/\(1<=(pendingOf ak).size\/lo=0)) ⟨0,rfl,TM _,(),⟨rfl,rfl,Vi _,rfl⟩,.inr rfl⟩ (λx c ak _ hx hI=>?_) (λc ak hI=>?_)) (λr ak s' hI=>?_))
 ·obtain⟨lo,rfl,Sf,m9,h,h0⟩:=hI;by_cases c:lo<a.size
  ·exact Ij T hb h c Qz h0 λeN n n1 n2 h2 p2=>⟨rfl,lo+n,rfl,(),n2,h2,.inl p2⟩
  ·have e:lo=a.size:=()
   subst e;unfold LM;rw[W0 (TM _)];exact TR ⟨rfl,rfl,rfl,h⟩
 ·obtain⟨lo,rfl,Sf,m9,h,h0⟩:=hI;have e:lo=a.size:=()
  subst e;exact⟨rfl,rfl,h⟩
 ·obtain⟨rfl,e,h⟩:=hI;obtain⟨r1,r2⟩:=r;cases e;refine TL (GU T hb h λeN g1 g2=>TR (q eN g1.f g1.pm ?_));have rn:=g1.rn
  match hl:(pendingOf eN).toList,rn with
  |[],rn=>have rn:0=a.size:=rn;lia
  |[x],rn=>obtain⟨_,_,u,e⟩:=rn;have e:0+x.2.1=a.size:=e;exact Up.LL (g1.size.trans ()) u
  |x::y::r,_=>
   exfalso;have:=WW List.length hl;simp at this
   lia
end
end MxTim
end
section
namespace Mx
open PySem.W L2 PySem.SeqAt MxSort
theorem rE{α β:Type}{f:α->β}{l l':List β}(h:l.Perm l'):∀r:List α,l=r.map f->∃p:List α,p.Perm r/\l'=p.map f:=by
 induction h with
 |nil=>intro r e;exact⟨r,Vi _,e⟩
 |cons x h ih=>
  intro r e;cases r with
  |nil=>cases e
  |cons y r=>rw[UB]at e;injection e with e1 e2;obtain⟨p,p1,p2⟩:=ih r e2;exact⟨y::p,p1.cons y,by rw[UB,e1,p2]⟩
 |swap x y l=>
  intro r e;cases r with
  |nil=>cases e
  |cons a r=>
   cases r with
   |nil=>rw[UB]at e;injection e with e1 e2;cases e2
   |cons b r=>rw[UB,UB]at e;injection e with e1 e2;injection e2 with e3 e4;exact⟨b::a::r,List.Perm.swap a b r,by rw[UB,UB,e1,e3,e4]⟩
 |trans h1 h2 ih1 ih2=>intro r e;obtain⟨p,p1,p2⟩:=ih1 r e;obtain⟨q,q1,q2⟩:=ih2 p p2;exact⟨q,q1.trans p1,q2⟩
section
variable{prog:Program}{w:World}{A:Around}{E:Value->Shared->Prop}{s:Shared}
def Fe{O:KeyOrd}(vs:List Value)(key:Nat->O.α):Prop:=∀i j,i<vs.length->j<vs.length->vs.getD i Value.none=vs.getD j Value.none->key i=key j
open Classical in
noncomputable def GC{O:KeyOrd}(vs:List Value)(key:Nat->O.α)(k:Keyed):O.α:=if h:∃i,i<vs.length/\vs.getD i Value.none=k.1 then key (Classical.choose h) else key 0
theorem kQ{O:KeyOrd}{vs:List Value}{key:Nat->O.α}(hi:Fe vs key){i:Nat}(h:i<vs.length)(v:Value):GC vs key (vs.getD i Value.none,v)=key i:=by unfold GC;have ex:∃j,j<vs.length/\vs.getD j Value.none=((vs.getD i Value.none,v):Keyed).1:=⟨i,h,rfl⟩;rw[dif_pos ex];have z:=Classical.choose_spec ex;exact hi _ _ z.1 h z.2
theorem sJ(vs:List Value):(vs.toArray.zip vs.toArray).toList=(List.range vs.length).map λi=>(vs.getD i Value.none,vs.getD i Value.none):=by
 refine List.ext_getElem ∅ λi h1 h2=>?_
 simp at h1;simp[h1]
theorem HL{κ:SortKind}{vs:List Value}{O:KeyOrd}{key:Nat->O.α}(T:Tells O key (kas_ask prog w A κ vs) vs.length s)(hi:Fe vs key)(h2:2<=vs.length)(Rm:vs.length<1000000){Q:SortSt->Shared->Prop}
  (hG:∀(p:Array Nat)(ak:SortSt),Ord vs.length p->Up key p vs.length->(arrOf ak).map (·.2)=(p.toList.map λi=>vs.getD i Value.none).toArray->failedOf ak=none->Q ak s):
  wpAny (model prog w) A ((sortRuns').run (SortSt.mk' κ (vs.toArray.zip vs.toArray) #[] 7 none)) (λr s'=>Q r.2 s') E s:=by
 have hz:(vs.toArray.zip vs.toArray).size=vs.length:=by simp
 have T':MxTim.Tells prog w A κ s O (GC vs key) (λk=>∃i,i<vs.length/\k=(vs.getD i Value.none,vs.getD i Value.none)):=by rintro x y ⟨i,IW,rfl⟩ ⟨j,xA,rfl⟩ C hC;rw[kQ hi IW,kQ hi xA]at hC;exact T i j IW xA C hC
 have run:=MxTim.HQ (E:=E) T' (a:=vs.toArray.zip vs.toArray) (λx hx=>by
   rw[sJ]at hx;obtain⟨i,i1,i2⟩:=Us.mp hx;exact⟨i,UE.mp i1,i2.symm⟩) () (g:=7) (Q:=λ_ ak s'=>Q ak s') (λak f pm LL=>?_)
 ·exact run
 ·rw[sJ]at pm;obtain⟨p,p1,p2⟩:=rE pm.symm (List.range vs.length) rfl;have hl:p.length=vs.length:=by rw[p1.length_eq,VM]
  have cU:∀i∈p,i<vs.length:=λi hi=>UE.mp (p1.mem_iff.mp hi)
  refine hG p.toArray ak (by unfold MxSort.Ord;exact p1) (λi j gp hj=>?_) ?_ f
  ·by_cases e:i=j
   ·subst e;exact Ve _
   ·unfold MxTim.i8 at LL;rw[p2,Wa,V9]at LL;have z:=LL i j () () ();unfold MxTim.le at z;rw[kQ hi (cU _ (VG _)),kQ hi (cU _ (VG _))]at z;unfold t6;rw[show p.toArray.getD i 0=p[i] by simp[Array.getD,show i<p.length by lia],show p.toArray.getD j 0=p[j] by simp[Array.getD,show j<p.length by lia]];exact z
  ·apply UJ.mp;rw[Array.toList_map,p2,VV];rfl
theorem A8{a:Addr}{vs:List Value}{n:Nat}{P:PySem.Fin->Shared->Prop}(ho:s.heap.get? a=some (seqObj "list" vs.toArray n))(Rp:vs.length<1000000){O:KeyOrd}{key:Nat->O.α}
  (hk:2<=vs.length->∀h',(∀b o,b≠a->s.heap.get? b=some o->h'.get? b=some o)->∃κ:SortKind,(∀(Q:SortKind->Shared->Prop)(E:Value->Shared->Prop),Q κ {s with heap:=h'}->wpAny (model prog w) A (keyKind' vs.toArray) Q E {s with heap:=h'})/\
   Tells O key (kas_ask prog w A κ vs) vs.length {s with heap:=h'}/\Fe vs key)
  (h:∀(p:Array Nat)(h':Heap)(e:Nat),Ord vs.length p->Up key p vs.length->(∀b o,b≠a->s.heap.get? b=some o->h'.get? b=some o)->h'.get? a=some (seqObj "list" (p.toList.map λi=>vs.getD i Value.none).toArray e)->
   P (.done (.ret .none)) {s with heap:=h'}):wpAny (model prog w) A (Builtin.«list.sort» ⟨[.ref a],[]⟩) P E s:=by
 have ha:a<s.heap.objs.size:=TV ho;have EI:vs.length<=sizeLine:=by rw[Xa];lia
 rw[list_sort_plain];refine Tv (listItems_at ho rfl (Tv (listUpdate_at ho rfl ?_ (by rw[TF];exact EI) (WG _))));obtain⟨e1,Qn⟩:∃e1,(s.heap.update a (Obj.mapSeq λ_=>(#[]:Array Value))).get? a=some (seqObj "list" #[] e1):=⟨_,get?_update_seq ho λ_=>#[]⟩;refine Tv (seqEpoch_at Qn rfl (Tv (wpAny_newTuple ?_ EI)));refine Tv (wpAny_newList (Xf ?_) (WG _));show wpAny (model prog w) A _ P E {s with heap:=((s.heap.update a (Obj.mapSeq λ_=>(#[]:Array Value))).push (seqObj "tuple" vs.toArray 0)).push (seqObj "list" #[] 0)};generalize hh:((s.heap.update a (Obj.mapSeq λ_=>(#[]:Array Value))).push (seqObj "tuple" vs.toArray 0)).push (seqObj "list" #[] 0)=h1;have k1:∀b o,b≠a->s.heap.get? b=some o->h1.get? b=some o:=λb o hb e=>by rw[<-hh];exact Tx _ (Tx _ ((Uj s.heap _ (WH hb)).trans e))
 have N5:h1.get? a=some (seqObj "list" #[] e1):=by rw[<-hh];exact Tx _ (Tx _ Qn)
 dsimp only;have fin:∀(ak:SortSt)(p:Array Nat),Ord vs.length p->Up key p vs.length->(arrOf ak).map (·.2)=(p.toList.map λi=>vs.getD i Value.none).toArray->failedOf ak=none->
   wpAny (model prog w) A (do
    let touched:=(<-seqEpoch a) != e1
    Builtin.List.listUpdate (.ref a) λ_=>(arrOf ak).map (·.2)
    if let some e:=failedOf ak then rule "list.sort.comparison-raised";throw e
    if touched then rule "list.sort.modified";raiseError "ValueError" "list modified during sort"
    ret .none) P E {s with heap:=h1}:=λak p hp hu Gf hf=>by
  refine Tv (seqEpoch_at (s:={s with heap:=h1}) N5 rfl ?_);have nT:(p.toList.map λi=>vs.getD i Value.none).toArray.size=vs.length:=by rw[TF,TU,Ua,hp.size]
  rw[Gf];refine Tv (listUpdate_at (s:={s with heap:=h1}) N5 rfl ?_ (WG _) (by rw[nT];lia));rw[hf];simp only[bne_self_eq_false,UO,WY];obtain⟨c2,xq⟩:∃c2,(h1.update a (Obj.mapSeq λ_=>(p.toList.map λi=>vs.getD i Value.none).toArray)).get? a=some (seqObj "list" (p.toList.map λi=>vs.getD i Value.none).toArray c2):=⟨_,get?_update_seq N5 λ_=>_⟩;exact Tz (h p _ c2 hp hu (λb o hb e=>(Uj h1 _ (WH hb)).trans (k1 b o hb e)) xq)
 by_cases h2:2<=vs.length
 ·have qS:¬vs.toArray.size<2:=by rw[TF];lia
  rw[WZ qS,WZ qS];obtain⟨κ,RU,T,hi⟩:=hk h2 h1 k1;refine Tv (RU _ _ ?_);refine Tv (Xg (HL (s:={s with heap:=h1}) (Q:=λak s'=>s'={s with heap:=h1}/\∃p:Array Nat,Ord vs.length p/\Up key p vs.length/\(arrOf ak).map (·.2)=(p.toList.map λi=>vs.getD i Value.none).toArray/\failedOf ak=none) T hi h2 Rp
   (λp ak hp hu ho hf=>⟨rfl,p,hp,hu,ho,hf⟩)) ?_ λ_ _ e=>e)
  rintro⟨⟨⟩,ak⟩ s' ⟨rfl,p,hp,hu,Gf,hf⟩;exact fin ak p hp hu Gf hf
 ·have qS:vs.toArray.size<2:=by rw[TF];lia
  rw[W0 qS,W0 qS];refine Tv (Tz ?_);rw[StateT.run_pure];refine Tv (Tz ?_);refine fin (SortSt.mk' general' (vs.toArray.zip vs.toArray) #[] 7 none) (List.range vs.length).toArray (by unfold MxSort.Ord;simp) (λi j gp hj=>?_) ?_ rfl
  ·rw[show i=j by lia];exact Ve _
  ·apply UJ.mp;show (((vs.toArray.zip vs.toArray)).map (·.2)).toList=_
   match vs,h2 with
   |[],_=>simp
   |[v],_=>simp
   |_::_::_,h2=>exact absurd ∅ h2
end
inductive SK where
 |tt|ts|ti|s|i
 deriving DecidableEq
def SK.ok:SK->D->Prop
 |.tt,d=>∃f r,d= .tup (.tup f::r)
 |.ts,d=>∃f r,d= .tup (.str f::r)
 |.ti,d=>∃f r,d= .tup (.int f::r)
 |.s,d=>∃x,d= .str x
 |.i,d=>∃x,d= .int x
def SK.κ:SK->SortKind
 |.tt=>tuples' false
 |.ts=>tuples' true
 |.ti=>tuples' true
 |.s=>oneType'
 |.i=>oneType'
def SK.f:SK->String
 |.tt=>"tuple"
 |.ts=>"str"
 |.s=>"str"
 |_=>"int"
section
variable{P:Program}{w:World}{H:Hp}{prog:Program}{s:Shared}{A:Around}
theorem CS{b:Bool}{n m:Nat}{Q:Bool->Shared->Prop}{v wv:Value}{us vs:List Value}{d e:D}{ds es:List D}(z:Zp false A s (v::us) (wv::vs) (d::ds) (e::es))
  (hs:b=true->∀{E:Value->Shared->Prop},wpAny (model prog w) A (oneLt' true v wv) (λr s'=>r=D.lt d e/\s'=s) E s)
  (hlen:ds.length+m=es.length+n) (q:Q (D.fO (d::ds) (e::es)) s):KatLex prog w A b (decide (n<m)) Q ((v::us).zip (wv::vs)) 0 s:=by
 cases z with
 |cons he hl z'=>
  rw[Wo];rw[D.eC]at q;refine kat_cons (he prog w _ _ ?_);by_cases hde:d=e
  ·rw[(D.du d e).mpr hde];rw[W0 hde]at q;exact kat_yes (CQ z' 1 () hlen q)
  ·rw[show D.mV d e=false by rw[D.o4];exact Ug hde];rw[WZ hde]at q;refine kat_no ?_;cases b with
   |false=>rw[show (false&&0==0)=false by rfl];exact kat_one v wv (hl hde prog w _ _ q)
   |true=>rw[show (true&&0==0)=true by rfl];exact Xg (hs rfl) (λr s'⟨e1,e2⟩=>by subst e1 e2;exact q) λ_ _ x=>x
theorem pE(hok:fi P w H s.heap){n:Nat}(hu:A.units+n<cLine){b:Bool}{d0 e0:D}{dr er:List D}{x y:V}{u v:Value}(hd:D.dep (.tup (d0::dr))<=n+1)(hl:D.ff (.tup (d0::dr)) (.tup (e0::er)))
  (hs:b=true->(∃p q,d0= .str p/\e0= .str q)\/∃p q,d0= .int p/\e0= .int q) (hx:DV H x (.tup (d0::dr))) (hy:DV H y (.tup (e0::er))) (rx:RelV x u) (ry:RelV y v) {Q:Bool->Shared->Prop} {E:Value->Shared->Prop}
  (q:Q (D.lt (.tup (d0::dr)) (.tup (e0::er))) s):wpAny (model prog w) A (keyLt' (tuples' b) u v) Q E s:=by
 obtain⟨a,xs,q1,e1,e2⟩:=hx.ar;subst q1;cases rx;obtain⟨b',ys,q1,f1,f2⟩:=hy.ar;subst q1;cases ry;obtain⟨its,r1,o,ho,hc,k,CA⟩:=aV hok e1;obtain⟨cn,r2,o2,tW,xq,k2,tT⟩:=aV hok f1;obtain⟨x0,xr,rfl,IR,P5⟩:=e2.cons_inv;obtain⟨y0,yr,rfl,P6,Rl⟩:=f2.cons_inv;cases r1 with
 |cons r10 r1r=>
  cases r2 with
  |cons r20 r2r=>
   rename_i u0 ur v0 vr;have pq:D.e9 (d0::dr)<=n:=by unfold D.dep at hd;lia
   have Kk:D.iH (d0::dr) (e0::er):=by unfold D.ff at hl;exact hl
   have zz:Zp false A s (u0::ur) (v0::vr) (d0::dr) (e0::er):=Bz hok hu (λd e x y u v hd2 fZ CJ hy2 rx2 ry2=>CZ hok n d e x y u v A hd2 hu fZ CJ hy2 rx2 ry2) pq Kk e2 f2 (.cons r10 r1r) (.cons r20 r2r);refine kat_lt ho CA tW tT ?_;have l1:(u0::ur).toArray.size=(d0::dr).length:=by rw[TF,T8,T8,<-r1r.length,P5.length]
   have l2:(v0::vr).toArray.size=(e0::er).length:=by rw[TF,T8,T8,<-r2r.length,Rl.length]
   have q':Q (D.fO (d0::dr) (e0::er)) s:=by have z:=q;unfold D.lt at z;exact z
   refine CS zz (λhb=>?_) (by rw[l1,l2];simp only[T8];lia) q';intro E';rcases hs hb with ⟨p,q2,rfl,rfl⟩|⟨p,q2,rfl,rfl⟩
   ·have z1:=IR.str_inv;have z2:=P6.str_inv;subst z1 z2;obtain⟨t,rfl⟩:=r10;obtain⟨t',rfl⟩:=r20;exact oneLt_str ⟨by unfold D.lt;rfl,rfl⟩
   ·have z1:=IR.int_inv;have z2:=P6.int_inv;subst z1 z2;obtain⟨t,rfl⟩:=r10;obtain⟨t',rfl⟩:=r20;exact oneLt_int ⟨by unfold D.lt;rfl,rfl⟩
theorem nW(x y:Value):keyLt' oneType' x y=oneLt' true x y:=rfl
theorem CT(hok:fi P w H s.heap){n:Nat}(hu:A.units+n<cLine)(k:SK){d e:D}{x y:V}{u v:Value}(hd:D.dep d<=n+1)(hl:D.ff d e)(fd:k.ok d)(fe:k.ok e)(hx:DV H x d)(hy:DV H y e)(rx:RelV x u)(ry:RelV y v){Q:Bool->Shared->Prop}{E:Value->Shared->Prop}
  (q:Q (D.lt d e) s):wpAny (model prog w) A (keyLt' k.κ u v) Q E s:=by
 cases k with
 |tt=>obtain⟨f,r,rfl⟩:=fd;obtain⟨f',r',rfl⟩:=fe;exact pE (b:=false) hok hu hd hl (λz=>nomatch z) hx hy rx ry q
 |ts=>obtain⟨f,r,rfl⟩:=fd;obtain⟨f',r',rfl⟩:=fe;exact pE hok hu hd hl (λ_=>.inl ⟨_,_,rfl,rfl⟩) hx hy rx ry q
 |ti=>obtain⟨f,r,rfl⟩:=fd;obtain⟨f',r',rfl⟩:=fe;exact pE hok hu hd hl (λ_=>.inr ⟨_,_,rfl,rfl⟩) hx hy rx ry q
 |s=>obtain⟨f,rfl⟩:=fd;obtain⟨f',rfl⟩:=fe;have z1:=hx.str_inv;have z2:=hy.str_inv;subst z1 z2;obtain⟨t,rfl⟩:=rx;obtain⟨t',rfl⟩:=ry;show wpAny _ _ (keyLt' oneType' _ _) _ _ _;rw[nW];unfold D.lt at q;exact oneLt_str q
 |i=>obtain⟨f,rfl⟩:=fd;obtain⟨f',rfl⟩:=fe;have z1:=hx.int_inv;have z2:=hy.int_inv;subst z1 z2;obtain⟨t,rfl⟩:=rx;obtain⟨t',rfl⟩:=ry;show wpAny _ _ (keyLt' oneType' _ _) _ _ _;rw[nW];unfold D.lt at q;exact oneLt_int q
theorem vM(hok:fi P w H s.heap){k:SK}(hk:k= .tt\/k= .ts\/k= .ti):∀{xs:List V}{us:List Value}{ds:List D},bc H xs ds->aw xs us->(∀d∈ds,k.ok d)->
  ∃fs,KatTups s.heap us fs/\fs.length=us.length/\∀v∈fs,Looks (model prog w) s.heap (typeOf v) (.type k.f)
 |[],us,ds,_,r,_=>by cases r;exact⟨[],KatTups.nil,rfl,λv hv=>absurd hv ∅⟩
 |x::xs,us,ds,h,r,hf=>by
  cases r with
  |cons r0 rr=>
   cases ds with
   |nil=>unfold bc at h;exact h.elim
   |cons d ds=>
    unfold bc at h;obtain⟨fs,t,l,lk⟩:=vM hok hk h.2 rr λd hd=>hf d (TK _ hd)
    have sh:∃d0 dr,d= .tup (d0::dr)/\((k= .ts/\∃p,d0= .str p)\/(k= .ti/\∃p,d0= .int p)\/(k= .tt/\∃p,d0= .tup p)):=by
     have z:=hf d TN;rcases hk with rfl|rfl|rfl
     ·obtain⟨f,r,rfl⟩:=z;exact⟨_,_,rfl,.inr (.inr ⟨rfl,_,rfl⟩)⟩
     ·obtain⟨f,r,rfl⟩:=z;exact⟨_,_,rfl,.inl ⟨rfl,_,rfl⟩⟩
     ·obtain⟨f,r,rfl⟩:=z;exact⟨_,_,rfl,.inr (.inl ⟨rfl,_,rfl⟩)⟩
    obtain⟨d0,dr,rfl,xu⟩:=sh;obtain⟨a,ys,q1,e1,e2⟩:=h.1.ar;subst q1;cases r0;obtain⟨its,r1,o,ho,hc,kk,CA⟩:=aV hok e1;obtain⟨x0,xr,rfl,IR,P5⟩:=e2.cons_inv;cases r1 with
    |cons r10 r1r=>
     rename_i u0 ur;refine⟨u0::fs,KatTups.cons ho hc CA ∅ t,by simp[l],λv hv=>?_⟩;rcases TY.mp hv with rfl|hv
     ·rcases xu with ⟨hb,p,rfl⟩|⟨hb,p,rfl⟩|⟨hb,p,rfl⟩
      ·have z1:=IR.str_inv;subst z1;obtain⟨t',rfl⟩:=r10;rw[hb];exact Looks.of_pure rfl
      ·have z1:=IR.int_inv;subst z1;obtain⟨t',rfl⟩:=r10;rw[hb];exact Looks.of_pure rfl
      ·obtain⟨a2,y2,q2,g1,g2⟩:=IR.ar;subst q2;cases r10;obtain⟨cn,_,o2,tW,xq,_⟩:=aV hok g1;rw[hb];show Looks (model prog w) _ _ (Value.type "tuple");rw[<-xq];exact(Looks.ld tW).andThen .now
     ·exact lk v hv
theorem wD:∀{xs:List V}{us:List Value}{ds:List D},bc H xs ds->aw xs us->(∀d∈ds,SK.s.ok d)->∃ss,StrsAre us ss
 |[],us,ds,_,r,_=>by cases r;exact⟨[],.nil⟩
 |x::xs,us,ds,h,r,hf=>by
  cases r with
  |cons r0 rr=>
   cases ds with
   |nil=>unfold bc at h;exact h.elim
   |cons d ds=>
    unfold bc at h;obtain⟨ss,q⟩:=wD h.2 rr λd hd=>hf d (TK _ hd)
    obtain⟨y,rfl⟩:=hf d TN;have z1:=h.1.str_inv;subst z1;obtain⟨t,rfl⟩:=r0;exact⟨y::ss,.cons y t q⟩
theorem vF:∀{xs:List V}{us:List Value}{ds:List D},bc H xs ds->aw xs us->(∀d∈ds,SK.i.ok d)->∃ss,IntsAre us ss
 |[],us,ds,_,r,_=>by cases r;exact⟨[],.nil⟩
 |x::xs,us,ds,h,r,hf=>by
  cases r with
  |cons r0 rr=>
   cases ds with
   |nil=>unfold bc at h;exact h.elim
   |cons d ds=>
    unfold bc at h;obtain⟨ss,q⟩:=vF h.2 rr λd hd=>hf d (TK _ hd)
    obtain⟨y,rfl⟩:=hf d TN;have z1:=h.1.int_inv;subst z1;obtain⟨t,rfl⟩:=r0;exact⟨y::ss,.cons y t q⟩
theorem KC(hok:fi P w H s.heap)(k:SK){xs:List V}{us:List Value}{ds:List D}(hd:bc H xs ds)(r:aw xs us)(hf:∀d∈ds,k.ok d)(h2:2<=us.length){Q:SortKind->Shared->Prop}{E:Value->Shared->Prop}(q:Q k.κ s):
  wpAny (model prog w) A (keyKind' us.toArray) Q E s:=by
 have tup:k= .tt\/k= .ts\/k= .ti->wpAny (model prog w) A (keyKind' us.toArray) Q E s:=λhk=>by obtain⟨fs,t,l,lk⟩:=vM (prog:=prog) hok hk hd r hf;refine kat_kind t () lk (by rcases hk with rfl|rfl|rfl<;>rfl) ?_;rcases hk with rfl|rfl|rfl<;>exact q
 cases k with
 |tt=>exact tup (.inl rfl)
 |ts=>exact tup (.inr (.inl rfl))
 |ti=>exact tup (.inr (.inr rfl))
 |s=>
  obtain⟨ss,hs⟩:=wD hd r hf
  match us,h2,hs with
  |v1::v2::vs,_,hs=>rw[keyKind_strs hs];exact Tz q
 |i=>
  obtain⟨ss,hs⟩:=vF hd r hf
  match us,h2,hs with
  |v1::v2::vs,_,hs=>rw[keyKind_ints hs];exact Tz q
end
def ll(ds:List D):Prop:=ds.length<1000000/\(2<=ds.length->D.e9 ds<=100/\(∃k:SK,∀d∈ds,k.ok d)/\∀d∈ds,∀e∈ds,D.ff d e)
section
variable{X:Cx}{pins:List (Addr×Obj)}{σ:L2.St}{H:Hp}
theorem yd{s:Shared}{A:Around}{Q:PySem.Fin->Shared->Prop}{E:Value->Shared->Prop}(hu:A.units+148<cLine)(I:Inv X pins σ H s){ys:List V}{its:List Value}{ds:List D}(rv:aw ys its)(kc:bc H ys ds)(hc:ll ds)
  (q:∀(l:Addr)(zs:List V)(es:List D)(s':Shared),H l=none->bc H zs es->lu ds es->Inv X pins σ (upd H l (.lst zs)) s'->Q (.done (.ret (.ref l))) s'):
  wpAny (model X.prog X.w) A (do let l<-newList its;let _<-holding [l] (call (.builtin "list.sort") [l] []);ret l) Q E s:=by
 obtain⟨hlen,hc⟩:=hc;have hl:=rv.length;have fZ:=kc.length;have EI:its.length<=sizeLine:=by rw[Xa];lia
 refine Tv (wpAny_newList ?_ ‹EI›);have MN:(s.heap.push (seqObj "list" its.toArray 0)).get? s.heap.objs.size=some (seqObj "list" its.toArray 0):=TQ _ rfl;show wpAny _ _ _ _ _ {s with heap:=s.heap.push (seqObj "list" its.toArray 0)};have ne:∀b o,s.heap.get? b=some o->b≠s.heap.objs.size:=λb o e=>Um (TV e)
 refine Tv (Xf (Xd slot_list_sort (s:={s with heap:=s.heap.push (seqObj "list" its.toArray 0)}) ⟨_,MN,rfl⟩ entry_list_sort
  (A8 (s:={s with heap:=s.heap.push (seqObj "list" its.toArray 0)}) (O:=JB) (key:=λi=>ds.getD i (.int 0)) MN () (λh2 h' kk=>?_) λp h' e hp hup kk hD=>?_) (args_list_sort _)))
 ·obtain⟨RL,⟨k,hf⟩,BJ⟩:=hc ();have CD:fi X.prog X.w H h':=I.hok.kept λb o e=>kk b o (ne b o e) (Tx _ e)
  refine⟨k.κ,λQ' E' q'=>KC (s:={s with heap:=h'}) CD k kc rv hf () q',λi j hi hj C hC=>?_,λi j hi hj eij=>?_⟩
  ·obtain⟨di,JK,Mt⟩:=kc.get (i:=i) (x:=ys[i]'()) ∅;obtain⟨dj,Mu,NG⟩:=kc.get (i:=j) (x:=ys[j]'()) ∅;obtain⟨ui,Om,Pa⟩:=rv.get (i:=i) (x:=ys[i]'()) ∅;obtain⟨uj,On,Pb⟩:=rv.get (i:=j) (x:=ys[j]'()) ∅;unfold kas_ask;rw[show its.getD i Value.none=ui by simp[Om],show its.getD j Value.none=uj by simp[On]];have ki:ds.getD i (.int 0)=di:=by simp[JK]
   have kj:ds.getD j (.int 0)=dj:=by simp[Mu]
   have mi:di∈ds:=V2 JK;have mj:dj∈ds:=V2 Mu;refine CT (s:={s with heap:=h'}) CD (n:=100) (by show A.units+1+100<cLine;lia) k (TX (oX JK) ()) (BJ di mi dj mj) (hf di mi) (hf dj mj) Mt NG Pa Pb ?_;have P8:C (D.lt (ds.getD i (.int 0)) (ds.getD j (.int 0))) {s with heap:=h'}:=hC;rw[ki,kj]at P8;exact P8
  ·obtain⟨di,JK,Mt⟩:=kc.get (i:=i) (x:=ys[i]'()) ∅;obtain⟨dj,Mu,NG⟩:=kc.get (i:=j) (x:=ys[j]'()) ∅;obtain⟨ui,Om,Pa⟩:=rv.get (i:=i) (x:=ys[i]'()) ∅;obtain⟨uj,On,Pb⟩:=rv.get (i:=j) (x:=ys[j]'()) ∅;rw[show its.getD i Value.none=ui by simp[Om],show its.getD j Value.none=uj by simp[On]]at eij;subst eij;have ki:ds.getD i (.int 0)=di:=by simp[JK]
   have kj:ds.getD j (.int 0)=dj:=by simp[Mu]
   show ds.getD i (.int 0)=ds.getD j (.int 0);rw[ki,kj];rw[Pa.inj Pb]at Mt;exact Mt.inj NG
 ·refine⟨_,rfl,Tz ?_⟩;have CG:p.toList.Perm (List.range its.length):=hp;have MJ:∀i∈p.toList,i<ys.length:=λi hi=>by
   have:=UE.mp (CG.mem_iff.mp hi)
   lia
  have new:bW X.prog X.w (upd H s.heap.objs.size (.lst (p.toList.map λi=>ys.getD i .bg))) h' s.heap.objs.size (.lst (p.toList.map λi=>ys.getD i .bg)):=
   ⟨by rw[TU,CG.length_eq,VM];rw[Xa];lia,_,e,sG rv MJ,hD⟩
  have I2:=I.laid (t':=s.toks) (a:=s.heap.objs.size) (λb o q=>kk b o (ne b o q) (Tx _ q)) (TM _) new;refine q _ _ (p.toList.map λi=>ds.getD i (.int 0)) _ (I.hok.fresh (TM _)) (kc.map MJ) ⟨?_,?_⟩ I2
  ·have e1:=CG.map (λi=>ds.getD i (.int 0));rw[show its.length=ds.length by lia]at e1;rw[eD]at e1;exact e1
  ·have Oo:∀i j,i<=j->j<its.length->D.lt (ds.getD (p.getD j 0) (.int 0)) (ds.getD (p.getD i 0) (.int 0))=false:=hup;have nT:p.toList.length=its.length:=by rw[CG.length_eq,VM]
   rw[Wa,V9];intro i j hi hj gp;have:=Oo i j () ();rw[show p.getD i 0=p.toList[i] by simp at hi;simp[Array.getD,hi],show p.getD j 0=p.toList[j] by simp at hj;simp[Array.getD,hj]]at this;exact this
end
def HF(K:PySem.W.Frag):List V->Hp->VK->Prop:=λxs H Q=>∃a ys ds,xs=[.ref a]/\(dF K H a ys\/fj K H a ys)/\bc H ys ds/\ll ds/\∀l zs es,H l=none->bc H zs es->lu ds es->Q (.ref l) (upd H l (.lst zs))
theorem oQ{X:Cx}(hu:X.A.units+150<cLine):df X (.builtin "sorted") (HF X.K):=by
 intro pins s σ H xs us Q I r h;obtain⟨a,ys,ds,rfl,hq,kc,hc,q⟩:=h;obtain⟨u,rfl,ru⟩:=r.one;cases ru;have sh:∃(its:List Value)(T:String)(o:Obj)(n:Nat),aw ys its/\(T="list"\/T="tuple")/\s.heap.get? a=some o/\o.cls= .type T/\o.data= .seq its.toArray n:=by
  rcases hq with hq|hq
  ·obtain⟨its,rv,⟨o,n,ho,hc,_,hd⟩,_⟩:=I.list hq;exact⟨its,"list",o,n,rv,.inl rfl,ho,hc,hd⟩
  ·obtain⟨its,rv,⟨o,ho,hc,n,hd⟩,_⟩:=I.tuple hq;exact⟨its,"tuple",o,n,rv,.inr rfl,ho,hc,hd⟩
 obtain⟨its,T,o,n,rv,hT,ho,IU,hd⟩:=sh;have EI:its.length<=sizeLine:=by rw[Xa,<-rv.length,kc.length];have:=hc.1;lia
 refine Calls.call_function_entry kind_sorted plain_sorted entry_sorted (args_sorted1 _) ?_;unfold Builtin.«sorted»;refine Tv (m:=checkCount "sorted" 1 1 _) (Tz (Tv (wpAny_collect_seq a hT ho IU hd (λh1 k1=>?_) (by rw[TF];exact EI))));have I1:Inv X pins σ H {s with heap:=h1}:=I.kept (t':=s.toks) k1;exact yd (A:=X.A.in1) (by show X.A.units+1+148<cLine;lia) I1 rv kc hc λl zs es s' hl hz hso I2=>⟨_,rfl,.ref l,_,I2,rfl,q l zs es hl hz hso⟩
end Mx
end
section
namespace Mx
open PySem.W L2
theorem any_range(bs:List Bool):((List.range bs.length).any λi=>bs.getD i false)=bs.any id:=by
 have h:=eD bs false;have e:((List.range bs.length).map λi=>bs.getD i false).any id=bs.any id:=by rw[h]
 rw[Vl]at e;exact e
theorem all_range(bs:List Bool):((List.range bs.length).all λi=>bs.getD i false)=bs.all id:=by
 have h:=eD bs false;have e:((List.range bs.length).map λi=>bs.getD i false).all id=bs.all id:=by rw[h]
 rw[List.all_map]at e;exact e
theorem pS(ns:List Int):∀j,preSum (λi=>ns.getD i 0) j=(ns.take j).sum
 |0=>by simp[preSum]
 |j+1=>by
  rw[preSum,pS ns j];by_cases h:j<ns.length
  ·have e:ns.take (j+1)=ns.take j++[ns[j]]:=by rw[List.take_append_getElem h]
   rw[e,List.sum_append];simp[h]
  ·rw[Wi (),Wi ()];simp[show ns.length<=j by lia]
theorem Em{bs:List Bool}{its:List Value}(r:aw (bs.map V.bl) its){i:Nat}{v:Value}(h:its[i]?=some v):v= .bool (bs.getD i false):=by
 have hl:=r.length;have hi:i<bs.length:=by
  have:=(TJ.mp h).1;simp at hl
  lia
 obtain⟨u,hu,ru⟩:=r.get (i:=i) (x:=V.bl (bs.getD i false)) (by simp[hi]);rw[h]at hu;cases hu;exact ru
theorem int_at{ns:List Int}{its:List Value}(r:aw (ns.map V.int) its){i:Nat}{v:Value}(h:its[i]?=some v):∃t,v= .int (ns.getD i 0) t:=by
 have hl:=r.length;have hi:i<ns.length:=by
  have:=(TJ.mp h).1;simp at hl
  lia
 obtain⟨u,hu,ru⟩:=r.get (i:=i) (x:=V.int (ns.getD i 0)) (by simp[hi]);rw[h]at hu;cases hu;exact ru
section
variable{X:Cx}
theorem lY{prog:Program}{w:World}{A:Around}{E:Value->Shared->Prop}{s:Shared}{l:Addr}{items:Array Value}{Q:Value->Shared->Prop}(hl:s.heap.IsList l items)
  (h:∀s2:Shared,s2={s with heap:=s.heap.push {cls:=.type "list_iterator",data:=.fields #[.ref l,.int 0 0]}}->(s2.heap.IsListIter s.heap.objs.size l 0/\s2.heap.IsList l items)->(∀b∈[s.heap.objs.size,l],b<s2.heap.objs.size)->l≠s.heap.objs.size->
   (∀(b:Addr)(o:Obj),s.heap.get? b=some o->b∉[s.heap.objs.size]/\s2.heap.get? b=some o)->Q (.ref s.heap.objs.size) s2):wpAny (model prog w) A (pyIter (.ref l)) Q E s:=by
 have lt:l<s.heap.objs.size:=by obtain⟨_,e,_⟩:=hl;exact TV e
 refine Xk hl (h _ rfl ⟨⟨_,TQ _ rfl,rfl,rfl⟩,hl.push _⟩ (λb hb=>?_) (Um lt) λb o e=>⟨?_,Tx _ e⟩)
 ·show b<(s.heap.push _).objs.size;rw[Ul];simp only[TY,TZ,W8]at hb;have lt':l<s.heap.objs.size:=lt;rcases hb with rfl|rfl
  ·exact Wx _
  ·exact Ww lt'
 ·intro hb;have:=TV e;rw[Ur.mp hb]at this;exact Wu _ this
def OU(K:PySem.W.Frag):List V->Hp->VK->Prop:=λxs H Q=>∃(l:Addr)(bs:List Bool),xs=[.ref l]/\dF K H l (bs.map V.bl)/\Q (.bl (bs.any id)) H
def OT(K:PySem.W.Frag):List V->Hp->VK->Prop:=λxs H Q=>∃(l:Addr)(bs:List Bool),xs=[.ref l]/\dF K H l (bs.map V.bl)/\Q (.bl (bs.all id)) H
def O8(K:PySem.W.Frag):List V->Hp->VK->Prop:=λxs H Q=>∃(l:Addr)(ns:List Int),xs=[.ref l]/\dF K H l (ns.map V.int)/\Q (.int ns.sum) H
theorem yW(hc:X.calm=true):df X (.builtin "any") (OU X.K):=by
 intro pins s σ H xs us Q I r h;obtain⟨l,bs,rfl,hq,q⟩:=h;obtain⟨u,rfl,ru⟩:=r.one;cases ru;obtain⟨its,rv,pl,hz⟩:=I.list hq;have hl:its.length=bs.length:=by rw[<-rv.length];simp
 refine call_any_walk (lY pl.isList λs2 e st fp ne old=>?_);refine⟨_,_,_,_,_,_,λi=>bs.getD i false,rfl,Walks.list (A:=X.A.in1) (I.ok.hd hc) _ l ne its.toArray,st,λi v s' Q' E' hv hQ=>?_,λh' tk hk=>?_⟩
 ·have BL:its.toArray[i]?=some v:=hv;rw[Em rv (show its[i]?=some v by simpa using BL)];exact Xp hQ
 ·subst e;refine⟨.bl _,H,I.kept λb o e=>hk b o (old b o e).1 (old b o e).2,rfl,?_⟩;rw[show its.toArray.size=bs.length by simp[hl],any_range];exact q
theorem yV(hc:X.calm=true):df X (.builtin "all") (OT X.K):=by
 intro pins s σ H xs us Q I r h;obtain⟨l,bs,rfl,hq,q⟩:=h;obtain⟨u,rfl,ru⟩:=r.one;cases ru;obtain⟨its,rv,pl,hz⟩:=I.list hq;have hl:its.length=bs.length:=by rw[<-rv.length];simp
 refine call_all_walk (lY pl.isList λs2 e st fp ne old=>?_);refine⟨_,_,_,_,_,_,λi=>bs.getD i false,rfl,Walks.list (A:=X.A.in1) (I.ok.hd hc) _ l ne its.toArray,st,λi v s' Q' E' hv hQ=>?_,λh' tk hk=>?_⟩
 ·have BL:its.toArray[i]?=some v:=hv;rw[Em rv (show its[i]?=some v by simpa using BL)];exact Xp hQ
 ·subst e;refine⟨.bl _,H,I.kept λb o e=>hk b o (old b o e).1 (old b o e).2,rfl,?_⟩;rw[show its.toArray.size=bs.length by simp[hl],all_range];exact q
theorem yY(hc:X.calm=true):df X (.builtin "sum") (O8 X.K):=by
 intro pins s σ H xs us Q I r h;obtain⟨l,ns,rfl,hq,q⟩:=h;obtain⟨u,rfl,ru⟩:=r.one;cases ru;obtain⟨its,rv,pl,hz⟩:=I.list hq;have hl:its.length=ns.length:=by rw[<-rv.length];simp
 refine call_sum_walkG (lY pl.isList λs2 e st fp ne old=>?_);refine⟨_,_,_,_,_,_,λi=>ns.getD i 0,rfl,Walks.list (A:=X.A.in1) (I.ok.hd hc) _ l ne its.toArray,st,fp,λi v hv=>?_,λh' tk t' hk=>?_⟩
 ·have BL:its.toArray[i]?=some v:=hv;exact int_at rv ‹BL›
 ·subst e;refine⟨.int _,H,I.kept λb o e=>hk b o (old b o e).1 (old b o e).2,⟨t',rfl⟩,?_⟩;rw[show its.toArray.size=ns.length by simp[hl],pS,Wh];exact q
end
theorem gn{i:Nat}{v:V}{σ:L2.St}{H:Hp}{k:L2.St->Hp->Prop}(h:k (σ.set i (some v)) H):eR i v σ H k:=h
end Mx
end
section
namespace Mx
open PySem.W L2 HT
open PySem.AutoSeq1 (wpAny_loadPart')
theorem tuple_addW0(l b:Addr)(items gL:Array Value)(n n2:Nat)(dd BA:Option Addr)(sl BR:Array (Option Value))(S6:items.isEmpty=true):
  Meets (Builtin.«tuple.__add__» ⟨[.ref l,.ref b],[]⟩) (λ_ R s=>s.heap.get? l=some {cls:=.type "tuple",dict:=dd,data:=.seq items n,slots:=sl}/\s.heap.get? b=some {cls:=.type "tuple",dict:=BA,data:=.seq gL n2,slots:=BR}/\R (.ok (.ret (Value.ref b))) s):=
 .of_wp λprog w A R s h=>by
  obtain⟨hp,g,d,tk,os⟩:=s;obtain⟨hl,hb,h⟩:=h;have f2:=sub_tuple_tuple
  wp_walk using wpAny_loadPart' hl,wpAny_loadPart' hb
  exact⟨_,rfl,h⟩
theorem Ab{α:Type}(pre:List α)(x:α):pB (pre++[x]).length (-1)=some pre.length:=by
 unfold pB;rw[WZ ⋯,W0 (by simp;lia)];simp
 lia
theorem qD{α:Type}(pre:List α)(x:α):nB (pre++[x]) (-1)=some x:=by unfold nB;rw[Ab];simp
end Mx
end
section
namespace Mx
open PySem.W L2
def O3(K:PySem.W.Frag):List V->Hp->VK->Prop:=λxs H Q=>∃(l:Addr)(ns:List Int),xs=[.ref l]/\dF K H l (ns.map V.int)/\ns≠[]/\∀m,m∈ns->(∀a∈ns,m<=a)->Q (.int m) H
theorem wZ{X:Cx}(hc:X.calm=true):df X (.builtin "min") (O3 X.K):=by
 intro pins s σ H xs us Q I r h;obtain⟨l,ns,rfl,hq,dH,q⟩:=h;obtain⟨u,rfl,ru⟩:=r.one;cases ru;obtain⟨its,rv,pl,hz⟩:=I.list hq;have i1:IntsAre its ns:=intsAre_of rv;have Gb:=i1.numsOf;have ym:=i1.allInts;have hl:=pl.isList;obtain⟨xs,Ks⟩:=ym.items;have qS:numsOf (intItems xs).toList=ns:=by rw[<-Ks];exact Gb
 rw[nums_intItems]at qS;rw[Ks]at hl;have hlen:ns.length=xs.size:=by rw[<-qS,TU,Ua]
 have Gh:0<xs.size:=by rw[<-hlen];exact List.length_pos_iff.mpr dH
 refine min_intList (I.ok.hd hc) hl Gh λv h' tk hv hk=>?_
 obtain⟨t,rfl⟩:=intItems_at hv;obtain⟨h1,h2⟩:=argBest_lt (numAt xs) (xs.size-1);refine⟨.int _,H,I.kept hk,⟨t,rfl⟩,q _ ?_ λa ha=>?_⟩
 ·rw[numAt_eq,qS];exact getD_mem ()
 ·obtain⟨j,hj,rfl⟩:=mem_getD ha;rw[<-qS,<-numAt_eq];exact h2 j ()
def O0(K:PySem.W.Frag):List V->Hp->VK->Prop:=λxs H Q=>∃(l:Addr)(ns:List Int),xs=[.ref l]/\dF K H l (ns.map V.int)/\ns≠[]/\∀m,m∈ns->(∀a∈ns,a<=m)->Q (.int m) H
theorem wX{X:Cx}(hc:X.calm=true):df X (.builtin "max") (O0 X.K):=by
 intro pins s σ H xs us Q I r h;obtain⟨l,ns,rfl,hq,dH,q⟩:=h;obtain⟨u,rfl,ru⟩:=r.one;cases ru;obtain⟨its,rv,pl,hz⟩:=I.list hq;have i1:IntsAre its ns:=intsAre_of rv;have Gb:=i1.numsOf;have ym:=i1.allInts;have hl:=pl.isList;obtain⟨xs,Ks⟩:=ym.items;have qS:numsOf (intItems xs).toList=ns:=by rw[<-Ks];exact Gb
 rw[nums_intItems]at qS;rw[Ks]at hl;have hlen:ns.length=xs.size:=by rw[<-qS,TU,Ua]
 have Gh:0<xs.size:=by rw[<-hlen];exact List.length_pos_iff.mpr dH
 refine max_intList (I.ok.hd hc) hl Gh λv h' tk hv hk=>?_
 obtain⟨t,rfl⟩:=intItems_at hv;obtain⟨h1,h2⟩:=argBest_gt (numAt xs) (xs.size-1);refine⟨.int _,H,I.kept hk,⟨t,rfl⟩,q _ ?_ λa ha=>?_⟩
 ·rw[numAt_eq,qS];exact getD_mem ()
 ·obtain⟨j,hj,rfl⟩:=mem_getD ha;rw[<-qS,<-numAt_eq];exact h2 j ()
end Mx
end
section
namespace L2
def fh(e:Expr)(d:Nat)(it acc:Value)(env:Env)(target:Expr)(ifs:List Expr)(p:Pos)(body:Sem Unit):Sem PySem.Fin:=do
 standAt p
 match<-pyNext it with
 |none=>pure (.done .next)
 |some v=>
  letOwnedTupleGo target it v
  assign target env v
  let mut ok:=true
  for c in ifs do
   if ok then ok<-isTrue c env (eval c env)
  if ok then body
  again (.compLoop e d it acc env)
theorem oT{prog:Program}{w:World}{A:Around}{R:Result->Shared->Prop}{s:Shared}{elt target:Expr}{gens:List Comprehension}{scope:Scope}{pos:Pos}{d:Nat}{ifs:List Expr}{p:Pos}{it acc:Value}{env:Env}{body:Sem Unit}(heq:compTurn (.ListComp elt gens scope pos) d it acc env=fh (.ListComp elt gens scope pos) d it acc env target ifs p body){EE:Value->Shared->Prop}
  (JY:∀x s',EE x s'->notedBy (model prog w) A env (λx s'=>R (.error x) s') x s') (I:Nat->Shared->Prop)
  (turn:∀n s,I n s->wpAny (model prog w) A (pyNext it) (λr s₁=>match r with
   |none=>R (.ok .next) s₁
   |some v=>wpAny (model prog w) A (letOwnedTupleGo target it v) (λ_ s₁'=>wpAny (model prog w) A (assign target env v) (λ_ s₂=>
     wpAny (model prog w) A (forIn ifs true λc r=>if r=true then do let ok<-isTrue c env (eval c env);pure (ForInStep.yield ok) else pure (ForInStep.yield r)) (λok s₃=>
      if ok=true then wpAny (model prog w) A body (λ_ s₄=>∃m,m<n/\I m s₄) EE s₃
      else∃m,m<n/\I m s₃) EE s₂) EE s₁') EE s₁) EE s)
  (n:Nat) (h:I n s):codeAny (model prog w) A (.compLoop (.ListComp elt gens scope pos) d it acc env) R s:=by
 refine codeAny_loop rfl I (λn s hI=>?_) n h;show wpAny _ A ((compTurn (.ListComp elt gens scope pos) d it acc env).onRaise (λx=>do noteFrame x env;theTreesLotGoes x)) _ _ s;refine wpAny_noted ?_;rw[heq];unfold fh;refine Tv (Xo (Tv (Xg (turn n s hI) (λr s₁ h₁=>?_) JY)));cases r with
 |none=>exact Tz h₁
 |some v=>
  refine Tv (Xg h₁ (λ_ s₁' h₁'=>?_) JY);refine Tv (Xg h₁' (λ_ s₂ h₂=>Tv (Xg h₂ (λok s₃ h₃=>?_) JY)) JY);cases ok with
  |false=>exact Tz ⟨rfl,h₃⟩
  |true=>exact Tv (Xg h₃ (λ_ s₄ h₄=>Tz ⟨rfl,h₄⟩) JY)
def iM(elt:Expr)(acc:Value)(env:Env):Sem Unit:=do let _<-call (.builtin "list.append") [acc,<-eval elt env]
def nextOf(e:Expr)(d:Nat)(iter:Expr)(acc:Value)(env:Env):Sem Unit:=do
 let x<-eval iter env
 standAt iter.pos
 let x<-foldedSetIterable iter env x
 let _<-runOwn (.compStart e d (<-holding [x] (pyIter x)) acc env) env
theorem sv(elt target iter:Expr)(ifs:List Expr)(scope:Scope)(pos:Pos)(it acc:Value)(env:Env):
  compTurn (.ListComp elt [⟨target,iter,ifs,0⟩] scope pos) 0 it acc env=fh (.ListComp elt [⟨target,iter,ifs,0⟩] scope pos) 0 it acc env target ifs iter.pos (iM elt acc env):=by rfl
theorem sC(elt target iter bj cG:Expr)(ifs cY:List Expr)(scope:Scope)(pos:Pos)(it acc:Value)(env:Env):
  compTurn (.ListComp elt [⟨target,iter,ifs,0⟩,⟨bj,cG,cY,0⟩] scope pos) 0 it acc env=
   fh (.ListComp elt [⟨target,iter,ifs,0⟩,⟨bj,cG,cY,0⟩] scope pos) 0 it acc env target ifs iter.pos (nextOf (.ListComp elt [⟨target,iter,ifs,0⟩,⟨bj,cG,cY,0⟩] scope pos) 1 cG acc env):=by
 unfold fh nextOf;simp only[bind_assoc,pure_bind];rfl
theorem D7(elt target iter bj cG:Expr)(ifs cY:List Expr)(scope:Scope)(pos:Pos)(it acc:Value)(env:Env):
  compTurn (.ListComp elt [⟨target,iter,ifs,0⟩,⟨bj,cG,cY,0⟩] scope pos) 1 it acc env=
   fh (.ListComp elt [⟨target,iter,ifs,0⟩,⟨bj,cG,cY,0⟩] scope pos) 1 it acc env bj cY cG.pos (iM elt acc env):=by rfl
def Le(σ σ2:St):Prop:=σ2.length=σ.length/\∀(j:Nat)(v:V),σ[j]?=some (some v)->σ2[j]?=some (some v)
theorem Le.refl(σ:St):Le σ σ:=⟨rfl,λ_ _ h=>h⟩
def GL(σ0:St)(g:TG):Prop:=∀x σ H(Q:St->Hp->Prop),Le σ0 σ->g x σ H Q->g x σ H λσ2 H2=>Le σ0 σ2/\Q σ2 H2
def Je(σ0:St)(g:wO):Prop:=∀x σ H(Q:St->Hp->Prop),Le σ0 σ->g x σ H Q->g x σ H λσ2 H2=>Le σ0 σ2/\Q σ2 H2
theorem Le.set{k:Nat}{σ0 σ:St}{v:Option V}(h:σ0[k]?=some none)(q:Le σ0 σ):Le σ0 (σ.set k v):=⟨by simpa using q.1,λj w hj=>by
 rw[T7 (by rintro rfl;rw[h]at hj;cases hj)];exact q.2 j w hj⟩
theorem Cq{σ0:St}{k:Nat}(h:σ0[k]?=some none):GL σ0 (eR k):=λx σ H Q p q=>⟨p.set h,q⟩
theorem Cr{σ0:St}:Je σ0 F4:=λx σ H Q p q=>⟨q.1,p,q.2⟩
theorem zJ{σ0:St}{k:Nat}{u:wO}(h:σ0[k]?=some none)(hu:Je σ0 u):Je σ0 (zC (eR k) u):=λx σ H Q p q=>by obtain⟨v,r,e,q⟩:=q;exact⟨v,r,e,hu r _ H Q (p.set h) q⟩
theorem F7{σ0:St}{K:PySem.W.Frag}{n:Nat}{u:wO}(hu:Je σ0 u):GL σ0 (F5 K n u):=λx σ H Q p q=>by obtain⟨a,xs,e,h1,h2,q⟩:=q;exact⟨a,xs,e,h1,h2,hu xs σ H Q p q⟩
theorem Inv.le{X:Cx}{pins:List (Addr×Obj)}{σ σ2:St}{H:Hp}{s:Shared}(I:Inv X pins σ2 H s)(h:Le σ σ2):Inv X pins σ H s:=I.weak h.1.symm h.2
abbrev TB:=St->Hp->(Hp->Prop)->Prop
def PB(X:Cx)(body:Sem Unit)(tb:TB):Prop:=∀(pins:List (Addr×Obj))(s:Shared)(σ:St)(H:Hp)(Q:Hp->Prop),Inv X pins σ H s->tb σ H Q->wpAny (model X.prog X.w) X.A body (λ_ s'=>∃H',Inv X pins σ H' s'/\Q H') X.xe s
def qy(J:It)(g:TG)(tt:TT)(tb:TB)(σ0:St)(F:Hp->Prop)(H1:Hp):Prop:=
 ∃W:Nat->Nat->Hp->Prop,(∃m,W 0 m H1)/\∀i m H,W i m H->
  (J.stop i H/\F H)\/(J.go i H/\∀x H',J.yld i H x H'->g x σ0 H' λσ2 H2=>tt σ2 H2 λb H3=>if b=true then tb σ2 H3 λH4=>∃m',m'<m/\W (i+1) m' H4 else∃m',m'<m/\W (i+1) m' H3)
section
variable{X:Cx}{g:TG}{tt:TT}{tb:TB}
theorem nM(hc:X.calm=true){elt target:Expr}{gens:List Comprehension}{scope:Scope}{pos:Pos}{d:Nat}{ifs:List Expr}{p:Pos}{acc:Value}{body:Sem Unit}{R:Result->Shared->Prop}{pins:List (Addr×Obj)}{σ0:St}{H0:Hp}{s0:Shared}{it:Addr}{fp:List Addr}{tn:Nat->Heap->Prop}{J:It}{F:Hp->Prop}
  (heq:compTurn (.ListComp elt gens scope pos) d (.ref it) acc X.env=fh (.ListComp elt gens scope pos) d (.ref it) acc X.env target ifs p body) (hx:∀x s',X.xe x s'->notedBy (model X.prog X.w) X.A X.env (λx s'=>R (.error x) s') x s')
  (hg:PG X target g) (mW:GL σ0 g) (ht:Ed X ifs tt) (hb:PB X body tb) (I0:Inv X pins σ0 H0 s0) (T:Turn X.prog X.w X.K target J fp it tn) (dS:tn 0 s0.heap) (f0:∀b∈fp,i6 X pins H0 b)
  (hW:qy J g tt tb σ0 F H0) (fin:∀s' H',Inv X pins σ0 H' s'->F H'->R (.ok .next) s'):codeAny (model X.prog X.w) X.A (.compLoop (.ListComp elt gens scope pos) d (.ref it) acc X.env) R s0:=by
 obtain⟨W,⟨m0,w0⟩,turn⟩:=hW;have qd:∀{H':Hp},(∀b∈fp,H' b=none)->∀b∈fp,i6 X pins H' b:=λhn b hb=>⟨hn b hb,(f0 b hb).2⟩
 refine oT heq hx (λn s'=>∃i H',Inv X pins σ0 H' s'/\tn i s'.heap/\(∀b∈fp,H' b=none)/\W i n H') ?_ m0 ⟨0,H0,I0,dS,λb hb=>(f0 b hb).1,w0⟩;rintro n s4 ⟨i,H4,I4,QI,P4,w4⟩;rcases turn i n H4 w4 with ⟨stop,qn⟩|⟨go,step⟩
 ·refine bV (T.done X rfl rfl rfl hc i pins s4 _ H4 X.xe I4 (qd P4) QI stop) λr s5⟨hr,I5⟩=>?_
  subst hr;exact fin s5 H4 I5 qn
 ·refine bV (T.item X rfl rfl rfl hc i pins s4 _ H4 X.xe I4 (qd P4) QI go) λr s5⟨u,hr,h5⟩=>?_
  subst hr;refine bV h5 λ_ s6⟨x,H6,I6,r6,y6,Po,Rh⟩=>?_
  have QY:=I6.pinned (qd Rh) (T.obj _ _ Po);have again:∀{s7:Shared}{σ7:St}{H7:Hp}{m7:Nat},Inv X (pins++mC fp s6.heap) σ7 H7 s7->Le σ0 σ7->m7<n->W (i+1) m7 H7->
    ∃m,m<n/\∃i H',Inv X pins σ0 H' s7/\tn i s7.heap/\(∀b∈fp,H' b=none)/\W i m H':=λ {s7 σ7 H7 m7} I7 hσ hm w7=>by
   refine⟨m7,hm,i+1,H7,I7.jE.le hσ,T.keep _ _ _ Po λb hb o e=>(I7.pin (b,o) (Uo _ (Uo _ (fP hb e)))).1,λb hb=>?_,w7⟩;obtain⟨o,e,d⟩:=T.obj _ _ Po b hb;exact(I7.pin (b,o) (Uo _ (Uo _ (fP hb e)))).2.1
  refine bV (hg _ s6 _ H6 x u _ QY r6 (mW x _ H6 _ (Le.refl _) (step x H6 y6))) λ_ s7⟨σ7,H7,I7,Qx,q7⟩=>?_
  refine bV (ht _ s7 σ7 H7 _ I7 q7) λb s8⟨H8,I8,q8⟩=>?_
  cases b with
  |false=>rw[WZ ∅]at q8 ⊢;obtain⟨m',hm,w8⟩:=q8;exact again I8 Qx hm w8
  |true=>
   rw[W0 rfl]at q8 ⊢;refine bV (hb _ s8 σ7 H8 _ I8 q8) λ_ s9⟨H9,I9,m',hm,w9⟩=>?_
   exact again I9 Qx hm w9
def wH(D:Addr)(te:TE):TB:=λσ H Q=>te σ H λv H4=>∃iz,H4 D=some (.lst iz)/\iz.length<sizeLine/\Q (upd H4 D (.lst (iz++[v])))
theorem kU{elt:Expr}{te:TE}{D:Addr}(he:PE X elt te):PB X (iM elt (.ref D) X.env) (wH D te):=by intro pins s σ H Q I h;unfold iM;refine Tv (bV (he pins s σ H _ I h) λy s9⟨v,H9,I9,r9,iz,Rv,hz,q⟩=>?_);refine Tv (bV (og _ s9 σ H9 (.ref D) [v] (.ref D) [y] (λ_ H'=>H'=upd H9 D (.lst (iz++[v]))) I9 rfl (.cons r9 .nil) ⟨D,iz,v,rfl,rfl,Rv,hz,rfl⟩) λ_ s10⟨_,SU,QW,_,Q8⟩=>?_);subst Q8;exact Tz ⟨_,QW,q⟩
theorem oU{prog:Program}{w:World}{A:Around}{R:Result->Shared->Prop}{s:Shared}{elt target iter bj cG:Expr}{ifs cY:List Expr}{scope:Scope}{pos:Pos}{it acc:Value}{env:Env}
  (h0:codeAny (model prog w) A (.compLoop (.ListComp elt [⟨target,iter,ifs,0⟩,⟨bj,cG,cY,0⟩] scope pos) 1 it acc env) R s)
  (h:wpAny (model prog w) A (pyIter it) (λkF s'=>codeAny (model prog w) A (.compLoop (.ListComp elt [⟨target,iter,ifs,0⟩,⟨bj,cG,cY,0⟩] scope pos) 1 kF acc env) R s')
   (notedBy (model prog w) A env λx s'=>R (.error x) s') s):
  codeAny (model prog w) A (.compStart (.ListComp elt [⟨target,iter,ifs,0⟩,⟨bj,cG,cY,0⟩] scope pos) 1 it acc env) R s:=by
 refine codeAny_of_tree ?_;show wpAny _ _ ((compStart (.ListComp elt [⟨target,iter,ifs,0⟩,⟨bj,cG,cY,0⟩] scope pos) 1 it acc env).onRaise (λx=>do noteFrame x env;standAt theWindowsPlace)) _ _ s;refine wpAny_notedAt ?_;unfold compStart;show wpAny _ _ (ask >>=_) _ _ s;refine Tv (wpAny_askSetting (wpAny_ite ?_));split
 ·first
   |exact Tv (Tz (Tz (And.intro rfl h0)))
   |exact Tz (And.intro rfl h0)
 ·first
   |exact Tv (Xm (Tv (Xo (Tv (Xg h (λkF s' h'=>Tz (And.intro rfl h')) λ_ _ x=>x)))))
   |(refine Tv (Xm ?_);show wpAny _ _ (standAt cG.pos >>=_) _ _ s;exact Tv (Xo (Tv (Xg h (λkF s' h'=>Tz (And.intro rfl h')) λ_ _ x=>x))))
def LX(wi:TI)(g:TG)(tt:TT)(tb:TB):TB:=λσ H Q=>GL σ g/\wi σ H λJ H1=>qy J g tt tb σ Q H1
theorem vW{elt target iter bj cG:Expr}{ifs cY:List Expr}{scope:Scope}{pos:Pos}{acc:Value}{wi:TI}{te:TB}(hc:X.calm=true)(hp:PassesOwn (model X.prog X.w) X.A X.env X.xe)(hi:PI X bj cG wi)(hg:PG X bj g)(ht:Ed X cY tt)(he:PB X (iM elt acc X.env) te)
  (hs:∀x,foldedSetIterable cG X.env x=pure x:=by intro _;rfl):PB X (nextOf (.ListComp elt [⟨target,iter,ifs,0⟩,⟨bj,cG,cY,0⟩] scope pos) 1 cG acc X.env) (LX wi g tt te):=by
 intro pins s σ H Q I ⟨mW,h⟩;unfold nextOf;refine Tv (bV (hi pins s σ H _ I h) λx s₁ h₁=>?_);refine Tv (Xo (Tv (wpAny_of_eq (hs x) (Tv (Xf (bV h₁ λqv s₂ h₂=>?_))))));obtain⟨it,fp,tn,J,H2,e,I2,T,eN,f2,hW⟩:=h₂;subst e;have loop:codeAny (model X.prog X.w) X.A (.compLoop (.ListComp elt [⟨target,iter,ifs,0⟩,⟨bj,cG,cY,0⟩] scope pos) 1 (.ref it) acc X.env) (λr s'=>match r with|.ok f=>∃H',Inv X pins σ H' s'/\Q H'|.error e=>cameBackBy (model X.prog X.w) X.A X.env X.xe e s') s₂:=
  nM hc (D7 ..) (λx s' q=>hp x s' q) hg mW ht he I2 T eN f2 hW λs' H' I' q=>⟨H',I',q⟩
 have run:wpAny (model X.prog X.w) X.A (runOwn (.compStart (.ListComp elt [⟨target,iter,ifs,0⟩,⟨bj,cG,cY,0⟩] scope pos) 1 (.ref it) acc X.env) X.env) (λ_ s'=>∃H',Inv X pins σ H' s'/\Q H') X.xe s₂:=
  wpAny_runOwn (oU loop (T.self _ 0 _ _ _ eN loop))
 exact Tv (Xg run (λf s' q=>Tz q) λ_ _ z=>z)
end
theorem hJ{x:Str}{c:Addr}:∀(names:List (Str×NameKind))(n:Nat)(acc:List (Str×Addr)),(cellsFrom n names acc).lookup x=some c->(n<=c/\(x,NameKind.cell)∈names)\/acc.lookup x=some c
 |[],n,acc,h=>.inr h
 |(y,k)::r,n,acc,h=>by
  unfold cellsFrom at h;by_cases hk:(k==NameKind.cell)=true
  ·rw[W0 hk]at h;rcases hJ r (n+1) _ h with ⟨h1,h2⟩|h1
   ·exact .inl ⟨TX (Wt _) h1,TK _ h2⟩
   ·rw[Uh]at h1;cases hb:x==y with
    |true=>
     rw[hb]at h1;cases h1;have:x=y:=by simpa using hb
     subst this;have:k=NameKind.cell:=by simpa using hk
     subst this;exact .inl ⟨TM _,TN⟩
    |false=>rw[hb]at h1;exact .inr h1
  ·rw[WZ hk]at h;rcases hJ r n _ h with ⟨h1,h2⟩|h1
   ·exact .inl ⟨h1,TK _ h2⟩
   ·exact .inr h1
theorem tu{x y:Str}{c:Addr}:∀(names:List (Str×NameKind))(n:Nat)(acc:List (Str×Addr)),(∀x c,acc.lookup x=some c->c<n)->(∀x y c,acc.lookup x=some c->acc.lookup y=some c->x=y)->
  (cellsFrom n names acc).lookup x=some c->(cellsFrom n names acc).lookup y=some c->x=y
 |[],n,acc,h1,h2,hx,hy=>h2 x y c hx hy
 |(z,k)::r,n,acc,h1,h2,hx,hy=>by
  unfold cellsFrom at hx hy;by_cases hk:(k==NameKind.cell)=true
  ·rw[W0 hk]at hx hy;refine tu r (n+1) _ (λa b gh=>?_) (λa b e ha hb=>?_) hx hy
   ·rw[Uh]at gh;cases hq:a==z with
    |true=>rw[hq]at gh;cases gh;exact Wx _
    |false=>rw[hq]at gh;exact Ww (h1 a b gh)
   ·rw[Uh]at ha hb;cases hq:a==z with
    |true=>
     rw[hq]at ha;cases ha;cases hq2:b==z with
     |true=>
      have e1:a=z:=by simpa using hq
      have e2:b=z:=by simpa using hq2
      rw[e1,e2]
     |false=>rw[hq2]at hb;exact absurd (h1 b _ hb) (Wu _)
    |false=>
     rw[hq]at ha;cases hq2:b==z with
     |true=>rw[hq2]at hb;cases hb;exact absurd (h1 a _ ha) (Wu _)
     |false=>rw[hq2]at hb;exact h2 a b e ha hb
  ·rw[WZ hk]at hx hy;exact tu r n acc h1 h2 hx hy
theorem oR{x:Str}{c:Addr}:∀(names:List (Str×NameKind))(n:Nat)(acc:List (Str×Addr)),(x,NameKind.cell)∉names->acc.lookup x=some c->(cellsFrom n names acc).lookup x=some c
 |[],n,acc,_,h=>h
 |(z,k)::r,n,acc,hn,h=>by
  unfold cellsFrom;by_cases hk:(k==NameKind.cell)=true
  ·rw[W0 hk];refine oR r (n+1) _ (λz'=>hn (TK _ z')) ?_;rw[Uh];have:(x==z)=false:=by
    cases hq:x==z with
    |false=>rfl
    |true=>
     have e1:x=z:=by simpa using hq
     have e2:k=NameKind.cell:=by simpa using hk
     subst e1 e2;exact absurd TN hn
   rw[this];exact h
  ·rw[WZ hk];exact oR r n acc (λz'=>hn (TK _ z')) h
theorem lG{x:Str}{c:Addr}:∀(names:List (Str×NameKind))(h:Heap)(acc:List (Str×Addr)),(∀x c,acc.lookup x=some c->∃v,h.IsCell c v)->(cellsFrom h.objs.size names acc).lookup x=some c->∃v,(pushCells h names).IsCell c v
 |[],h,acc,ha,hx=>ha x c hx
 |(z,k)::r,h,acc,ha,hx=>by
  unfold cellsFrom at hx;unfold pushCells;by_cases hk:(k==NameKind.cell)=true
  ·rw[W0 hk]at hx ⊢;refine lG r _ ((z,h.objs.size)::acc) (λa b gh=>?_) (by rw[Ul];exact hx);rw[Uh]at gh;cases hq:a==z with
   |true=>rw[hq]at gh;cases gh;exact⟨none,_,TQ _ rfl,rfl⟩
   |false=>rw[hq]at gh;obtain⟨v,o,ho,hd⟩:=ha a b gh;exact⟨v,o,Tx _ ho,hd⟩
  ·rw[WZ hk]at hx ⊢;exact lG r h acc ha hx
theorem sH{M:Model}{A:Around}{E:Value->Shared->Prop}{s:Shared}{scope:Scope}{globals:Addr}{cl:List (Str×Addr)}{qual:Str}{out:Env}{Q:Env->Shared->Prop}
  (hQ:∀h',h'=pushCells (s.heap.push {cls:=.type "dict",data:=.dict #[]}) scope.names->Q (newEnv scope s.heap.objs.size globals (cellsFrom (s.heap.objs.size+1) scope.names cl) qual none .none (some out) builtinsNs) {s with heap:=h'}):
  wpAny M A (newFunctionEnv scope globals cl [] qual none .none (some out)) Q E s:=by
 simp only[newFunctionEnv,Option.isSome_some,W1];refine Tv (wpAny_alloc ?_);refine Tv (wpAny_layCells _ (λname kind cells=>by cases hkc:kind==NameKind.cell<;>simp[hkc]) _ _ _ _ ?_);rw[show ({s with heap:=s.heap.push {cls:=.type "dict",data:=.dict #[]}}:Shared).heap.objs.size=s.heap.objs.size+1 from Ul ..];rw[List.forIn_nil];exact Tv (Tz (Tz (hQ _ rfl)))
def iA(X:Cx)(scope:Scope)(N':List Str)(C:Addr)(s:Shared)(H:Hp)(fp:List Addr)(xe:Value->Shared->Prop):Cx:=
 {X with N:=N',s₀:=s,H₀:=H,env:=compEnvC scope (cellsFrom (C+1) scope.names (gd scope X.env)) C X.env,outer:=X.stack,stack:=X.stack,ex:=fp,fn:=λx=>scope.names.lookup x==some .cell,pn:=[],xe:=xe}
structure f9(X:Cx)(scope:Scope)(N':List Str)(cap:List (Option Nat)):Prop where
 kind:scope.kind= .function
 nd:∀y∈scope.names,scope.names.lookup y.1=some y.2
 free:∀y∈scope.names,y.2= .free->X.env.scope.names.lookup y.1=some .cell\/X.env.scope.names.lookup y.1=some .free
 xf:∀(j i:Nat),cap[j]?=some (some i)->∃x,N'[j]?=some x/\X.N[i]?=some x/\scope.names.lookup x=some .free
 len:cap.length=N'.length
section
variable{X:Cx}{scope:Scope}{N':List Str}{cap:List (Option Nat)}{pins:List (Addr×Obj)}{σ:St}{H:Hp}{s:Shared}
theorem f9.frees(B:f9 X scope N' cap)(ok:X.Ok):∀y∈scope.names,y.2= .free->∃c,X.env.cells.lookup y.1=some c:=λy hy hf=>ok.has y.1 (B.free y hy hf)
theorem f9.up(B:f9 X scope N' cap)(ok:X.Ok){x:Str}{c:Addr}(h:(gd scope X.env).lookup x=some c):X.env.cells.lookup x=some c:=
 j8 scope.names [] (B.frees ok) (λ_ z=>by simp at z) h
theorem f9.rm(B:f9 X scope N' cap){x:Str}(h:scope.names.lookup x=some .free):(x,NameKind.cell)∉scope.names:=λz=>by have:=B.nd _ z;rw[h]at this;cases this
theorem tf{xe:Value->Shared->Prop}(B:f9 X scope N' cap)(I:Inv X pins σ H s){fp:List Addr}{tk:Nat}(hf:∀b∈fp,i6 X pins H b)(cU:∀b∈fp,b<s.heap.objs.size):
  Inv (iA X scope N' s.heap.objs.size s H fp xe) [] (dy cap σ) H {s with heap:=pushCells (s.heap.push {cls:=.type "dict",data:=.dict #[]}) scope.names,toks:=tk}:=by
 have ok:=I.ok;have hz:(s.heap.push {cls:=.type "dict",data:=.dict #[]}).objs.size=s.heap.objs.size+1:=Ul ..;have hk:∀b o,s.heap.get? b=some o->(pushCells (s.heap.push {cls:=.type "dict",data:=.dict #[]}) scope.names).get? b=some o:=λb o e=>W9 _ _ _ _ (Tx _ e)
 have sN:(pushCells (s.heap.push {cls:=.type "dict",data:=.dict #[]}) scope.names).Ns s.heap.objs.size λ_=>none:=(Heap.Ns.new s.heap (.type "dict")).keeps (W9 _ _)
 have Q5:∀x c,(gd scope X.env).lookup x=some c->c<s.heap.objs.size:=λx c h=>by obtain⟨v,z⟩:=I.cell x c (B.up ok h);exact z.lt
 have y7:∀x c,(cellsFrom (s.heap.objs.size+1) scope.names (gd scope X.env)).lookup x=some c->(s.heap.objs.size+1<=c/\(x,NameKind.cell)∈scope.names)\/X.env.cells.lookup x=some c:=λx c h=>(hJ _ _ _ h).imp id (B.up ok)
 have t7:∀x,scope.names.lookup x=some .free->(compEnvC scope (cellsFrom (s.heap.objs.size+1) scope.names (gd scope X.env)) s.heap.objs.size X.env).kindOf x=some .cell\/(compEnvC scope (cellsFrom (s.heap.objs.size+1) scope.names (gd scope X.env)) s.heap.objs.size X.env).kindOf x=some .free:=λx hx=>by
  have q:=aW (env:=X.env) hx;by_cases hc:(NameKind.free==NameKind.free&&X.env.scope.kind== .function&&X.env.kindOf x==some .cell)=true
  ·rw[W0 hc]at q;exact .inl q
  ·rw[WZ hc]at q;exact .inr q
 refine⟨⟨ok.mod,?kind,ok.glob,ok.blt,TM _,?inj,?has,?FH,ok.hd,ok.frames,.inl rfl,?JN,I.bs,TX ok.En I.sz,?uh,?xl,I.stack,I.wC⟩,
  rfl,I.bare,Un.kept hk,⟨_,sN,?loc⟩,?cell,I.hok.fresh (TM _),?fm,?pin,I.hok.kept hk,?len⟩
 case kind=>exact B.kind
 case inj=>exact λx y c h1 h2=>tu _ _ _ (λx c h=>Ww (Q5 x c h)) (λx y c h1 h2=>ok.inj x y c (B.up ok h1) (B.up ok h2)) h1 h2
 case has=>
  intro x hx;cases hl:scope.names.lookup x with
  |none=>
   have q:=cz (env:=X.env) hl;exact absurd hx (by
    have q':(compEnvC scope (cellsFrom (s.heap.objs.size+1) scope.names (gd scope X.env)) s.heap.objs.size X.env).kindOf x=none:=q;show¬((compEnvC scope (cellsFrom (s.heap.objs.size+1) scope.names (gd scope X.env)) s.heap.objs.size X.env).kindOf x=some .cell\/(compEnvC scope (cellsFrom (s.heap.objs.size+1) scope.names (gd scope X.env)) s.heap.objs.size X.env).kindOf x=some .free);rw[q'];simp)
  |some k=>
   have q:(compEnvC scope (cellsFrom (s.heap.objs.size+1) scope.names (gd scope X.env)) s.heap.objs.size X.env).kindOf x=some (if (k==NameKind.free&&X.env.scope.kind== .function&&X.env.kindOf x==some .cell) then NameKind.cell else k):=aW (env:=X.env) hl;have hm:=WS hl;by_cases F8:k= .free
   ·subst F8;obtain⟨c,IU⟩:=lH (env:=X.env) scope.names [] (.inl hm);exact⟨c,oR _ _ _ (B.rm hl) IU⟩
   ·have hb:(k==NameKind.free)=false:=by simpa using F8
    have tX:(compEnvC scope (cellsFrom (s.heap.objs.size+1) scope.names (gd scope X.env)) s.heap.objs.size X.env).kindOf x=some .cell\/(compEnvC scope (cellsFrom (s.heap.objs.size+1) scope.names (gd scope X.env)) s.heap.objs.size X.env).kindOf x=some .free:=hx;rw[q,hb]at tX;simp only[Bool.false_and,UO,WY,Option.some.injEq]at tX;rcases tX with z|z
    ·subst z;exact Option.isSome_iff_exists.mp (WQ scope.names _ _ (.inl hl))
    ·exact absurd z F8
 case FH=>
  intro x c zS h;have zS:(scope.names.lookup x==some .cell)=true:=zS;rcases hJ _ _ _ h with ⟨h1,_⟩|h1
  ·exact TX (Wt _) h1
  ·exfalso;have e:=Ud zS;have:∀(l:List (Str×NameKind))(cs:List (Str×Addr)),(∀c,cs.lookup x≠some c)->(∀y∈l,y.1=x->y.2≠ .free)->(oS X.env l cs).lookup x=none:=by
    intro l
    induction l with
    |nil=>
     intro cs Cw _;cases hq:cs.lookup x with
     |none=>exact hq
     |some c=>exact absurd hq (Cw c)
    |cons y l ih=>
     intro cs Cw hl;obtain⟨n,k⟩:=y;show (oS X.env l (if (k==NameKind.free)=true then(n,(X.env.cells.lookup n).getD 0)::cs else cs)).lookup x=none;refine ih _ (λc=>?_) λy hy=>hl y (TK _ hy)
     by_cases hk:(k==NameKind.free)=true
     ·rw[W0 hk,Uh];have:(x==n)=false:=by
       cases hq:x==n with
       |false=>rfl
       |true=>
        have e1:x=n:=by simpa using hq
        have e2:k=NameKind.free:=by simpa using hk
        exact absurd e2 (hl (n,k) TN e1.symm)
      rw[this];exact Cw c
     ·rw[WZ hk];exact Cw c
   have q:=this scope.names [] (λc z=>by simp at z) λy hy e1 e2=>by have:=B.nd y hy;rw[e1,e2,e]at this;cases this
   unfold gd at h1;rw[q]at h1;cases h1
 case JN=>
  intro b hb;refine⟨Um (cU b hb),λx c e=>?_⟩;rcases y7 x c e with ⟨h1,_⟩|h1
  ·intro z;subst z;exact absurd (Ub (cU c hb) (TX (Wt _) h1)) (Wu _)
  ·exact(hf b hb).2.2.2.2.1 x c h1
 case uh=>
  intro b o e hb;rcases (hf b hb).2.2.2.1 with z|z
  ·exact ok.uh b o e z
  ·exact absurd (Ub (TV (ok.bs b o e).1) z) (Wu _)
 case xl=>
  intro b hb hs;rcases TY.mp (I.qe b hs)with z|z
  ·exact(hf b hb).2.1 z
  ·exact(hf b hb).2.2.1 z
 case loc=>
  intro j x v h1 h2 h3;have hj:∃i,cap[j]?=some (some i)/\(σ[i]?).join=some v:=by
   unfold dy at h2;rw[T9]at h2;cases hc:cap[j]? with
   |none=>rw[hc]at h2;cases h2
   |some o=>
    rw[hc]at h2;cases o with
    |none=>cases h2
    |some i=>exact⟨i,rfl,by simpa using h2⟩
  obtain⟨i,hc,hv⟩:=hj;obtain⟨x',e1,e2,e3⟩:=B.xf j i hc;have ex:x'=x:=by have JI:N'[j]?=some x:=h1;rw[JI]at e1;injection e1 with e1;exact e1.symm
  subst ex;have BL:σ[i]?=some (some v):=by
   cases q:σ[i]? with
   |none=>rw[q]at hv;cases hv
   |some o=>rw[q]at hv;cases o with
    |none=>cases hv
    |some z=>simp at hv;rw[hv]
  have Kr:=B.free _ (WS e3) rfl;obtain⟨m,hn,hl⟩:=I.loc;obtain⟨u,r,l⟩:=hl i x' v e2 BL (.inr Kr);refine⟨u,r,?_⟩;obtain⟨c,IU⟩:=lH (env:=X.env) scope.names [] (.inl (WS e3));have Qf:=B.up ok IU;rcases l with ⟨k,_⟩|⟨k,c',e,z⟩
  ·exfalso;have k':X.env.scope.names.lookup x'=some .local:=k;rcases Kr with q|q
   ·rw[k']at q;cases q
   ·rw[k']at q;cases q
  ·have Ra:c'=c:=by rw[e]at Qf;injection Qf
   subst Ra;exact .inr ⟨t7 x' e3,c',oR _ _ _ (B.rm e3) IU,by obtain⟨o,ho,hd⟩:=z;exact⟨o,hk _ _ ho,hd⟩⟩
 case cell=>intro x c e;refine lG scope.names (s.heap.push {cls:=.type "dict",data:=.dict #[]}) (gd scope X.env) (λa b gh=>?_) (by rw[hz];exact e);obtain⟨v,o,ho,hd⟩:=I.cell a b (B.up ok gh);exact⟨v,o,Tx _ ho,hd⟩
 case fm=>
  intro x c e;rcases y7 x c e with ⟨h1,_⟩|h1
  ·exact I.hok.fresh (TX (Wt _) h1)
  ·exact I.fm x c h1
 case pin=>intro p hp;cases hp
 case len=>show (dy cap σ).length=N'.length;unfold dy;rw[TU];exact B.len
def Ee(X:Cx)(C:Addr)(x:Value)(s':Shared):Prop:=∃m,s'.heap.Ns C m/\∀h',Heap.SameBut C s'.heap h'->∀y8:Env,y8.locals=C->wpAny (model X.prog X.w) X.A (passOn "comprehension.variables-let-go" x y8:Sem Value) (λ_ _=>False) X.xe {s' with heap:=h'}
structure B1(X:Cx)(scope:Scope)(N':List Str)(xb:Addr->Shared->Hp->List Addr->Value->Shared->Prop):Prop where
 note:∀(pins:List (Addr×Obj))(σ:St)(C:Addr)(s s1:Shared)(H H1:Hp)(fp:List Addr)x s',Inv X pins σ H1 s1->(∀b∈fp,i6 X pins H1 b)->s1.heap.objs.size<C->s={s1 with heap:=s1.heap.push {cls:=.type "list",data:=.seq ([]:List Value).toArray},toks:=s1.toks}->H=upd H1 s1.heap.objs.size (.lst [])->C=s.heap.objs.size->
  xb C s H fp x s'->notedBy (model X.prog X.w) X.A (iA X scope N' C s H fp (xb C s H fp)).env (Ee X C) x s'
variable{elt tg iter:Expr}{ifs:List Expr}{pos:Pos}{g:TG}{tt:TT}
theorem nK{gens:List Comprehension}{xb:Addr->Shared->Hp->List Addr->Value->Shared->Prop}{pins:List (Addr×Obj)}{σ:St}{H2:Hp}{s2:Shared}{it:Addr}{fp:List Addr}{tn:Nat->Heap->Prop}{J:It}{F:Hp->Prop}{tb:Addr->TB}{body:Value->Env->Sem Unit}{p:Pos}{RR:Value->Addr->Result->Shared->Prop}(hc:X.calm=true)(B:f9 X scope N' cap)(hX:B1 X scope N' xb)
  (heq:∀qv acc env,compTurn (.ListComp elt (⟨tg,iter,ifs,0⟩::gens) scope pos) 0 qv acc env=fh (.ListComp elt (⟨tg,iter,ifs,0⟩::gens) scope pos) 0 qv acc env tg ifs p (body acc env))
  (mW:GL (dy cap σ) g) (hg:∀C s H fp,PG (iA X scope N' C s H fp (xb C s H fp)) tg g) (ht:∀C s H fp,Ed (iA X scope N' C s H fp (xb C s H fp)) ifs tt) (hb:∀C s H fp D,PB (iA X scope N' C s H fp (xb C s H fp)) (body (.ref D) (iA X scope N' C s H fp (xb C s H fp)).env) (tb D))
  (I2:Inv X pins σ H2 s2) (T:Turn X.prog X.w X.K tg J fp it tn) (eN:tn 0 s2.heap) (f2:∀b∈fp,i6 X pins H2 b) (hF:qy J g tt (tb s2.heap.objs.size) (dy cap σ) F (upd H2 s2.heap.objs.size (.lst [])))
  (RC:∀C s' H' m,s2.heap.objs.size<C->Inv X pins σ H' s'->s'.heap.Ns C m->i6 X pins H' C->F H'->RR (.ref s2.heap.objs.size) C (.ok .next) s') (Qc:∀C x s',Ee X C x s'->RR (.ref s2.heap.objs.size) C (.error x) s') {E:Value->Shared->Prop}:
  wpAny (model X.prog X.w) X.A (newList []) (λacc s₃=>wpAny (model X.prog X.w) X.A (newFunctionEnv scope X.env.globals (gd scope X.env) [] X.env.qual none .none (some X.env)) (λy8 s₄=>
   codeAny (model X.prog X.w) X.A (.compStart (.ListComp elt (⟨tg,iter,ifs,0⟩::gens) scope pos) 0 (.ref it) acc {y8 with scope:=relabel scope X.env}) (RR acc y8.locals) s₄) E s₃) E s2:=by
 refine Xh (sH λh₁ hh₁=>?_);have I3:=I2.GF (ys:=[]) (its:=[]) (t':=s2.toks) .nil (WG _);dsimp only at hh₁ ⊢;have hC:(s2.heap.push {cls:=.type "list",data:=.seq ([]:List Value).toArray}).objs.size=s2.heap.objs.size+1:=Ul ..;generalize hD:s2.heap.objs.size=D at *;have BD:∀b∈fp,b<D:=λb hb=>by obtain⟨o,e,_⟩:=T.obj 0 _ eN b hb;rw[<-hD];exact TV e
 have f3:∀b∈fp,i6 X pins (upd H2 D (.lst [])) b:=λb hb=>⟨by rw[aJ (Um (BD b hb))];exact(f2 b hb).1,(f2 b hb).2⟩
 generalize hs3:({s2 with heap:=s2.heap.push {cls:=.type "list",data:=.seq ([]:List Value).toArray},toks:=s2.toks}:Shared)=s3 at I3;have Aa:s3.heap=s2.heap.push {cls:=.type "list",data:=.seq ([]:List Value).toArray}:=by rw[<-hs3]
 have ED:s3.heap.objs.size=D+1:=by rw[Aa];exact hC
 have IB:=tf (xe:=xb s3.heap.objs.size s3 (upd H2 D (.lst [])) fp) (tk:=s2.toks) B I3 f3 (λb hb=>by rw[ED];exact Ww (BD b hb));have hk:∀b o,s3.heap.get? b=some o->(pushCells (s3.heap.push {cls:=.type "dict",data:=.dict #[]}) scope.names).get? b=some o:=λb o e=>W9 _ _ _ _ (Tx _ e)
 rw[<-Aa]at hh₁;rw[<-hh₁]at IB hk;have e4:({s3 with heap:=h₁,toks:=s2.toks}:Shared)={s2 with heap:=h₁}:=by rw[<-hs3]
 rw[e4]at IB;rw[hC];have qd:∀{H':Hp},(∀b∈fp,H' b=none)->∀b∈fp,i6 (iA X scope N' s3.heap.objs.size s3 (upd H2 D (.lst [])) fp (xb s3.heap.objs.size s3 (upd H2 D (.lst [])) fp)) [] H' b:=λhn b hb=>
  ⟨hn b hb,by show b≠s3.heap.objs.size;rw[ED];exact Um (Ww (BD b hb)),λz=>(by
   rcases TY.mp (I3.qe b z)with q|q
   ·exact(f3 b hb).2.1 q
   ·exact(f3 b hb).2.2.1 q),.inl hb,(IB.ok.JN b hb).2,λp hp=>absurd hp (by intro z;cases z)⟩
 have loop:∀s':Shared,s'={s2 with heap:=h₁}->codeAny (model X.prog X.w) X.A (.compLoop (.ListComp elt (⟨tg,iter,ifs,0⟩::gens) scope pos) 0 (.ref it) (.ref D) (iA X scope N' s3.heap.objs.size s3 (upd H2 D (.lst [])) fp (xb s3.heap.objs.size s3 (upd H2 D (.lst [])) fp)).env)
   (RR (.ref D) (D+1)) s':=by
  rintro s' rfl;refine nM (X:=iA X scope N' s3.heap.objs.size s3 (upd H2 D (.lst [])) fp (xb s3.heap.objs.size s3 (upd H2 D (.lst [])) fp)) hc (heq _ _ _) (λx s' q=>?_) (hg _ _ _ _) mW (ht _ _ _ _) (hb _ _ _ _ D) IB T (T.keep _ _ _ eN (λb hb o e=>hk b o (by rw[Aa];exact Tx _ e))) (qd λb hb=>(f3 b hb).1) hF λs5 H5 I5 qn=>?_
  ·have z:=hX.note pins σ s3.heap.objs.size s3 s2 (upd H2 D (.lst [])) H2 fp x s' I2 f2 (by rw[ED,hD];exact Wx _) hs3.symm (by rw[hD]) rfl q;rw[ED]at z;exact Xg z (λ_ s'' w=>Qc (D+1) x s'' w) λy s'' w=>Qc (D+1) y s'' w
  ·obtain⟨m5,R0,_⟩:=I5.loc;have un:Un (kC X.stack) fp H2 H5 s2.heap s5.heap:=by
    have u1:Un (kC X.stack) fp H2 (upd H2 D (.lst [])) s2.heap s3.heap:=by rw[Aa];exact Un.laid (λb u e=>Tx _ e) (by rw[hD];exact TM _) (by rw[<-hD];exact I2.fresh)
    exact u1.trans I5.base
   have hI:Inv X pins σ H5 s5:=I2.Jx (ch:=fp) (I5.os.trans (by show s3.os=s2.os;rw[<-hs3])) un I5.hok I5.bare λb hb=>⟨(f2 b hb).2.2.2.1,(f2 b hb).2.1,(f2 b hb).2.2.2.2.1,(f2 b hb).2.2.2.2.2⟩
   have Od:s5.heap.Ns (D+1) m5:=by have q:s5.heap.Ns s3.heap.objs.size m5:=R0;rw[ED]at q;exact q
   have NK:H5 (D+1)=none:=by have q:H5 s3.heap.objs.size=none:=I5.free;rw[ED]at q;exact q
   exact RC (D+1) s5 H5 m5 (Wx _) hI Od (I2.zB (by rw[hD];exact Wt _) NK) qn
 have NF:({newEnv scope (D+1) X.env.globals (cellsFrom (D+1+1) scope.names (gd scope X.env)) X.env.qual none .none (some X.env) builtinsNs with scope:=relabel scope X.env}:Env)=(iA X scope N' s3.heap.objs.size s3 (upd H2 D (.lst [])) fp (xb s3.heap.objs.size s3 (upd H2 D (.lst [])) fp)).env:=by unfold iA;rw[ED];rfl
 have go:=codeAny_compStart_list (loop _ rfl) (T.self X.A 0 _ _ _ (T.keep _ _ _ eN (λb hb o e=>hk b o (by rw[Aa];exact Tx _ e))) (loop _ rfl));rw[<-NF]at go;exact go
end
def qg(cap:List (Option Nat))(wi:TI)(g:TG)(tt:TT)(tb:Addr->TB):TE:=λσ H Q=>wi σ H λJ H1=>∀D,H1 D=none->GL (dy cap σ) g/\qy J g tt (tb D) (dy cap σ) (λH'=>Q (.ref D) H') (upd H1 D (.lst []))
section
variable{X:Cx}{scope:Scope}{N':List Str}{cap:List (Option Nat)}{elt tg iter:Expr}{ifs:List Expr}{gens:List Comprehension}{pos p:Pos}{wi:TI}{g:TG}{tt:TT}{tb:Addr->TB}{body:Value->Env->Sem Unit}{xb:Addr->Shared->Hp->List Addr->Value->Shared->Prop}
theorem rB(hc:X.calm=true)(B:f9 X scope N' cap)(hX:B1 X scope N' xb)(hi:PI X tg iter wi)(heq:∀qv acc env,compTurn (.ListComp elt (⟨tg,iter,ifs,0⟩::gens) scope pos) 0 qv acc env=fh (.ListComp elt (⟨tg,iter,ifs,0⟩::gens) scope pos) 0 qv acc env tg ifs p (body acc env))
  (hg:∀C s H fp,PG (iA X scope N' C s H fp (xb C s H fp)) tg g) (ht:∀C s H fp,Ed (iA X scope N' C s H fp (xb C s H fp)) ifs tt) (hb:∀C s H fp D,PB (iA X scope N' C s H fp (xb C s H fp)) (body (.ref D) (iA X scope N' C s H fp (xb C s H fp)).env) (tb D))
  (hs:∀x,foldedSetIterable iter X.env x=pure x:=by intro _;rfl):PE X (.ListComp elt (⟨tg,iter,ifs,0⟩::gens) scope pos) (qg cap wi g tt tb):=by
 intro pins s σ H Q I h;rw[eval_ListComp];refine wpAny_comprehension_free (use:=none) rfl hs (iF (B.frees I.ok)) B.kind (λy hy e=>by rw[B.nd y hy,e]) (bV (hi pins s σ H _ I h) λx s₁ h₁=>bV h₁ λqv s₂ h₂=>?_);obtain⟨it,fp,tn,J,H2,e,I2,T,eN,f2,hF⟩:=h₂;subst e;obtain⟨mW,hW⟩:=hF _ I2.fresh;refine nK (RR:=λacc C=>compPost (model X.prog X.w) X.A X.xe none (EP X pins σ Q) acc C) hc B hX heq mW hg ht hb I2 T eN f2 hW (λC s' H' m hC I' hn fC q=>?_) λC x s' z=>z
 refine⟨m,hn,λh' hsb=>⟨.ref _,H',I'.turned (t':=s'.toks) (λb o hb e=>(hsb.2 b hb).trans e) fC.1 fC.2.1 fC.2.2.2.1 fC.2.2.2.2.1 fC.2.2.2.2.2,rfl,q⟩⟩
theorem ko{i:Nat}{x:Str}{pos' LK:Pos}(hc:X.calm=true)(hN:X.N.Nodup)(IW:X.N[i]?=some x)(hx:X.env.kindOf x=some .local)(B:f9 X scope N' cap)(hX:B1 X scope N' xb)(hi:PI X tg iter wi)(heq:∀qv acc env,compTurn (.ListComp elt (⟨tg,iter,ifs,0⟩::gens) scope pos) 0 qv acc env=fh (.ListComp elt (⟨tg,iter,ifs,0⟩::gens) scope pos) 0 qv acc env tg ifs p (body acc env))
  (hg:∀C s H fp,PG (iA X scope N' C s H fp (xb C s H fp)) tg g) (ht:∀C s H fp,Ed (iA X scope N' C s H fp (xb C s H fp)) ifs tt) (hb:∀C s H fp D,PB (iA X scope N' C s H fp (xb C s H fp)) (body (.ref D) (iA X scope N' C s H fp (xb C s H fp)).env) (tb D))
  (hs:∀x,foldedSetIterable iter X.env x=pure x:=by intro _;rfl)
  (BK:swapsWith (.ListComp elt (⟨tg,iter,ifs,0⟩::gens) scope pos) (some (.Name x pos')) LK.line X.env=pure true:=by rfl):
  PS X (.Assign [.Name x pos'] (.ListComp elt (⟨tg,iter,ifs,0⟩::gens) scope pos) LK) (nq (qg cap wi g tt tb) (eR i)):=by
 intro pins s σ H D I h;rw[exec_Assign_Name_used _ _ _ _ BK];refine Tv (Xo (Tv ?_));show wpAny _ X.A (do let _<-comprehension (.ListComp elt (⟨tg,iter,ifs,0⟩::gens) scope pos) scope X.env _ (newList []) false (eval iter X.env) (some (assign (.Name x pos') X.env))) _ _ s;refine Tv (Xg (wpAny_comprehension_free (use:=some (assign (.Name x pos') X.env)) (Q:=λ_ s'=>SP X pins D .next s') rfl hs (iF (B.frees I.ok)) B.kind (λy hy e=>by rw[B.nd y hy,e]) (bV (hi pins s σ H _ I h) λx s₁ h₁=>bV h₁ λqv s₂ h₂=>?_))
  (λ_ s' hq=>Tz (Tz hq)) λ_ _ e=>e)
 obtain⟨it,fp,tn,J,H2,e,I2,T,eN,f2,hF⟩:=h₂;subst e;obtain⟨mW,hW⟩:=hF _ I2.fresh;refine nK (RR:=λacc C=>compPost (model X.prog X.w) X.A X.xe (some (assign (.Name _ pos') X.env)) (λ_ s'=>SP X pins D .next s') acc C) hc B hX heq mW hg ht hb I2 T eN f2 hW (λC s' H' m hC I' hn fC q=>?_) λC x s' z=>z
 show wpAny _ X.A (assign (.Name _ pos') X.env (.ref _)) _ _ _;refine wpAny_assign_Name (ou (v:=.ref _) I' hN IW (.inl hx) rfl (λs3 I3 hsb=>?_) (.inr hx));obtain⟨a,sb,ha⟩:=hsb;have Rt:C≠a:=by
  rcases ha with rfl|ha
  ·exact fC.2.1
  ·exact WH (fC.2.2.2.2.1 _ a ha)
 refine⟨m,hn.sameBut sb Rt,λh' hsb'=>?_⟩;exact⟨_,H',I3.turned (t':=s3.toks) (λb o hb e=>(hsb'.2 b hb).trans e) fC.1 fC.2.1 fC.2.2.2.1 fC.2.2.2.2.1 fC.2.2.2.2.2,q⟩
end
inductive oH(X:Cx)(E:XK)(e:Value)(s':Shared):Prop
def yj(_:Program)(_:World):nv:=λ_ _ _ _ _ _=>False
structure i9(X:Cx):Prop where
 pn:X.pn=[]
 st:True
section
variable{X:Cx}{E:XK}
theorem Ii{CX:nv}{P:Program}{w:World}{K:PySem.W.Frag}{mg:Str->Option Value}{base:Heap}{N:List Str}{qual:Str}{scope:Scope}{f:Addr}{cd:Value}{A:Around}{outer:List Env}{s:Shared}{H:Hp}:i9 (qJ CX P w K mg base N qual scope f cd A outer s H E):=⟨rfl,trivial⟩
theorem DY{scope:Scope}{N':List Str}{C:Addr}{s:Shared}{H:Hp}{fp:List Addr}{xe:Value->Shared->Prop}(st:i9 X):i9 (iA X scope N' C s H fp xe):=⟨rfl,trivial⟩
theorem Bt{pins:List (Addr×Obj)}{σ:St}{H:Hp}{s s':Shared}{e:Value}(I:Inv X pins σ H s)(Tf:X.pn=[])(c:yj X.prog X.w X.stack H s E e s'):oH X E e s':=False.elim c
theorem Eb(st:i9 X)(hx:∀e s',oH X E e s'->X.xe e s')(CJ:∀e s',X.xe e s'->oH X E e s'):PassesOwn (model X.prog X.w) X.A X.env X.xe:=λe s' h=>by cases CJ e s' h
end
section
variable{X:Cx}{E:XK}{scope:Scope}{N':List Str}
def yt(X:Cx)(scope:Scope)(N':List Str)(E:XK)(C:Addr)(s:Shared)(H:Hp)(fp:List Addr):Value->Shared->Prop:=oH (iA X scope N' C s H fp λ_ _=>False) E
theorem IF{C:Addr}{s:Shared}{H:Hp}{fp:List Addr}{e:Value}{s':Shared}{xe:Value->Shared->Prop}(h:oH (iA X scope N' C s H fp xe) E e s'):yt X scope N' E C s H fp e s':=by cases h
theorem vV{C:Addr}{s:Shared}{H:Hp}{fp:List Addr}(st:i9 X):PassesOwn (model X.prog X.w) X.A (iA X scope N' C s H fp (yt X scope N' E C s H fp)).env (yt X scope N' E C s H fp):=λ_ _ h=>by cases h
theorem lj(st:i9 X)(To:∀e s',oH X E e s'->X.xe e s'):B1 X scope N' (yt X scope N' E):=⟨λpins σ C s s1 H H1 fp x s' I1 f1 hC hs hH ED hxb=>by cases hxb⟩
end
end L2
end
section
namespace Rx
open PySem.W L2 PySem.SeqAt
inductive Dt where
 |bg|bl (b:Bool)|int (i:Int)|str (x:Str)|tup (ds:List Dt)|lst (ds:List Dt)|bO (ns:List Int)
 |iL (ks vs:List Dt)|obj (ks:List Str) (vs:List Dt)|exc (c:Nat)
abbrev Frag:=PySem.W.Frag
def KL(K:Frag)(a:Addr)(xs:List V):Prop:=∃(o:Obj)(its:Array Value)(n:Nat),K.lookup a=some o/\o.cls= .type "list"/\o.dict=none/\o.data= .seq its n/\its.size<=sizeLine/\aw xs its.toList
mutual
noncomputable def RV(K:Frag)(A:Addr->Prop)(H:Hp):V->Dt->Prop
 |x,.bg=>x= .bg
 |x,.bl b=>x= .bl b
 |x,.int i=>x= .int i
 |x,.str z=>x= .str z
 |x,.tup ds=>∃a xs,x= .ref a/\H a=some (.tup xs)/\ao K A H xs ds
 |x,.lst ds=>∃a xs,x= .ref a/\H a=some (.lst xs)/\¬A a/\ao K A H xs ds
 |x,.bO ns=>∃a,x= .ref a/\((Rd H a (.lst (ns.map V.int))/\¬A a)\/KL K a (ns.map V.int))
 |_,.iL _ _=>False
 |x,.obj ks vs=>∃a dG,x= .ref a/\H a=some (.dK dG)/\¬A a/\dG.map (·.1)=ks.map Sum.inr/\ao K A H (dG.map (·.2)) vs
 |_,.exc _=>False
noncomputable def ao(K:Frag)(A:Addr->Prop)(H:Hp):List V->List Dt->Prop
 |[],[]=>True
 |x::xs,d::ds=>RV K A H x d/\ao K A H xs ds
 |[],_::_=>False
 |_::_,[]=>False
end
section
variable{K:Frag}{A B:Addr->Prop}{H H':Hp}
theorem RV.eS{x:V}(h:RV K A H x .bg):x= .bg:=by unfold RV at h;exact h
theorem RV.bX{x:V}{b}(h:RV K A H x (.bl b)):x= .bl b:=by unfold RV at h;exact h
theorem RV.int_inv{x:V}{b}(h:RV K A H x (.int b)):x= .int b:=by unfold RV at h;exact h
theorem RV.str_inv{x:V}{b}(h:RV K A H x (.str b)):x= .str b:=by unfold RV at h;exact h
theorem RV.ar{x:V}{ds}(h:RV K A H x (.tup ds)):∃a xs,x= .ref a/\H a=some (.tup xs)/\ao K A H xs ds:=by unfold RV at h;exact h
theorem RV.lst_inv{x:V}{ds}(h:RV K A H x (.lst ds)):∃a xs,x= .ref a/\H a=some (.lst xs)/\¬A a/\ao K A H xs ds:=by unfold RV at h;exact h
theorem RV.iq{x:V}{ns}(h:RV K A H x (.bO ns)):∃a,x= .ref a/\((Rd H a (.lst (ns.map V.int))/\¬A a)\/KL K a (ns.map V.int)):=by unfold RV at h;exact h
theorem RV.j0{x:V}{ns}(h:RV K A H x (.bO ns)):∃a,x= .ref a/\dF K H a (ns.map V.int):=by
 obtain⟨a,e,h|h⟩:=h.iq
 ·exact⟨a,e,.inl h.1⟩
 ·exact⟨a,e,.inr h⟩
theorem RV.oY{x:V}{ks vs}(h:RV K A H x (.iL ks vs)):False:=by unfold RV at h;exact h
theorem RV.pP{x:V}{ks vs}(h:RV K A H x (.obj ks vs)):∃a dG,x= .ref a/\H a=some (.dK dG)/\¬A a/\dG.map (·.1)=ks.map Sum.inr/\ao K A H (dG.map (·.2)) vs:=by unfold RV at h;exact h
theorem RV.o6{x:V}{ks}(h:RV K A H x (.exc ks)):False:=by unfold RV at h;exact h
theorem RV.pJ:RV K A H .bg .bg:=by unfold RV;rfl
theorem RV.ES{b}:RV K A H (.bl b) (.bl b):=by unfold RV;rfl
theorem RV.fR{b}:RV K A H (.int b) (.int b):=by unfold RV;rfl
theorem RV.ue{b}:RV K A H (.str b) (.str b):=by unfold RV;rfl
theorem RV.iR{a xs ds}(h:H a=some (.tup xs))(t:ao K A H xs ds):RV K A H (.ref a) (.tup ds):=by unfold RV;exact⟨a,xs,rfl,h,t⟩
theorem RV.iQ{a xs ds}(h:H a=some (.lst xs))(n:¬A a)(t:ao K A H xs ds):RV K A H (.ref a) (.lst ds):=by unfold RV;exact⟨a,xs,rfl,h,n,t⟩
theorem RV.GR{a dG ks vs}(h:H a=some (.dK dG))(n:¬A a)(e:dG.map (·.1)=ks.map Sum.inr)(t:ao K A H (dG.map (·.2)) vs):RV K A H (.ref a) (.obj ks vs):=by unfold RV;exact⟨a,dG,rfl,h,n,e,t⟩
theorem ao.nil:ao K A H [] []:=by unfold ao;trivial
theorem ao.cons{x d xs ds}(h:RV K A H x d)(t:ao K A H xs ds):ao K A H (x::xs) (d::ds):=by unfold ao;exact⟨h,t⟩
theorem ao.nil_inv{xs}(h:ao K A H xs []):xs=[]:=by
 cases xs with
 |nil=>rfl
 |cons=>unfold ao at h;exact h.elim
theorem ao.eF{ds}(h:ao K A H [] ds):ds=[]:=by
 cases ds with
 |nil=>rfl
 |cons=>unfold ao at h;exact h.elim
theorem ao.cons_inv{xs d ds}(h:ao K A H xs (d::ds)):∃x r,xs=x::r/\RV K A H x d/\ao K A H r ds:=by
 cases xs with
 |nil=>unfold ao at h;exact h.elim
 |cons x r=>unfold ao at h;exact⟨x,r,rfl,h⟩
theorem ao.xg{x xs ds}(h:ao K A H (x::xs) ds):∃d r,ds=d::r/\RV K A H x d/\ao K A H xs r:=by
 cases ds with
 |nil=>unfold ao at h;exact h.elim
 |cons d r=>unfold ao at h;exact⟨d,r,rfl,h⟩
theorem ao.length:∀{xs ds},ao K A H xs ds->xs.length=ds.length
 |[],[],_=>rfl
 |[],_::_,h=>by unfold ao at h;exact h.elim
 |_::_,[],h=>by unfold ao at h;exact h.elim
 |_::xs,_::ds,h=>by unfold ao at h;simp[ao.length h.2]
theorem ao.get:∀{xs ds}{i:Nat}{x},ao K A H xs ds->xs[i]?=some x->∃d,ds[i]?=some d/\RV K A H x d
 |[],_,_,_,_,e=>by simp at e
 |_::_,[],_,_,h,_=>by unfold ao at h;exact h.elim
 |_::_,_::_,0,_,h,e=>by unfold ao at h;simp at e;subst e;exact⟨_,rfl,h.1⟩
 |_::xs,_::ds,i+1,x,h,e=>by unfold ao at h;obtain⟨d,e1,e2⟩:=ao.get (i:=i) h.2 ‹e›;exact⟨d,by simpa using e1,e2⟩
theorem ao.getD:∀{xs ds}{i:Nat}{d},ao K A H xs ds->ds[i]?=some d->∃x,xs[i]?=some x/\RV K A H x d
 |_,[],_,_,_,e=>by simp at e
 |[],_::_,_,_,h,_=>by unfold ao at h;exact h.elim
 |_::_,_::_,0,_,h,e=>by unfold ao at h;simp at e;subst e;exact⟨_,rfl,h.1⟩
 |_::xs,_::ds,i+1,x,h,e=>by unfold ao at h;obtain⟨d,e1,e2⟩:=ao.getD (i:=i) h.2 ‹e›;exact⟨d,by simpa using e1,e2⟩
theorem ao.append:∀{xs ys ds es},ao K A H xs ds->ao K A H ys es->ao K A H (xs++ys) (ds++es)
 |[],_,[],_,_,h=>h
 |[],_,_::_,_,h,_=>by unfold ao at h;exact h.elim
 |_::_,_,[],_,h,_=>by unfold ao at h;exact h.elim
 |_::xs,ys,_::ds,es,h,h'=>by unfold ao at h;exact ao.cons h.1 (ao.append h.2 h')
theorem ao.take:∀{xs ds}(n:Nat),ao K A H xs ds->ao K A H (xs.take n) (ds.take n)
 |[],ds,n,h=>by rw[h.eF];simp;exact ao.nil
 |x::xs,[],n,h=>by unfold ao at h;exact h.elim
 |x::xs,d::ds,0,h=>by simp;exact ao.nil
 |x::xs,d::ds,n+1,h=>by unfold ao at h;simp only[Wl];exact ao.cons h.1 (ao.take n h.2)
theorem ao.drop:∀{xs ds}(n:Nat),ao K A H xs ds->ao K A H (xs.drop n) (ds.drop n)
 |[],ds,n,h=>by rw[h.eF];simp;exact ao.nil
 |x::xs,[],n,h=>by unfold ao at h;exact h.elim
 |x::xs,d::ds,0,h=>h
 |x::xs,d::ds,n+1,h=>by unfold ao at h;simp only[Vs];exact ao.drop n h.2
theorem ao.set:∀{xs ds}(n:Nat){x d},ao K A H xs ds->RV K A H x d->ao K A H (xs.set n x) (ds.set n d)
 |[],ds,n,_,_,h,_=>by rw[h.eF];simp;exact ao.nil
 |x::xs,[],n,_,_,h,_=>by unfold ao at h;exact h.elim
 |x::xs,d::ds,0,_,_,h,h'=>by unfold ao at h;simp only[List.set_cons_zero];exact ao.cons h' h.2
 |x::xs,d::ds,n+1,_,_,h,h'=>by unfold ao at h;simp only[List.set_cons_succ];exact ao.cons h.1 (ao.set n h.2 h')
theorem ao.rep{xs ds}(h:ao K A H xs ds):∀k:Nat,ao K A H (List.replicate k xs).flatten (List.replicate k ds).flatten
 |0=>by simp;exact ao.nil
 |k+1=>by rw[Wc,Wc,Vz,Vz];exact h.append (ao.rep h k)
structure aU(X:Addr->Prop)(H H':Hp):Prop where
 kp:∀b o,H b=some o->¬X b->H' b=some o
 tp:∀b xs,H b=some (.tup xs)->H' b=some (.tup xs)
theorem aU.of_same{X:Addr->Prop}(s:cy H H'):aU X H H':=⟨λb o e _=>s b o e,λb xs e=>s b _ e⟩
theorem aU.refl{X:Addr->Prop}:aU X H H:=⟨λ_ _ e _=>e,λ_ _ e=>e⟩
theorem aU.trans{X:Addr->Prop}{H1:Hp}(a:aU X H H1)(b:aU X H1 H'):aU X H H':=⟨λc o e n=>b.kp c o (a.kp c o e n) n,λc xs e=>b.tp c xs (a.tp c xs e)⟩
theorem aU.mono{X Y:Addr->Prop}(a:aU X H H')(h:∀b,X b->Y b):aU Y H H':=⟨λb o e n=>a.kp b o e λz=>n (h b z),a.tp⟩
theorem HG{X:Addr->Prop}{a:Addr}{u:HO}(e:aU X H H')(n:¬X a)(h:Rd H a u):Rd H' a u:=by
 rcases h with h|⟨o,h⟩
 ·exact .inl (e.kp _ _ h n)
 ·exact .inr ⟨o,e.kp _ _ h n⟩
mutual
noncomputable def rh:Dt->Bool
 |.bg|.bl _|.int _|.str _=>true
 |.tup ds=>gj ds
 |_=>false
noncomputable def gj:List Dt->Bool
 |[]=>true
 |d::ds=>rh d&&gj ds
end
mutual
theorem RV.gen(t:∀b xs,H b=some (.tup xs)->H' b=some (.tup xs)):∀{x d},(rh d=true\/∀b o,H b=some o->¬A b->H' b=some o/\¬B b)->RV K A H x d->RV K B H' x d
 |x,.bg,_,h=>by rw[h.eS];exact RV.pJ
 |x,.bl b,_,h=>by rw[h.bX];exact RV.ES
 |x,.int b,_,h=>by rw[h.int_inv];exact RV.fR
 |x,.str b,_,h=>by rw[h.str_inv];exact RV.ue
 |x,.tup ds,n,h=>by obtain⟨a,xs,rfl,h1,h2⟩:=h.ar;exact RV.iR (t _ _ h1) (ao.gen t (n.imp_left id) h2)
 |x,.lst ds,n,h=>by obtain⟨a,xs,rfl,h1,h3,h2⟩:=h.lst_inv;have n:=n.resolve_left nofun;exact RV.iQ (n a _ h1 h3).1 (n a _ h1 h3).2 (ao.gen t (.inr n) h2)
 |x,.bO ns,n,h=>by
  have n:=n.resolve_left nofun;obtain⟨a,rfl,⟨h1,h3⟩|h1⟩:=h.iq
  ·rcases h1 with h1|⟨o,h1⟩
   ·exact⟨a,rfl,.inl ⟨.inl (n a _ h1 h3).1,(n a _ h1 h3).2⟩⟩
   ·exact⟨a,rfl,.inl ⟨.inr ⟨o,(n a _ h1 h3).1⟩,(n a _ h1 h3).2⟩⟩
  ·exact⟨a,rfl,.inr h1⟩
 |x,.iL ..,_,h=>h.oY.elim
 |x,.obj ks vs,n,h=>by obtain⟨a,dG,rfl,h1,h3,h4,h2⟩:=h.pP;have n:=n.resolve_left nofun;exact RV.GR (n a _ h1 h3).1 (n a _ h1 h3).2 h4 (ao.gen t (.inr n) h2)
 |x,.exc ..,_,h=>h.o6.elim
theorem ao.gen(t:∀b xs,H b=some (.tup xs)->H' b=some (.tup xs)):∀{xs ds},(gj ds=true\/∀b o,H b=some o->¬A b->H' b=some o/\¬B b)->ao K A H xs ds->ao K B H' xs ds
 |[],[],_,_=>ao.nil
 |[],_::_,_,h=>by unfold ao at h;exact h.elim
 |_::_,[],_,h=>by unfold ao at h;exact h.elim
 |_::xs,_::ds,n,h=>by unfold ao at h;simp only[gj,TC]at n;exact ao.cons (RV.gen t (n.imp_left (·.1)) h.1) (ao.gen t (n.imp_left (·.2)) h.2)
end
theorem RV.mono{X:Addr->Prop}(e:aU X H H')(hX:∀b,X b->A b)(hB:∀b,B b->A b){x d}(h:RV K A H x d):RV K B H' x d:=h.gen e.tp (.inr λb o q n=>⟨e.kp b o q λz=>n (hX b z),λz=>n (hB b z)⟩)
theorem ao.mono{X:Addr->Prop}(e:aU X H H')(hX:∀b,X b->A b)(hB:∀b,B b->A b){x d}(h:ao K A H x d):ao K B H' x d:=h.gen e.tp (.inr λb o q n=>⟨e.kp b o q λz=>n (hX b z),λz=>n (hB b z)⟩)
theorem RV.same{x d}(h:RV K A H x d)(s:cy H H'):RV K A H' x d:=h.mono (X:=λ_=>False) (aU.of_same s) (λ_ z=>z.elim) λ_ z=>z
theorem ao.same{x d}(h:ao K A H x d)(s:cy H H'):ao K A H' x d:=h.mono (X:=λ_=>False) (aU.of_same s) (λ_ z=>z.elim) λ_ z=>z
theorem RV.weak{x d}(h:RV K A H x d)(hB:∀b,B b->A b):RV K B H x d:=h.mono (X:=λ_=>False) aU.refl (λ_ z=>z.elim) hB
theorem ao.weak{x d}(h:ao K A H x d)(hB:∀b,B b->A b):ao K B H x d:=h.mono (X:=λ_=>False) aU.refl (λ_ z=>z.elim) hB
theorem RV.eh(hp:∀b,B b->A b\/H b=none){x d}(h:RV K A H x d):RV K B H x d:=h.gen (λ_ _ e=>e) (.inr λb o q n=>⟨q,λz=>(hp b z).elim n λe=>by rw[e]at q;cases q⟩)
theorem ao.eh(hp:∀b,B b->A b\/H b=none){x d}(h:ao K A H x d):ao K B H x d:=h.gen (λ_ _ e=>e) (.inr λb o q n=>⟨q,λz=>(hp b z).elim n λe=>by rw[e]at q;cases q⟩)
theorem ao.avoid{p:Addr}(hp:H p=none){x d}(h:ao K A H x d):ao K (λb=>A b\/b=p) H x d:=h.eh λb z=>z.imp_right λe=>by rw[e];exact hp
theorem RV.rh{x d}(h:RV K A H x d)(n:Rx.rh d=true):RV K B H x d:=h.gen (λ_ _ e=>e) (.inl n)
theorem ao.gj{x d}(h:ao K A H x d)(n:Rx.gj d=true):ao K B H x d:=h.gen (λ_ _ e=>e) (.inl n)
end
mutual
noncomputable def toD:Dt->Option Mx.D
 |.int i=>some (.int i)
 |.str x=>some (.str x)
 |.tup ds=>(fW ds).map Mx.D.tup
 |_=>none
noncomputable def fW:List Dt->Option (List Mx.D)
 |[]=>some []
 |d::ds=>(toD d).bind λm=>(fW ds).map (m:: ·)
end
mutual
noncomputable def ofD:Mx.D->Dt
 |.int i=>.int i
 |.str x=>.str x
 |.tup ds=>.tup (cP ds)
noncomputable def cP:List Mx.D->List Dt
 |[]=>[]
 |d::ds=>ofD d::cP ds
end
theorem my:∀ds:List Mx.D,cP ds=ds.map ofD
 |[]=>by simp[cP]
 |d::ds=>by simp[cP,my ds]
mutual
theorem Io:∀m:Mx.D,toD (ofD m)=some m
 |.int i=>by simp[ofD,toD]
 |.str x=>by simp[ofD,toD]
 |.tup ds=>by simp[ofD,toD,lh ds]
theorem lh:∀ms:List Mx.D,fW (cP ms)=some ms
 |[]=>by simp[cP,fW]
 |m::ms=>by simp[cP,fW,Io m,lh ms]
end
mutual
theorem G0:∀{d:Dt}{m:Mx.D},toD d=some m->d=ofD m
 |.int i,m,h=>by simp[toD]at h;subst h;simp[ofD]
 |.str i,m,h=>by simp[toD]at h;subst h;simp[ofD]
 |.tup ds,m,h=>by simp only[toD,T5]at h;obtain⟨ms,h1,rfl⟩:=h;rw[jr h1];simp[ofD]
 |.bg,m,h=>by simp[toD]at h
 |.bl _,m,h=>by simp[toD]at h
 |.lst _,m,h=>by simp[toD]at h
 |.bO _,m,h=>by simp[toD]at h
 |.iL _ _,m,h=>by simp[toD]at h
 |.obj _ _,m,h=>by simp[toD]at h
 |.exc _,m,h=>by simp[toD]at h
theorem jr:∀{ds:List Dt}{ms:List Mx.D},fW ds=some ms->ds=cP ms
 |[],ms,h=>by simp[fW]at h;subst h;simp[cP]
 |d::ds,ms,h=>by simp only[fW,Tw,T5]at h;obtain⟨m,h1,r,h2,rfl⟩:=h;rw[G0 h1,jr h2];simp[cP]
end
mutual
theorem RV.dv{K:Frag}{A:Addr->Prop}{H:Hp}:∀{x}{m:Mx.D},RV K A H x (ofD m)->Mx.DV H x m
 |x,.int i,h=>by simp only[ofD]at h;rw[h.int_inv];exact Mx.DV.int
 |x,.str i,h=>by simp only[ofD]at h;rw[h.str_inv];exact Mx.DV.str
 |x,.tup ms,h=>by simp only[ofD]at h;obtain⟨a,xs,rfl,h1,h2⟩:=h.ar;exact Mx.DV.tup h1 (ao.xj h2)
theorem ao.xj{K:Frag}{A:Addr->Prop}{H:Hp}:∀{xs}{ms:List Mx.D},ao K A H xs (cP ms)->Mx.bc H xs ms
 |[],[],_=>Mx.bc.nil
 |[],_::_,h=>by simp only[cP]at h;unfold ao at h;exact h.elim
 |_::_,[],h=>by simp only[cP]at h;unfold ao at h;exact h.elim
 |_::xs,_::ds,h=>by simp only[cP]at h;unfold ao at h;exact Mx.bc.cons (RV.dv h.1) (ao.xj h.2)
end
mutual
theorem RV.KZ{K:Frag}{A:Addr->Prop}{H:Hp}:∀{x}{m:Mx.D},Mx.DV H x m->RV K A H x (ofD m)
 |x,.int i,h=>by simp only[ofD];rw[h.int_inv];exact RV.fR
 |x,.str i,h=>by simp only[ofD];rw[h.str_inv];exact RV.ue
 |x,.tup ms,h=>by simp only[ofD];obtain⟨a,xs,rfl,h1,h2⟩:=h.ar;exact RV.iR h1 (ao.um h2)
theorem ao.um{K:Frag}{A:Addr->Prop}{H:Hp}:∀{xs}{ms:List Mx.D},Mx.bc H xs ms->ao K A H xs (cP ms)
 |[],[],_=>by simp only[cP];exact ao.nil
 |[],_::_,h=>by unfold Mx.bc at h;exact h.elim
 |_::_,[],h=>by unfold Mx.bc at h;exact h.elim
 |_::xs,_::ds,h=>by simp only[cP];unfold Mx.bc at h;exact ao.cons (RV.KZ h.1) (ao.um h.2)
end
mutual
noncomputable def eJ:Dt->Dt->Bool
 |.bg,.bg=>true
 |.bl a,.bl b=>a==b
 |.int a,.int b=>a==b
 |.bl a,.int b=>(if a then(1:Int) else 0)==b
 |.int a,.bl b=>a==(if b then(1:Int) else 0)
 |.str a,.str b=>a==b
 |.tup a,.tup b=>eU a b
 |.lst a,.lst b=>eU a b
 |_,_=>false
noncomputable def eU:List Dt->List Dt->Bool
 |[],[]=>true
 |x::xs,y::ys=>eJ x y&&eU xs ys
 |_,_=>false
end
mutual
noncomputable def pl:Dt->Bool
 |.int _=>true
 |.tup ds=>mD ds
 |.lst ds=>mD ds
 |_=>false
noncomputable def mD:List Dt->Bool
 |[]=>true
 |d::ds=>pl d&&mD ds
end
mutual
noncomputable def dp:Dt->Nat
 |.tup ds=>qp ds+1
 |.lst ds=>qp ds+1
 |_=>0
noncomputable def qp:List Dt->Nat
 |[]=>0
 |d::ds=>max (dp d) (qp ds)
end
mutual
theorem ib:∀d:Dt,pl d=true->eJ d d=true
 |.bg,_=>by simp[eJ]
 |.bl b,_=>by simp[eJ]
 |.int b,_=>by simp[eJ]
 |.str b,_=>by simp[eJ]
 |.tup ds,h=>by simp only[eJ];exact iV ds (by simpa [pl]using h)
 |.lst ds,h=>by simp only[eJ];exact iV ds (by simpa [pl]using h)
 |.bO _,h=>by simp[pl]at h
 |.iL _ _,h=>by simp[pl]at h
 |.obj _ _,h=>by simp[pl]at h
 |.exc _,h=>by simp[pl]at h
theorem iV:∀ds:List Dt,mD ds=true->eU ds ds=true
 |[],_=>by simp[eU]
 |d::ds,h=>by simp only[mD,TC]at h;simp only[eU,TC];exact⟨ib d h.1,iV ds h.2⟩
end
def SJ:Dt->Nat
 |.bg=>0|.bl _=>1|.int _=>2|.str _=>3|.tup _=>4|.lst _=>5|_=>6
def Px(H:Hp):V->Nat
 |.bg=>0|.bl _=>1|.int _=>2|.str _=>3
 |.ref a=>(match H a with|some (.tup _)=>4|some (.lst _)=>5|_=>6)
 |_=>6
theorem RV.tg{K:Frag}{A:Addr->Prop}{H:Hp}{x:V}{d:Dt}(h:RV K A H x d)(n:pl d=true):Px H x=SJ d:=by
 cases d with
 |bg=>rw[h.eS];rfl
 |bl=>rw[h.bX];rfl
 |int=>rw[h.int_inv];rfl
 |str=>rw[h.str_inv];rfl
 |tup=>obtain⟨a,xs,rfl,h1,_⟩:=h.ar;unfold Px;dsimp only;rw[h1];rfl
 |lst=>obtain⟨a,xs,rfl,h1,_⟩:=h.lst_inv;unfold Px;dsimp only;rw[h1];rfl
 |_=>simp[pl]at n
mutual
theorem RV.inj{K:Frag}{A B:Addr->Prop}{H:Hp}:∀{x d e},RV K A H x d->RV K B H x e->pl d=true->pl e=true->d=e
 |x,.bg,e,h,g,m,n=>by have t:=(h.tg m).symm.trans (g.tg n);cases e<;>first|rfl|exact absurd t (W7 rfl)
 |x,.bl b,e,h,g,m,n=>by have t:=(h.tg m).symm.trans (g.tg n);cases e<;>first|exact absurd t (W7 rfl)|(cases h.bX.symm.trans g.bX;rfl)
 |x,.int b,e,h,g,m,n=>by have t:=(h.tg m).symm.trans (g.tg n);cases e<;>first|exact absurd t (W7 rfl)|(cases h.int_inv.symm.trans g.int_inv;rfl)
 |x,.str b,e,h,g,m,n=>by have t:=(h.tg m).symm.trans (g.tg n);cases e<;>first|exact absurd t (W7 rfl)|(cases h.str_inv.symm.trans g.str_inv;rfl)
 |x,.tup ds,e,h,g,m,n=>by
  have t:=(h.tg m).symm.trans (g.tg n);cases e with
  |tup es=>obtain⟨a,xs,rfl,h1,h2⟩:=h.ar;obtain⟨b,ys,q,g1,g2⟩:=g.ar;cases q;rw[h1]at g1;cases g1;rw[ao.inj h2 g2 (by simpa [pl]using m) (by simpa [pl]using n)]
  |_=>exact absurd t (W7 rfl)
 |x,.lst ds,e,h,g,m,n=>by
  have t:=(h.tg m).symm.trans (g.tg n);cases e with
  |lst es=>obtain⟨a,xs,rfl,h1,_,h2⟩:=h.lst_inv;obtain⟨b,ys,q,g1,_,g2⟩:=g.lst_inv;cases q;rw[h1]at g1;cases g1;rw[ao.inj h2 g2 (by simpa [pl]using m) (by simpa [pl]using n)]
  |_=>exact absurd t (W7 rfl)
 |x,.bO ds,_,_,_,n,_=>by simp[pl]at n
 |x,.iL ..,_,_,_,n,_=>by simp[pl]at n
 |x,.obj ..,_,_,_,n,_=>by simp[pl]at n
 |x,.exc ..,_,_,_,n,_=>by simp[pl]at n
theorem ao.inj{K:Frag}{A B:Addr->Prop}{H:Hp}:∀{xs ds es},ao K A H xs ds->ao K B H xs es->mD ds=true->mD es=true->ds=es
 |xs,[],es,h,g,_,_=>by
  cases xs with
  |nil=>rw[g.eF]
  |cons=>unfold ao at h;exact h.elim
 |xs,d::ds,es,h,g,m,n=>by
  cases xs with
  |nil=>unfold ao at h;exact h.elim
  |cons x xs=>unfold ao at h;obtain⟨e,t,rfl,g1,g2⟩:=g.xg;have m':=Bool.and_eq_true_iff.mp m;have n':=Bool.and_eq_true_iff.mp n;rw[RV.inj h.1 g1 m'.1 n'.1,ao.inj h.2 g2 m'.2 n'.2]
end
def AL(ds es:List Dt)(j:Nat):Bool:=match ds[j]?,es[j]? with
 |some d,some e=>eJ d e
 |_,_=>true
theorem dg:∀ds es:List Dt,((List.range (min ds.length es.length)).all (AL ds es)&&ds.length==es.length)=eU ds es
 |[],[]=>by simp[eU]
 |[],_::_=>by simp[eU]
 |_::_,[]=>by simp[eU]
 |d::ds,e::es=>by
  have ih:=dg ds es;have hm:min (d::ds).length (e::es).length=min ds.length es.length+1:=by simp only[T8];lia
  have e1:((d::ds).length==(e::es).length)=(ds.length==es.length):=by rw[UN];simp
  rw[hm,List.range_succ_eq_map,Vj,List.all_map,e1,eU,<-ih,Bool.and_assoc];rfl
theorem tx{d:Dt}:∀{ds:List Dt}{j:Nat},ds[j]?=some d->dp d<=qp ds
 |[],_,h=>by simp at h
 |d'::ds,0,h=>by simp at h;subst h;unfold qp;lia
 |d'::ds,j+1,h=>by have:=tx (ds:=ds) (j:=j) ‹h›;unfold qp;lia
theorem jW{d:Dt}:∀{ds:List Dt}{j:Nat},mD ds=true->ds[j]?=some d->pl d=true
 |[],_,_,h=>by simp at h
 |d'::ds,0,n,h=>by simp at h;subst h;simp only[mD,TC]at n;exact n.1
 |d'::ds,j+1,n,h=>by simp only[mD,TC]at n;exact jW (ds:=ds) (j:=j) n.2 ‹h›
section
variable{P:Program}{w:World}{K:Frag}{A B:Addr->Prop}{H:Hp}{s:Shared}
theorem dM(hok:fi P w H s.heap){a:Addr}{xs:List V}(h:H a=some (.lst xs)):∃its:List Value,aw xs its/\s.heap.IsList a its.toArray:=by obtain⟨_,its,n,r,t⟩:=hok a _ h;exact⟨its,r,⟨_,t,rfl,_,rfl⟩⟩
inductive Kd(K:Frag)(A:Addr->Prop)(H:Hp)(s:Shared):Value->Dt->Prop
 |i (i:Int) (t:Tok):Kd K A H s (.int i t) (.int i)
 |t {a:Addr} {its:List Value} {ds:List Dt} (z:its.toArray.size=ds.length) (h:s.heap.IsTuple a its.toArray) (g:∃xs,ao K A H xs ds/\aw xs its):Kd K A H s (.ref a) (.tup ds)
 |l {a:Addr} {its:List Value} {ds:List Dt} (z:its.toArray.size=ds.length) (h:s.heap.IsList a its.toArray) (g:∃xs,ao K A H xs ds/\aw xs its):Kd K A H s (.ref a) (.lst ds)
theorem kd(hok:fi P w H s.heap){d:Dt}{x:V}{u:Value}(hp:pl d=true)(hx:RV K A H x d)(rx:RelV x u):Kd K A H s u d:=by
 cases d with
 |int b=>have:=hx.int_inv;subst this;obtain⟨t,rfl⟩:=rx;exact .i b t
 |tup ds=>obtain⟨a,xs,q,f,g⟩:=hx.ar;subst q;cases rx;obtain⟨its,r,ht⟩:=Mx.aV hok f;exact .t (by rw[TF,<-r.length,g.length]) ht ⟨_,g,r⟩
 |lst ds=>obtain⟨a,xs,q,f,_,g⟩:=hx.lst_inv;subst q;cases rx;obtain⟨its,r,ht⟩:=dM hok f;exact .l (by rw[TF,<-r.length,g.length]) ht ⟨_,g,r⟩
 |_=>simp[pl]at hp
theorem zg{n:Nat}(ih:∀(d e:Dt)(x y:V)(u v:Value)(R:Around),dp d<=n->pl d=true->pl e=true->R.units+n<cLine->RV K A H x d->RV K B H y e->RelV x u->RelV y v->EqAt R s u v (eJ d e)){uO uP:List V}{i1 i2:List Dt}{jQ cn:List Value}{R:Around}(g1:ao K A H uO i1)(g2:ao K B H uP i2)(r1:aw uO jQ)(r2:aw uP cn)(l1:jQ.toArray.size=i1.length)(l2:cn.toArray.size=i2.length)
  (p1:mD i1=true) (p2:mD i2=true) (hd:qp i1<=n) (hu:R.in1.units+n<cLine) (j:Nat) (h1:j<jQ.toArray.size) (h2:j<cn.toArray.size):EqAt R.in1 s jQ.toArray[j] cn.toArray[j] (AL i1 i2 j):=by
 have zN:j<uO.length:=by rw[g1.length,<-l1];exact h1
 have zO:j<uP.length:=by rw[g2.length,<-l2];exact h2
 obtain⟨d,c1,c2⟩:=g1.get (i:=j) (x:=uO[j]) (by simp[zN]);obtain⟨e,k1,k2⟩:=g2.get (i:=j) (x:=uP[j]) (by simp[zO]);obtain⟨u,Kq,ru⟩:=r1.get (i:=j) (x:=uO[j]) (by simp[zN]);obtain⟨v,Os,rv⟩:=r2.get (i:=j) (x:=uP[j]) (by simp[zO]);have eu:jQ.toArray[j]=u:=by simp only[VI];exact(TJ.mp Kq).2
 have ev:cn.toArray[j]=v:=by simp only[VI];exact(TJ.mp Os).2
 rw[eu,ev,show AL i1 i2 j=eJ d e by unfold AL;rw[c1,k1]];exact ih d e uO[j] uP[j] u v R.in1 (TX (tx c1) hd) (jW p1 c1) (jW p2 k1) hu c2 k2 ru rv
theorem Ey(hok:fi P w H s.heap):∀(n:Nat)(d e:Dt)(x y:V)(u v:Value)(R:Around),dp d<=n->pl d=true->pl e=true->R.units+n<cLine->RV K A H x d->RV K B H y e->RelV x u->RelV y v->EqAt R s u v (eJ d e):=by
 intro n
 induction n with
 |zero=>
  intro d e x y u v R hd nR kg hu hx hy rx ry;have k2:=kd hok kg hy ry;cases kd hok nR hx rx with
  |i i1 t1=>cases k2 with
   |i i2 t2=>exact EqAt.int_int i1 t1 i2 t2
   |t _ h=>exact EqAt.int_tuple i1 t1 h ()
   |l _ h=>exact EqAt.int_list i1 t1 h ()
  |_=>unfold dp at hd;lia
 |succ n ih=>
  intro d e x y u v R hd nR kg hu hx hy rx ry;have k2:=kd hok kg hy ry;cases kd hok nR hx rx with
  |t l1 ht1 o1=>
   rename_i a1 _ i1;obtain⟨uO,g1,r1⟩:=o1;cases k2 with
   |i i2 t2=>exact EqAt.tuple_int i2 t2 ht1 ()
   |l _ h=>exact EqAt.tuple_list ht1 h ()
   |t l2 qu o2=>
    rename_i a2 _ i2;obtain⟨uP,g2,r2⟩:=o2;by_cases gh:a1=a2
    ·subst gh;obtain⟨_,_,rfl,_⟩:=hx.ar;obtain⟨_,_,rfl,_⟩:=hy.ar;cases rx;cases ry;have:=RV.inj hx hy nR kg;cases this;rw[ib _ nR];exact EqAt.same _
    refine EqAt.of_refs gh ?_;have q:=dg i1 i2;have key:=RcAt.tuples (A:=R) (e:=AL i1 i2) ht1 qu () (zg ih g1 g2 r1 r2 l1 l2 (by simpa [pl]using nR) (by simpa [pl]using kg) (by unfold dp at hd;lia) (by show R.units+1+n<cLine;lia));rw[<-l1,<-l2]at q;rw[q]at key;exact key
  |l l1 ht1 o1=>
   rename_i a1 _ i1;obtain⟨uO,g1,r1⟩:=o1;cases k2 with
   |i i2 t2=>exact EqAt.list_int i2 t2 ht1 ()
   |t _ h=>exact EqAt.list_tuple ht1 h ()
   |l l2 qu o2=>
    rename_i a2 _ i2;obtain⟨uP,g2,r2⟩:=o2;by_cases gh:a1=a2
    ·subst gh;obtain⟨_,_,rfl,_⟩:=hx.lst_inv;obtain⟨_,_,rfl,_⟩:=hy.lst_inv;cases rx;cases ry;have:=RV.inj hx hy nR kg;cases this;rw[ib _ nR];exact EqAt.same _
    refine EqAt.of_refs gh ?_;have q:=dg i1 i2;by_cases hl:i1.length=i2.length
    ·have key:=RcAt.lists (A:=R) (e:=AL i1 i2) ht1 qu () () (zg ih g1 g2 r1 r2 l1 l2 (by simpa [pl]using nR) (by simpa [pl]using kg) (by unfold dp at hd;lia) (by show R.units+1+n<cLine;lia));rw[hl,Nat.min_self,WU,UM]at q;rw[l1,hl,q]at key;exact key
    ·have key:=RcAt.lists_lengths (A:=R) ht1 qu (by rw[l1,l2];simpa using hl) ();have hb:(i1.length==i2.length)=false:=by simpa using hl
     rw[hb,UL]at q;show RcAt R s _ _ (eU i1 i2);rw[<-q];exact key
  |_=>exact ih _ e x y _ v R (by unfold dp;lia) nR kg () hx hy rx ry
end
inductive R(α:Type)where
 |ok (a:α)|ex (c:Nat)|bad
def R.bind{α β:Type}:R α->(α->R β)->R β
 |.ok a,f=>f a
 |.ex c,_=>.ex c
 |.bad,_=>.bad
@[simp] theorem R.ah{α β:Type}(a:α)(f:α->R β):(R.ok a).bind f=f a:=rfl
def R.nx{α:Type}:R α->R α
 |.ok a=>.ok a
 |_=>.bad
abbrev lim:Nat:=1000000
abbrev ai:=List (Option Dt)
abbrev Sx:=Option (List Int)
def af(b:Bool){α:Type}(r:R α):R α:=if b then r else .bad
@[simp] theorem guard_true{α:Type}(r:R α):af true r=r:=rfl
def kI(o:Operator)(a b:Dt):R Dt:=match o with
 |.Add=>match a,b with
  |.int i,.int j=>.ok (.int (i+j))
  |.lst x,.lst y=>af (decide (x.length+y.length<=lim)) (.ok (.lst (x++y)))
  |.tup x,.tup y=>af (decide (x.length+y.length<=lim)) (.ok (.tup (x++y)))
  |_,_=>.bad
 |.Sub=>match a,b with
  |.int i,.int j=>.ok (.int (i-j))
  |_,_=>.bad
 |.Mult=>match a,b with
  |.int i,.int j=>af (decide (i.natAbs<2^64)||decide (j.natAbs<2^64)) (.ok (.int (i*j)))
  |.lst x,.int k=>af (decide (k.natAbs<=lim)&&decide (x.length*k.toNat<=lim)) (.ok (.lst (List.replicate k.toNat x).flatten))
  |.tup x,.int k=>af (decide (k.natAbs<=lim)&&decide (x.length*k.toNat<=lim)) (.ok (.tup (List.replicate k.toNat x).flatten))
  |_,_=>.bad
 |.FloorDiv=>match a,b with
  |.int i,.int j=>af (decide (j≠0)&&decide (j.natAbs.log2<9000)) (.ok (.int (i.fdiv j)))
  |_,_=>.bad
 |.Mod=>match a,b with
  |.int i,.int j=>af (decide (j≠0)) (.ok (.int (i.fmod j)))
  |_,_=>.bad
 |_=>.bad
def inD(d:Dt)(ds:List Dt):Bool:=ds.any λe=>eJ e d
def qL(d e:Dt):Bool:=pl d&&pl e&&decide (dp d<=100)
def itemsOf:Dt->Option (List Dt)
 |.lst ds=>some ds
 |.tup ds=>some ds
 |.bO ns=>some (ns.map Dt.int)
 |_=>none
def cM:Dt->Option (List Dt)
 |.lst ds=>some ds
 |.tup ds=>some ds
 |_=>none
mutual
noncomputable def xH:Mx.D->Mx.D->Bool
 |.int _,.int _=>true
 |.str _,.str _=>true
 |.tup a,.tup b=>nc a b
 |_,_=>false
noncomputable def nc:List Mx.D->List Mx.D->Bool
 |x::xs,y::ys=>xH x y&&nc xs ys
 |_,_=>true
end
def cN:CmpOp->Dt->Dt->R Bool
 |.Eq,a,b=>af (qL a b) (.ok (eJ a b))
 |.NotEq,a,b=>af (qL a b) (.ok (!eJ a b))
 |.Lt,.int i,.int j=>.ok (decide (i<j))
 |.LtE,.int i,.int j=>.ok (decide (i<=j))
 |.Gt,.int i,.int j=>.ok (decide (j<i))
 |.GtE,.int i,.int j=>.ok (decide (j<=i))
 |.GtE,.tup a,.tup b=>match fW a,fW b with
  |some xs,some ys=>af (nc xs ys&&decide (Mx.D.e9 xs<=100)) (.ok (!Mx.D.fO xs ys))
  |_,_=>.bad
 |.Is,a,.bg=>.ok (match a with|.bg=>true|_=>false)
 |.IsNot,a,.bg=>.ok (match a with|.bg=>false|_=>true)
 |.NotIn,a,.lst ds=>af (pl a&&mD ds&&decide (qp ds<=100)) (.ok (!inD a ds))
 |_,_,_=>.bad
def de:Dt->R Bool
 |.bg=>.ok false
 |.bl b=>.ok b
 |.int i=>.ok (i != 0)
 |.str y=>af (decide (y.length<=lim)) (.ok ((y.length:Int) != 0))
 |.lst ds=>.ok !ds.isEmpty
 |.tup ds=>.ok !ds.isEmpty
 |.bO ds=>.ok !ds.isEmpty
 |_=>.bad
def wQ(ds:List Dt)(i:Int):R Dt:=match nB ds i with
 |some d=>.ok d
 |none=>.bad
def cF:Dt->Dt->R Dt
 |.lst ds,.int i=>wQ ds i
 |.tup ds,.int i=>wQ ds i
 |.bO ns,.int i=>wQ (ns.map Dt.int) i
 |_,_=>.bad
def cutD{α:Type}(xs:List α)(lo hi:Option Int):List α:=(xs.drop (HT.cv xs.length 0 lo)).take (HT.cv xs.length xs.length hi-HT.cv xs.length 0 lo)
def dQ:Dt->Option Int->Option Int->R Dt
 |.lst ds,lo,hi=>.ok (.lst (cutD ds lo hi))
 |.bO ds,lo,hi=>.ok (.lst (cutD (ds.map Dt.int) lo hi))
 |.tup ds,lo,hi=>.ok (.tup (cutD ds lo hi))
 |_,_,_=>.bad
local macro_rules|`(())=>`(Unit.unit)
inductive BI where
 |len|abs|min2|max2|sum|any|all|minL|maxL|sorted|tuple|list|isi (T:String)|dvm
 deriving DecidableEq
local macro_rules|`(())=>`(by lia)
def intsOf:List Dt->Option (List Int)
 |[]=>some []
 |.int i::r=>(intsOf r).map (i:: ·)
 |_=>none
def iD:List Dt->Option (List Bool)
 |[]=>some []
 |.bl i::r=>(iD r).map (i:: ·)
 |_=>none
def vP(a b:Mx.D):Bool:= !Mx.D.lt b a
def eZ(ds:List Mx.D):List Mx.D:=ds.mergeSort vP
def KA(k:Mx.SK):Mx.D->Bool
 |.tup (.tup _::_)=>k== .tt
 |.tup (.str _::_)=>k== .ts
 |.tup (.int _::_)=>k== .ti
 |.str _=>k== .s
 |.int _=>k== .i
 |_=>false
def kB(ds:List Mx.D):Bool:=decide (ds.length<1000000)&&(decide (ds.length<2)||(decide (Mx.D.e9 ds<=100)&&([Mx.SK.tt,.ts,.ti,.s,.i].any λk=>ds.all (KA k))&&ds.all λd=>ds.all λe=>xH d e))
def dd:List Str->List Str
 |[]=>[]
 |x::r=>if x∈dd r then dd r else x::dd r
def iP:List Int->Int
 |[]=>0
 |[a]=>a
 |a::r=>min a (iP r)
def c6:List Int->Int
 |[]=>0
 |[a]=>a
 |a::r=>max a (c6 r)
def strsOf:List Dt->Option (List Str)
 |[]=>some []
 |.str i::r=>(strsOf r).map (i:: ·)
 |_=>none
def cT(xs ys:List Dt):List Dt:=List.zipWith (λx y=>Dt.tup [x,y]) xs ys
def vi:Nat->List Dt->List Dt
 |_,[]=>[]
 |i,x::xs=>Dt.tup [.int i,x]::vi (i+1) xs
def xD(T:String):Dt->R Bool
 |.str _=>.ok (T=="str")
 |.int _=>.ok (T=="int")
 |.bl _=>.ok (T=="bool"||T=="int")
 |.lst _=>.ok (T=="list")
 |.tup _=>.ok (T=="tuple")
 |.bg=>.ok false
 |_=>.bad
def Q6(d:Dt):Option (Str×Dt):=match d with
 |.tup ds=>match ds with
  |[a,v]=>match a with
   |.str k=>some (k,v)
   |_=>none
  |_=>none
 |_=>none
def c9(b:BI)(as:List Dt):R Dt:=match b with
 |.len=>match as with
  |[.lst ds]=>.ok (.int ds.length)
  |[.tup ds]=>.ok (.int ds.length)
  |[.bO ds]=>.ok (.int ds.length)
  |_=>.bad
 |.abs=>match as with
  |[.int i]=>.ok (.int (if i<0 then -i else i))
  |_=>.bad
 |.min2=>match as with
  |[.int i,.int j]=>.ok (.int (if j<i then j else i))
  |_=>.bad
 |.max2=>match as with
  |[.int i,.int j]=>.ok (.int (if j>i then j else i))
  |_=>.bad
 |.sum=>match as with
  |[.lst ds]=>match intsOf ds with|some ns=>.ok (.int ns.sum)|none=>.bad
  |[.tup ds]=>match intsOf ds with|some ns=>.ok (.int ns.sum)|none=>.bad
  |_=>.bad
 |.any=>match as with
  |[.lst ds]=>match iD ds with|some ns=>.ok (.bl (ns.any id))|none=>.bad
  |_=>.bad
 |.all=>match as with
  |[.lst ds]=>match iD ds with|some ns=>.ok (.bl (ns.all id))|none=>.bad
  |_=>.bad
 |.minL=>match as with
  |[.lst ds]=>match intsOf ds with|some ns=>af (!ns.isEmpty) (.ok (.int (iP ns)))|none=>.bad
  |_=>.bad
 |.sorted=>match as with
  |[d]=>match itemsOf d with
   |some ds=>match fW ds with
    |some ms=>af (kB ms) (.ok (.lst (cP (eZ ms))))
    |none=>.bad
   |none=>.bad
  |_=>.bad
 |.tuple=>match as with
  |[.lst ds]=>.ok (.tup ds)
  |[.tup ds]=>.ok (.tup ds)
  |_=>.bad
 |.list=>match as with
  |[.lst ds]=>.ok (.lst ds)
  |[.tup ds]=>.ok (.lst ds)
  |[.bO ns]=>.ok (.lst (ns.map Dt.int))
  |_=>.bad
 |.isi T=>match as with
  |[d]=>(xD T d).bind λb=>.ok (.bl b)
  |_=>.bad
 |.maxL=>match as with
  |[.lst ds]=>match intsOf ds with|some ns=>af (!ns.isEmpty) (.ok (.int (c6 ns)))|none=>.bad
  |_=>.bad
 |.dvm=>match as with
  |[.int i,.int j]=>af (decide (j≠0)&&decide (j.natAbs.log2<9000)) (.ok (.tup [.int (i.fdiv j),.int (i.fmod j)]))
  |_=>.bad
def isStr:Dt->Bool
 |.str _=>true
 |_=>false
inductive MT where
 |join
 deriving DecidableEq
def Ss:MT->Dt->List Dt->R Dt
 |.join,.str z,[.lst ds]=>match strsOf ds with
  |some ys=>af (decide ((ys.map (·.length)).sum+ys.length*z.length<=lim)) (.ok (.str (PySem.Txt.join z ys)))
  |none=>.bad
 |_,_,_=>.bad
inductive Tg where
 |nm (i:Nat)|tp (is:List Nat)
 deriving DecidableEq
mutual
inductive C where
 |con (d:Dt)|var (i:Nat)|mvr (i:Nat)
 |bin (o:Operator) (a b:C)|cmp (o:CmpOp) (a b:C)|ch (o p:CmpOp) (a b c:C)
 |neg (a:C)|nt (a:C)|and (a b:C)|or (a b:C)|ite (t a b:C)
 |idx (a b:C)|sliL (a lo:C)|sliH (a hi:C)|sliB (a lo hi:C)
 |tup (es:Cs)|lst (es:Cs)
 |call (f:Nat) (es:Cs) (ds:List Dt)|callD (f:Nat) (es:Cs)|popD|lenD
 |bi (b:BI) (es:Cs)|mt (m:MT) (o:C) (es:Cs)
 |JS (i:Nat) (k e:C)|cJ (i:Nat)|gtO (o k e:C)
 |comp (cap:List (Option Nat)) (it:kJ) (tg:Tg) (ts:Cs) (e:C)
 |gw (cap:List (Option Nat)) (it:kJ) (tg:Tg) (ts:Cs) (gr:kJ) (i5:Tg) (D6:Cs) (e:C)
inductive Cs where
 |nil|cons (c:C) (cs:Cs)
inductive kJ where
 |seq (c:C)|rng1 (c:C)|rng2 (a b:C)|zip (a b:C)|enum (c:C)|zipR (a c:C)
end
def Cs.all(p:C->Bool):Cs->Bool
 |.nil=>true
 |.cons c cs=>p c&&cs.all p
mutual
noncomputable def lk:C->Nat
 |.mvr _=>1
 |.and _ _=>0
 |.or _ _=>0
 |.ite _ a b=>max (lk a) (lk b)
 |.idx a _=>if lk a<=1 then 0 else 2
 |.sliL a _=>if lk a<=1 then 0 else 2
 |.sliH a _=>if lk a<=1 then 0 else 2
 |.sliB a _ _=>if lk a<=1 then 0 else 2
 |.bin _ a b=>if lk a<=1/\lk b<=1 then 0 else 2
 |.tup es=>if sQ es=0 then 0 else 2
 |.lst es=>if sQ es=0 then 0 else 2
 |.call _ es _=>if sQ es=0 then 0 else 2
 |.callD _ es=>if sQ es=0 then 0 else 2
 |.bi _ es=>if sQ es<=1 then 0 else 2
 |.JS _ _ e=>lk e
 |.gtO o _ e=>if lk o=0 then lk e else 2
 |_=>0
noncomputable def sQ:Cs->Nat
 |.nil=>0
 |.cons c cs=>max (lk c) (sQ cs)
end
def kG:kJ->Nat
 |.seq c=>lk c
 |.zip a b=>max (lk a) (lk b)
 |.enum c=>lk c
 |.zipR a _=>lk a
 |_=>0
def Dt.Ky:Dt->Bool
 |.bg=>true
 |_=>false
def fresh(fr:Nat->Bool):C->Bool
 |.con d=>d.Ky
 |.lst _=>true
 |.comp ..=>true
 |.gw ..=>true
 |.bi .sorted _=>true
 |.bi .list _=>true
 |.bin ..=>true
 |.sliH ..=>true
 |.call f _ _=>fr f
 |.callD f _=>fr f
 |_=>false
def ba(c:C)(d:Dt):Bool:=decide (lk c=0)||rh d
def kv(c:C)(d:Dt):Bool:=decide (lk c=0)||match d with|.lst ds=>gj ds|d=>rh d
def dY(ρ:ai)(i:Nat):R Dt:=match ρ[i]? with
 |some (some d)=>.ok d
 |_=>.bad
def fK(cap:List (Option Nat))(ρ:ai):ai:=cap.map λo=>o.bind λi=>(ρ[i]?).join
def gX:List Nat->List Dt->ai->R ai
 |[],[],ρ=>.ok ρ
 |i::is,d::ds,ρ=>gX is ds (ρ.set i (some d))
 |_,_,_=>.bad
def f7:Tg->Dt->ai->R ai
 |.nm i,d,ρ=>.ok (ρ.set i (some d))
 |.tp is,.tup ds,ρ=>gX is ds ρ
 |_,_,_=>.bad
def r8(is:List Nat)(d:Dt)(ρ:ai):R ai:=match d with
 |.tup ds=>gX is ds ρ
 |.lst ds=>gX is ds ρ
 |_=>.bad
def aE(f:Dt->Sx->R (List Dt×Sx)):List Dt->Sx->R (List Dt×Sx)
 |[],S=>.ok ([],S)
 |x::xs,S=>(f x S).bind λp=>(aE f xs p.2).bind λq=>.ok (p.1++q.1,q.2)
def aB(tg:Tg)(Py:ai->Sx->R (Bool×Sx))(body:ai->Sx->R (List Dt×Sx))(ρ:ai)(d:Dt)(S:Sx):R (List Dt×Sx):=
 (f7 tg d ρ).bind λρ1=>(Py ρ1 S).bind λb=>if b.1 then body ρ1 b.2 else .ok ([],b.2)
def aM(lo:Int)(n:Nat):List Dt:=(List.range n).map λ(i:Nat)=>Dt.int (lo+(i:Int))
def NC(d:Mx.D):List Dt->List Dt->Option Dt
 |k::ks,v::vs=>if toD k=some d then some v else NC d ks vs
 |_,_=>none
def JF(d:Mx.D)(v:Dt):List Dt->List Dt->List Dt
 |k::ks,x::vs=>(if toD k=some d then v else x)::JF d v ks vs
 |_,vs=>vs
def KB(k:Dt):Option Mx.D:=match toD k with
 |some (.tup ds)=>if Mx.D.dep (.tup ds)<=8 then some (.tup ds) else none
 |_=>none
def JC(z k e:Dt):R Dt:=match z with
 |.iL ks vs=>match KB k with
  |some d=>.ok ((NC d ks vs).getD e)
  |none=>.bad
 |_=>.bad
def JG(z k v:Dt):R Dt:=match z with
 |.iL ks vs=>match KB k with
  |some d=>af (decide (ks.length<lim)) (.ok (if (NC d ks vs).isSome then .iL ks (JF d v ks vs) else .iL (ks++[k]) (vs++[v])))
  |none=>.bad
 |_=>.bad
def Ay(ks vs:List Mx.D):List Mx.D:=(ks.zip vs).map λz=>.tup [z.1,z.2]
def JH(z:Dt):R Dt:=match z with
 |.iL ks vs=>match fW ks,fW vs with
  |some ms,some ns=>af (kB (Ay ms ns)) (.ok (.lst (cP (eZ (Ay ms ns)))))
  |_,_=>.bad
 |_=>.bad
def Ox:Dt->Bool
 |.obj _ _=>true
 |_=>false
def QE(y:Str):List Str->List Dt->Option Dt
 |k::ks,v::vs=>if k=y then some v else QE y ks vs
 |_,_=>none
def K0(z k e:Dt):R Dt:=match z with
 |.obj ks vs=>match k with
  |.str y=>.ok ((QE y ks vs).getD e)
  |_=>.bad
 |_=>.bad
def Kx(ρ:ai)(i:Nat):Bool:=match ρ[i]? with|some (some (.iL _ _))=>true|_=>false
abbrev FT:=Nat->List Dt->Sx->R (Dt×Sx)
mutual
noncomputable def ev(F:FT):C->ai->Sx->R (Dt×Sx)
 |.con d,_,S=>.ok (d,S)
 |.var i,ρ,S=>(dY ρ i).bind λd=>.ok (d,S)
 |.mvr i,ρ,S=>(dY ρ i).bind λd=>.ok (d,S)
 |.bin o a b,ρ,S=>(ev F a ρ S).bind λx=>(ev F b ρ x.2).bind λy=>(kI o x.1 y.1).bind λd=>.ok (d,y.2)
 |.cmp o a b,ρ,S=>(ev F a ρ S).bind λx=>(ev F b ρ x.2).bind λy=>(cN o x.1 y.1).bind λd=>.ok (.bl d,y.2)
 |.ch o p a b c,ρ,S=>(ev F a ρ S).bind λx=>(ev F b ρ x.2).bind λy=>(cN o x.1 y.1).bind λd=>
   if d then(ev F c ρ y.2).bind λz=>(cN p y.1 z.1).bind λe=>.ok (.bl e,z.2) else .ok (.bl false,y.2)
 |.neg a,ρ,S=>(ev F a ρ S).bind λx=>match x.1 with|.int i=>.ok (.int (-i),x.2)|_=>.bad
 |.nt a,ρ,S=>(ev F a ρ S).bind λx=>match x.1 with|.bl b=>.ok (.bl !b,x.2)|_=>.bad
 |.and a b,ρ,S=>(ev F a ρ S).bind λx=>match x.1 with|.bl true=>(ev F b ρ x.2).bind λy=>(match y.1 with|.bl c=>.ok (.bl c,y.2)|_=>.bad)|.bl false=>.ok (.bl false,x.2)|_=>.bad
 |.or a b,ρ,S=>(ev F a ρ S).bind λx=>match x.1 with|.bl false=>(ev F b ρ x.2).bind λy=>(match y.1 with|.bl c=>.ok (.bl c,y.2)|_=>.bad)|.bl true=>.ok (.bl true,x.2)|_=>.bad
 |.ite t a b,ρ,S=>(cA F t ρ S).bind λx=>if x.1 then ev F a ρ x.2 else ev F b ρ x.2
 |.idx a b,ρ,S=>(ev F a ρ S).bind λx=>(ev F b ρ x.2).bind λy=>(cF x.1 y.1).bind λd=>.ok (d,y.2)
 |.sliL a l,ρ,S=>(ev F a ρ S).bind λx=>(ev F l ρ x.2).bind λy=>match y.1 with|.int i=>(dQ x.1 (some i) none).bind λd=>.ok (d,y.2)|_=>.bad
 |.sliH a h,ρ,S=>(ev F a ρ S).bind λx=>(ev F h ρ x.2).bind λy=>match y.1 with|.int i=>(dQ x.1 none (some i)).bind λd=>.ok (d,y.2)|_=>.bad
 |.sliB a l h,ρ,S=>(ev F a ρ S).bind λx=>(ev F l ρ x.2).bind λy=>match y.1 with|.int i=>(ev F h ρ y.2).bind λz=>(match z.1 with|.int j=>(dQ x.1 (some i) (some j)).bind λd=>.ok (d,z.2)|_=>.bad)|_=>.bad
 |.tup es,ρ,S=>(gf F es ρ S).bind λx=>af (decide (x.1.length<=lim)) (.ok (.tup x.1,x.2))
 |.lst es,ρ,S=>(gf F es ρ S).bind λx=>af (decide (x.1.length<=lim)) (.ok (.lst x.1,x.2))
 |.call f es ds,ρ,S=>(gf F es ρ S).bind λx=>(F f (x.1++ds) none).bind λy=>.ok (y.1,x.2)
 |.callD f es,ρ,S=>af S.isSome ((gf F es ρ S).bind λx=>match x.2 with|some s=>F f x.1 (some s)|none=>.bad)
 |.popD,_,S=>match S with|some ns=>af (!ns.isEmpty) (.ok (.int (ns.getLastD 0),some ns.dropLast))|none=>.bad
 |.lenD,_,S=>match S with|some ns=>.ok (.int ns.length,S)|none=>.bad
 |.JS i k e,ρ,S=>af (Kx ρ i) ((ev F k ρ S).bind λx=>(ev F e ρ x.2).bind λy=>(dY ρ i).bind λz=>(JC z x.1 y.1).bind λd=>.ok (d,y.2))
 |.cJ i,ρ,S=>(dY ρ i).bind λz=>(JH z).bind λd=>.ok (d,S)
 |.gtO o k e,ρ,S=>(ev F o ρ S).bind λz=>af (Ox z.1) ((ev F k ρ z.2).bind λx=>(ev F e ρ x.2).bind λy=>(K0 z.1 x.1 y.1).bind λd=>.ok (d,y.2))
 |.bi b es,ρ,S=>(gf F es ρ S).bind λx=>(c9 b x.1).bind λd=>.ok (d,x.2)
 |.mt m o es,ρ,S=>(ev F o ρ S).bind λy=>af (isStr y.1) ((gf F es ρ y.2).bind λx=>(Ss m y.1 x.1).bind λd=>.ok (d,x.2))
 |.comp cap it tg ts e,ρ,S=>(cg F it ρ S).bind λx=>af (decide (x.1.length<=lim)&&(decide (kG it<=1)||jL F it ρ S))
   ((aE (aB tg (a6 F ts) (λρ1 S1=>(ev F e ρ1 S1).bind λy=>af (ba e y.1) (.ok ([y.1],y.2))) (fK cap ρ)) x.1 x.2).bind λq=>.ok (.lst q.1,q.2))
 |.gw cap it tg ts gr i5 D6 e,ρ,S=>(cg F it ρ S).bind λx=>af (decide (x.1.length<=lim)&&(decide (kG it<=1)||jL F it ρ S))
   ((aE (aB tg (a6 F ts) (λρ1 S1=>(cg F gr ρ1 S1).bind λx2=>af (decide (x.1.length*x2.1.length<=lim)&&decide (kG gr=0))
    (aE (aB i5 (a6 F D6) (λρ2 S2=>(ev F e ρ2 S2).bind λy=>af (ba e y.1) (.ok ([y.1],y.2))) ρ1) x2.1 x2.2)) (fK cap ρ)) x.1 x.2).bind λq=>.ok (.lst q.1,q.2))
noncomputable def cA(F:FT):C->ai->Sx->R (Bool×Sx)
 |.nt a,ρ,S=>(cA F a ρ S).bind λx=>.ok (!x.1,x.2)
 |.and a b,ρ,S=>(cA F a ρ S).bind λx=>if x.1 then cA F b ρ x.2 else .ok (false,x.2)
 |.or a b,ρ,S=>(cA F a ρ S).bind λx=>if x.1 then .ok (true,x.2) else cA F b ρ x.2
 |.cmp o a b,ρ,S=>(ev F a ρ S).bind λx=>(ev F b ρ x.2).bind λy=>(cN o x.1 y.1).bind λd=>.ok (d,y.2)
 |.ch o p a b c,ρ,S=>(ev F a ρ S).bind λx=>(ev F b ρ x.2).bind λy=>(cN o x.1 y.1).bind λd=>
   if d then(ev F c ρ y.2).bind λz=>(cN p y.1 z.1).bind λe=>.ok (e,z.2) else .ok (false,y.2)
 |.var i,ρ,S=>(dY ρ i).bind λd=>(de d).bind λb=>.ok (b,S)
 |.mvr i,ρ,S=>(dY ρ i).bind λd=>(de d).bind λb=>.ok (b,S)
 |.call f es ds,ρ,S=>(gf F es ρ S).bind λx=>(F f (x.1++ds) none).bind λy=>(de y.1).bind λb=>.ok (b,x.2)
 |.callD f es,ρ,S=>af S.isSome ((gf F es ρ S).bind λx=>match x.2 with|some s=>(F f x.1 (some s)).bind λy=>(de y.1).bind λb=>.ok (b,y.2)|none=>.bad)
 |.bi b es,ρ,S=>(gf F es ρ S).bind λx=>(c9 b x.1).bind λd=>(de d).bind λb=>.ok (b,x.2)
 |.idx a b,ρ,S=>(ev F a ρ S).bind λx=>(ev F b ρ x.2).bind λy=>(cF x.1 y.1).bind λd=>(de d).bind λb=>.ok (b,y.2)
 |_,_,_=>.bad
noncomputable def gf(F:FT):Cs->ai->Sx->R (List Dt×Sx)
 |.nil,_,S=>.ok ([],S)
 |.cons c cs,ρ,S=>(ev F c ρ S).bind λx=>(gf F cs ρ x.2).bind λy=>.ok (x.1::y.1,y.2)
noncomputable def a6(F:FT):Cs->ai->Sx->R (Bool×Sx)
 |.nil,_,S=>.ok (true,S)
 |.cons c .nil,ρ,S=>cA F c ρ S
 |_,_,_=>.bad
noncomputable def cg(F:FT):kJ->ai->Sx->R (List Dt×Sx)
 |.seq c,ρ,S=>(ev F c ρ S).bind λx=>match itemsOf x.1 with|some ds=>.ok (ds,x.2)|none=>.bad
 |.rng1 c,ρ,S=>(ev F c ρ S).bind λx=>match x.1 with|.int j=>af (decide (j<=lim)&&decide (-lim<=j)) (.ok (aM 0 j.toNat,x.2))|_=>.bad
 |.rng2 a b,ρ,S=>(ev F a ρ S).bind λx=>(ev F b ρ x.2).bind λy=>match x.1,y.1 with
   |.int i,.int j=>af (decide (i.natAbs<=lim)&&decide (j.natAbs<=lim)) (.ok (aM i (j-i).toNat,y.2))|_,_=>.bad
 |.zip a b,ρ,S=>(ev F a ρ S).bind λx=>(ev F b ρ x.2).bind λy=>match cM x.1,cM y.1 with
   |some xs,some ys=>.ok (cT xs ys,y.2)|_,_=>.bad
 |.enum c,ρ,S=>(ev F c ρ S).bind λx=>match cM x.1 with|some ds=>.ok (vi 0 ds,x.2)|none=>.bad
 |.zipR a c,ρ,S=>(ev F a ρ S).bind λx=>(ev F c ρ x.2).bind λy=>match cM x.1,y.1 with
   |some xs,.int j=>af (decide (j<=lim)&&decide (-lim<=j)) (.ok (cT xs (aM 0 j.toNat),y.2))|_,_=>.bad
noncomputable def jL(F:FT):kJ->ai->Sx->Bool
 |.seq c,ρ,S=>match ev F c ρ S with|.ok x=>rh x.1|_=>false
 |_,_,_=>false
end
inductive Fl where
 |next|brk|cnt|ret (d:Dt)
mutual
inductive T where
 |asg (i:Nat) (c:C)|asgM (i:Nat) (c:C)|asgD (i:Nat) (c:C)|mov (i j:Nat)|asgT (is:List Nat) (c:C)
 |aug (i:Nat) (o:Operator) (c:C)
 |ya (i:Nat) (k v:C)|app (i:Nat) (c:C)|xtd (i:Nat) (c:C)|clr (i:Nat)
 |FP (c:C)|ret (c:C)|retN|ifs (t:C) (a b:Ts)|fr (tg:Tg) (it:kJ) (b:Ts)|frq (tg:Tg) (it:kJ) (j:Nat) (c:C)|wh (t:C) (b:Ts)
 |ND (i:Nat)|dset (i:Nat) (k v:C)
 |rs (k:Nat) (vs:List Nat)|tr (b:Ts) (BS:List (Option Bool))|brk|cnt|pas
inductive Ts where
 |nil|cons (t:T) (ts:Ts)
end
abbrev RS:=R (Fl×ai×Sx)
def forL(tg:Tg)(body:ai->Sx->RS):List Dt->ai->Sx->RS
 |[],ρ,S=>.ok (.next,ρ,S)
 |x::xs,ρ,S=>(f7 tg x ρ).bind λρ1=>(body ρ1 S).bind λp=>match p.1 with
  |.next=>forL tg body xs p.2.1 p.2.2
  |.cnt=>forL tg body xs p.2.1 p.2.2
  |.brk=>.ok (.next,p.2)
  |.ret d=>.ok (.ret d,p.2)
def BU(test:ai->Sx->R (Bool×Sx))(body:ai->Sx->RS):Nat->ai->Sx->RS
 |0,_,_=>.bad
 |n+1,ρ,S=>(test ρ S).bind λb=>if b.1 then(body ρ b.2).bind λp=>match p.1 with
   |.next=>BU test body n p.2.1 p.2.2
   |.cnt=>BU test body n p.2.1 p.2.2
   |.brk=>.ok (.next,p.2)
   |.ret d=>.ok (.ret d,p.2)
  else .ok (.next,ρ,b.2)
def Bn:Nat:=100000
def isLE(ρ:ai)(i:Nat):Bool:=match ρ[i]? with
 |some (some (.lst _))=>true
 |_=>false
def l8(ρ:ai)(i:Nat):R (List Dt):=match ρ[i]? with
 |some (some (.lst ds))=>.ok ds
 |_=>.bad
mutual
noncomputable def ex(F:FT):T->ai->Sx->RS
 |.asg i c,ρ,S=>(ev F c ρ S).bind λx=>af (ba c x.1) (.ok (.next,ρ.set i (some x.1),x.2))
 |.asgM i c,ρ,S=>(ev F c ρ S).bind λx=>af (kv c x.1) (.ok (.next,ρ.set i (some x.1),x.2))
 |.asgD i c,ρ,S=>(ev F c ρ S).bind λx=>match x.1 with|.lst ds=>(match intsOf ds with|some ns=>af (decide (lk c=0)&&decide (i<ρ.length)) (.ok (.next,ρ.set i none,some ns))|none=>.bad)|_=>.bad
 |.mov i j,ρ,S=>(dY ρ j).bind λd=>.ok (.next,(ρ.set j none).set i (some d),S)
 |.asgT is c,ρ,S=>(ev F c ρ S).bind λx=>af (ba c x.1) ((r8 is x.1 ρ).bind λρ1=>.ok (.next,ρ1,x.2))
 |.aug i o c,ρ,S=>(dY ρ i).bind λd=>(ev F c ρ S).bind λx=>match d,x.1 with
   |.int _,.int _=>(kI o d x.1).bind λz=>.ok (.next,ρ.set i (some z),x.2)
   |.str _,.str _=>(kI o d x.1).bind λz=>.ok (.next,ρ.set i (some z),x.2)
   |_,_=>.bad
 |.ya i k v,ρ,S=>af (isLE ρ i) ((ev F v ρ S).bind λx=>(ev F k ρ x.2).bind λy=>af (ba v x.1) ((l8 ρ i).bind λds=>match y.1 with
   |.int n=>(match pB ds.length n with|some j=>.ok (.next,ρ.set i (some (.lst (ds.set j x.1))),y.2)|none=>.bad)|_=>.bad))
 |.ND i,ρ,S=>.ok (.next,ρ.set i (some (.iL [] [])),S)
 |.dset i k v,ρ,S=>af (Kx ρ i) ((ev F v ρ S).bind λx=>(ev F k ρ x.2).bind λy=>(dY ρ i).bind λz=>af (decide (lk v=0)) ((JG z y.1 x.1).bind λd=>.ok (.next,ρ.set i (some d),y.2)))
 |.app i c,ρ,S=>af (isLE ρ i) ((ev F c ρ S).bind λx=>af (ba c x.1) ((l8 ρ i).bind λds=>af (decide (ds.length<=lim)) (.ok (.next,ρ.set i (some (.lst (ds++[x.1]))),x.2))))
 |.xtd i c,ρ,S=>af (isLE ρ i) ((ev F c ρ S).bind λx=>af (decide (lk c<=1)) ((l8 ρ i).bind λds=>match x.1 with
   |.lst es=>af (decide (ds.length+es.length<=lim)) (.ok (.next,ρ.set i (some (.lst (ds++es))),x.2))|.tup es=>af (decide (ds.length+es.length<=lim)) (.ok (.next,ρ.set i (some (.lst (ds++es))),x.2))|_=>.bad))
 |.clr i,ρ,S=>(l8 ρ i).bind λ_=>.ok (.next,ρ.set i (some (.lst [])),S)
 |.FP c,ρ,S=>(ev F c ρ S).bind λx=>.ok (.next,ρ,x.2)
 |.ret c,ρ,S=>(ev F c ρ S).bind λx=>.ok (.ret x.1,ρ,x.2)
 |.retN,ρ,S=>.ok (.ret .bg,ρ,S)
 |.ifs t a b,ρ,S=>(cA F t ρ S).bind λx=>if x.1 then aP F a ρ x.2 else aP F b ρ x.2
 |.fr tg it b,ρ,S=>(cg F it ρ S).bind λx=>af (decide (kG it=0)||jL F it ρ S) (forL tg (aP F b) x.1 ρ x.2)
 |.frq tg it j c,ρ,S=>(cg F it ρ S).bind λx=>af (decide (kG it<=1)) (forL tg (λρ S=>(ev F c ρ S).bind λx=>af (ba c x.1) (.ok (.next,ρ.set j (some x.1),x.2))) x.1 ρ x.2)
 |.wh t b,ρ,S=>BU (cA F t) (aP F b) Bn ρ S
 |.rs _ _,_,_=>.bad
 |.tr b BS,ρ,S=>af S.isNone (match aP F b ρ S with|.ex k=>(match BS[k]? with|some (some v)=>.ok (.ret (.bl v),ρ,S)|_=>.bad)|r=>r)
 |.brk,ρ,S=>.ok (.brk,ρ,S)
 |.cnt,ρ,S=>.ok (.cnt,ρ,S)
 |.pas,ρ,S=>.ok (.next,ρ,S)
noncomputable def aP(F:FT):Ts->ai->Sx->RS
 |.nil,ρ,S=>.ok (.next,ρ,S)
 |.cons t ts,ρ,S=>(ex F t ρ S).bind λp=>match p.1 with
  |.next=>aP F ts p.2.1 p.2.2
  |f=>.ok (f,p.2)
end
structure Fn where
 ps:Nat
 n:Nat
 bo:Bool
 body:Ts
def iJ(F:FT)(f:Fn)(args:List Dt)(S:Sx):R (Dt×Sx):=
 if args.length+(if f.bo then 1 else 0)=f.ps then
  (aP F f.body ((if f.bo then[none] else[])++args.map some++List.replicate (f.n-f.ps) none) S).bind λp=>match p.1 with
   |.next=>.ok (.bg,p.2.2)
   |.ret d=>.ok (d,p.2.2)
   |_=>.bad
 else .bad
def au(fs:List Fn):Nat->FT
 |0,_,_,_=>.bad
 |n+1,f,args,S=>match fs[f]? with
  |some g=>iJ (au fs n) g args S
  |none=>.bad
structure G where
 fns:List (Str×Nat×List Dt×Bool)
 cons:List (Str×Dt)
 bls:List Str
 fr:Nat->Bool
 xs:List (Str×List (Str×Bool))
structure Gm where
 names:List (Str×NameKind)
 N:List Str
 M:List Bool
 δ:Option Nat
 κ:Option Nat
def Bl:Option NameKind->Bool
 |some .local=>true
 |some .cell=>true
 |some .free=>true
 |_=>false
def Al:Option NameKind->Bool
 |some .local=>true
 |some .cell=>true
 |_=>false
def EC:Option NameKind->Bool
 |some .globalImplicit=>true
 |_=>false
def CP(x:Str):List Str->Option Nat
 |[]=>none
 |y::r=>if x==y then some 0 else(CP x r).map (· + 1)
theorem pC{x:Str}:∀{l:List Str}{i:Nat},CP x l=some i->l[i]?=some x
 |[],i,h=>by simp[CP]at h
 |y::r,i,h=>by
  unfold CP at h;by_cases e:(x==y)=true
  ·rw[W0 e]at h;cases h;have:x=y:=by simpa using e
   simp[this]
  ·rw[WZ e]at h;obtain⟨j,h1,rfl⟩:=T5.mp h;simp[pC h1]
def fS(x:Str):Bool:= !(x==("__debug__":Str))&& !(x==("__classdict__":Str))&& !(x==("__name__":Str))
def slot(Γ:Gm)(x:Str):Option Nat:=if Bl (Γ.names.lookup x)&&fS x then CP x Γ.N else none
def gY(Γ:Gm)(x:Str):Option Nat:=if Al (Γ.names.lookup x)&&fS x then CP x Γ.N else none
def gi(Γ:Gm)(i:Nat):Bool:=Γ.M[i]?==some true
def plainS(Γ:Gm)(i:Nat):Bool:= !gi Γ i&& !(Γ.δ==some i)
def tN(x:Str):List (Str×Nat×List Dt×Bool)->Option (Nat×Nat×List Dt×Bool)
 |[]=>none
 |y::r=>if x==y.1 then some (0,y.2) else(tN x r).map λp=>(p.1+1,p.2)
def yQ:List (Str×Nat×BI):=[("len",1,.len),("abs",1,.abs),("min",2,.min2),("max",2,.max2),("sum",1,.sum),("any",1,.any),("all",1,.all),("min",1,.minL),("max",1,.maxL),("sorted",1,.sorted),("tuple",1,.tuple),("list",1,.list),("divmod",2,.dvm)]
def sZ(x:Str)(n:Nat):Option BI:=(yQ.find? λt=>t.1==x&&t.2.1==n).map (·.2.2)
def uL(x:Str):Option String:=
 if x==("str":Str) then some "str" else if x==("int":Str) then some "int" else if x==("bool":Str) then some "bool"
 else if x==("list":Str) then some "list" else if x==("tuple":Str) then some "tuple" else none
def kn(Γ:Gm):Expr->Option Nat
 |.Name x _=>(gY Γ x).bind λi=>if plainS Γ i then some i else none
 |_=>none
def dN(Γ:Gm):List Expr->Option (List Nat)
 |[]=>some []
 |e::es=>(kn Γ e).bind λi=>(dN Γ es).map (i:: ·)
def oO(Γ:Gm):Expr->Option Tg
 |.Name x p=>(kn Γ (.Name x p)).map .nm
 |.Tuple es _ _=>(dN Γ es).map .tp
 |_=>none
def NA(names:List (Str×NameKind)):List Str:=names.filterMap λp=>if Bl (some p.2) then some p.1 else none
def FB(names:List (Str×NameKind))(N:List Str):List (Option Nat):=names.filterMap λp=>match p.2 with
 |.local=>some none
 |.free=>some (CP p.1 N)
 |.cell=>some none
 |_=>none
def FC(cap:List (Option Nat))(M:List Bool):List Bool:=cap.map λo=>o.elim false λi=>M[i]?==some true
def BN(δ:Option Nat):List (Option Nat)->Option Nat
 |[]=>none
 |o::r=>if δ.isSome&&o==δ then some 0 else(BN δ r).map (· + 1)
def aY(Γ:Gm)(sc:Scope):Gm×List (Option Nat):=
 let cap:=FB sc.names Γ.N
 (⟨sc.names,NA sc.names,FC cap Γ.M,BN Γ.δ cap,BN Γ.κ cap⟩,cap)
def aT:Tg->List Nat
 |.nm i=>[i]
 |.tp is=>is
def yT(names on:List (Str×NameKind))(N' Nn:List Str)(cap:List (Option Nat)):Bool:=
 names.all (λy=>names.lookup y.1==some y.2&&(y.2 != .free||(on.lookup y.1==some .cell||on.lookup y.1==some .free)))&&
 (cap.length==N'.length)&&(List.range cap.length).all (λj=>match cap[j]? with
  |some (some i)=>(match N'[j]? with
   |some x=>Nn[i]?==some x&&names.lookup x==some .free
   |none=>false)
  |_=>true)
def Ov(Γ:Gm):Expr->Bool
 |.Name x _=>match slot Γ x with
  |some i=>Γ.δ==some i
  |none=>false
 |_=>false
mutual
noncomputable def cE:Nat->G->Gm->Expr->Option C
 |0,_,_,_=>none
 |n+1,g,Γ,e=>match e with
  |.Constant k _ _=>match k with
   |.int i=>some (.con (.int i))
   |.str x=>some (.con (.str x))
   |.bool x=>some (.con (.bl x))
   |.none=>some (.con .bg)
   |_=>none
  |.Name x _=>match slot Γ x with
   |some i=>if Γ.δ==some i||Γ.κ==some i then none else if gi Γ i then some (.mvr i) else some (.var i)
   |none=>if EC (Γ.names.lookup x)&&fS x then(g.cons.lookup x).map .con else none
  |.BinOp a o b _=>(cE n g Γ a).bind λa'=>(cE n g Γ b).bind λb'=>some (.bin o a' b')
  |.UnaryOp o a _=>(cE n g Γ a).bind λa'=>match o with
   |.USub=>some (.neg a')
   |.Not=>some (.nt a')
   |_=>none
  |.BoolOp o vs _=>cB n g Γ o vs
  |.Compare a os bs _=>match os,bs with
   |[o],[b]=>(cE n g Γ a).bind λa'=>(cE n g Γ b).bind λb'=>some (.cmp o a' b')
   |_,_=>none
  |.Subscript a b _=>match b with
   |.Slice (some l) none none _=>(cE n g Γ a).bind λa'=>(cE n g Γ l).bind λl'=>some (.sliL a' l')
   |.Slice none (some h) none _=>(cE n g Γ a).bind λa'=>(cE n g Γ h).bind λh'=>some (.sliH a' h')
   |b=>(cE n g Γ a).bind λa'=>(cE n g Γ b).bind λb'=>some (.idx a' b')
  |.Tuple es _ _=>(yl n g Γ es).bind λiG=>some (.tup iG)
  |.List es _=>(yl n g Γ es).bind λiG=>some (.lst iG)
  |.Call f as ks pos=>match f,as,ks with
   |.Name f _,a::as,[]=>u3 n g Γ f a as
   |_,_,_=>none
  |.ListComp elt gens sc _=>
   let b:=aY Γ sc
   if sc.kind== .function then(match gens with
   |[⟨tg,it,ifs,0⟩]=>(cI n g Γ tg it).bind λkF=>(oO b.1 tg).bind λk9=>(Cg n g b.1 ifs).bind λql=>(cE n g b.1 elt).bind λe'=>
    if yT sc.names Γ.names b.1.N Γ.N b.2&&decide b.1.N.Nodup then some (.comp b.2 kF k9 ql e') else none
   |[⟨tg,it,ifs,0⟩,⟨i5,gr,cY,0⟩]=>(cI n g Γ tg it).bind λkF=>(oO b.1 tg).bind λk9=>(Cg n g b.1 ifs).bind λql=>(cI n g b.1 i5 gr).bind λqT=>(oO b.1 i5).bind λmS=>(Cg n g b.1 cY).bind λsr=>(cE n g b.1 elt).bind λe'=>
    if yT sc.names Γ.names b.1.N Γ.N b.2&&decide b.1.N.Nodup&&(aT mS).all (λi=> !(aT k9).contains i) then some (.gw b.2 kF k9 ql qT mS sr e') else none
   |_=>none) else none
  |_=>none
noncomputable def yl:Nat->G->Gm->List Expr->Option Cs
 |0,_,_,_=>none
 |n+1,g,Γ,es=>match es with
  |[]=>some .nil
  |e::es=>(cE n g Γ e).bind λe'=>(yl n g Γ es).bind λiG=>some (.cons e' iG)
noncomputable def Cg:Nat->G->Gm->List Expr->Option Cs
 |0,_,_,_=>none
 |n+1,g,Γ,es=>match es with
  |[]=>some .nil
  |[e]=>(cE n g Γ e).bind λe'=>some (.cons e' .nil)
  |_=>none
noncomputable def cB:Nat->G->Gm->BoolOp->List Expr->Option C
 |0,_,_,_,_=>none
 |n+1,g,Γ,o,es=>match es with
  |[e]=>cE n g Γ e
  |e::es=>(cE n g Γ e).bind λe'=>(cB n g Γ o es).bind λiG=>some (match o with|.And=>.and e' iG|.Or=>.or e' iG)
  |[]=>none
noncomputable def cI:Nat->G->Gm->Expr->Expr->Option kJ
 |0,_,_,_,_=>none
 |n+1,g,Γ,tg,e=>match e with
  |.Call (.Name f p) [a] [] q=>if f==("range":Str) then(if EC (Γ.names.lookup f)&&g.bls.contains f then(cE n g Γ a).bind λa'=>some (.rng1 a') else none)
   else(cE n g Γ (.Call (.Name f p) [a] [] q)).bind λc=>some (.seq c)
  |.Call (.Name f p) [a,b] [] q=>if f==("range":Str) then(if EC (Γ.names.lookup f)&&g.bls.contains f then(cE n g Γ a).bind λa'=>(cE n g Γ b).bind λb'=>some (.rng2 a' b') else none)
   else if f==("zip":Str) then(match tg with
    |.Tuple ..=>if EC (Γ.names.lookup f)&&g.bls.contains f then(cE n g Γ a).bind λa'=>(cE n g Γ b).bind λb'=>some (.zip a' b') else none
    |_=>none)
   else(cE n g Γ (.Call (.Name f p) [a,b] [] q)).bind λc=>some (.seq c)
  |e=>(cE n g Γ e).bind λc=>some (.seq c)
noncomputable def u3:Nat->G->Gm->Str->Expr->List Expr->Option C
 |0,_,_,_,_,_=>none
 |n+1,g,Γ,f,a,as=>if EC (Γ.names.lookup f)&&fS f then(match tN f g.fns with
  |some (k,np,gD,bo)=>if bo then(match a with
    |.Name x _=>match slot Γ x with
     |some i=>if Γ.δ==some i&&as.length+1==np then none else none
     |none=>none
    |_=>none)
   else if as.length+1<=np&&np-(as.length+1)<=gD.length then(yl n g Γ (a::as)).bind λes=>some (.call k es (gD.drop (gD.length-(np-(as.length+1))))) else none
  |none=>if g.bls.contains f then
    (if f==("len":Str)&&Ov Γ a&&as.isEmpty then none
    else if f==("isinstance":Str) then(match as with
     |[.Name t _]=>if EC (Γ.names.lookup t)&&g.bls.contains t then(uL t).bind λT=>(cE n g Γ a).bind λa'=>some (.bi (.isi T) (.cons a' .nil)) else none
     |_=>none)
    else match a,as with
     |.Call (.Name r _) [b] [] _,[]=>if r==("reversed":Str) then none
       else if r==("set":Str) then none
       else(sZ f (as.length+1)).bind λi=>(yl n g Γ (a::as)).bind λes=>some (.bi i es)
     |.Call (.Name r _) [b,c] [] _,[]=>if r==("zip":Str) then none
       else(sZ f (as.length+1)).bind λi=>(yl n g Γ (a::as)).bind λes=>some (.bi i es)
     |_,_=>(sZ f (as.length+1)).bind λi=>(yl n g Γ (a::as)).bind λes=>some (.bi i es))
    else none)
  else none
end
section
variable{P:Program}{w:World}{K:Frag}{A B:Addr->Prop}{H:Hp}{s:Shared}
theorem elts(hok:fi P w H s.heap){uO uP:List V}{i1 i2:List Dt}{jQ cn:List Value}{R:Around}{n:Nat}(g1:ao K A H uO i1)(g2:ao K B H uP i2)(r1:aw uO jQ)(r2:aw uP cn)(l1:jQ.toArray.size=i1.length)(l2:cn.toArray.size=i2.length)
  (p1:mD i1=true) (p2:mD i2=true) (hd:qp i1<=n) (hu:R.in1.units+n<cLine) (j:Nat) (h1:j<jQ.toArray.size) (h2:j<cn.toArray.size):EqAt R.in1 s jQ.toArray[j] cn.toArray[j] (AL i1 i2 j):=zg (Ey hok n) g1 g2 r1 r2 l1 l2 p1 p2 hd hu j h1 h2
theorem Lm(hok:fi P w H s.heap)(n:Nat)(d e:Dt)(x y:V)(u v:Value)(R:Around)(hd:dp d<=n+1)(nR:pl d=true)(kg:pl e=true)(hu:R.units+n+1<cLine)(hx:RV K A H x d)(hy:RV K B H y e)(rx:RelV x u)(ry:RelV y v):RcAt R s u v (eJ d e):=by
 have k2:=kd hok kg hy ry;cases kd hok nR hx rx with
 |i i1 t1=>cases k2 with
  |i i2 t2=>exact RcAt.int_int i1 t1 i2 t2
  |t _ h=>exact RcAt.int_tuple i1 t1 h ()
  |l _ h=>exact RcAt.int_list i1 t1 h ()
 |t l1 ht1 o1=>
  rename_i i1;obtain⟨uO,g1,r1⟩:=o1;cases k2 with
  |i i2 t2=>exact RcAt.tuple_int i2 t2 ht1 ()
  |l _ h=>exact RcAt.tuple_list ht1 h ()
  |t l2 qu o2=>rename_i i2;obtain⟨uP,g2,r2⟩:=o2;have key:=RcAt.tuples (A:=R) (e:=AL i1 i2) ht1 qu () (elts hok g1 g2 r1 r2 l1 l2 (by simpa [pl]using nR) (by simpa [pl]using kg) (n:=n) (by unfold dp at hd;lia) (by show R.units+1+n<cLine;lia));have q:=dg i1 i2;rw[<-l1,<-l2]at q;rw[q]at key;exact key
 |l l1 ht1 o1=>
  rename_i i1;obtain⟨uO,g1,r1⟩:=o1;cases k2 with
  |i i2 t2=>exact RcAt.list_int i2 t2 ht1 ()
  |t _ h=>exact RcAt.list_tuple ht1 h ()
  |l l2 qu o2=>
   rename_i i2;obtain⟨uP,g2,r2⟩:=o2;have q:=dg i1 i2;by_cases hl:i1.length=i2.length
   ·have key:=RcAt.lists (A:=R) (e:=AL i1 i2) ht1 qu () () (elts hok g1 g2 r1 r2 l1 l2 (by simpa [pl]using nR) (by simpa [pl]using kg) (n:=n) (by unfold dp at hd;lia) (by show R.units+1+n<cLine;lia));rw[hl,Nat.min_self,WU,UM]at q;rw[l1,hl,q]at key;exact key
   ·have key:=RcAt.lists_lengths (A:=R) ht1 qu (by rw[l1,l2];simpa using hl) ();have hb:(i1.length==i2.length)=false:=by simpa using hl
    rw[hb,UL]at q;show RcAt R s _ _ (eU i1 i2);rw[<-q];exact key
theorem DQ(hok:fi P w H s.heap)(n:Nat)(d e:Dt)(x y:V)(u v:Value)(R:Around)(hd:dp d<=n+1)(nR:pl d=true)(kg:pl e=true)(hu:R.units+n+1<cLine)(hx:RV K A H x d)(hy:RV K B H y e)(rx:RelV x u)(ry:RelV y v):RcNeAt R s u v (!eJ d e):=by
 have k2:=kd hok kg hy ry;cases kd hok nR hx rx with
 |i i1 t1=>cases k2 with
  |i i2 t2=>exact RcNeAt.int_int i1 t1 i2 t2
  |t _ h=>exact RcNeAt.int_tuple i1 t1 h ()
  |l _ h=>exact RcNeAt.int_list i1 t1 h ()
 |t l1 ht1 o1=>
  rename_i i1;obtain⟨uO,g1,r1⟩:=o1;cases k2 with
  |i i2 t2=>exact RcNeAt.tuple_int i2 t2 ht1 ()
  |l _ h=>exact RcNeAt.tuple_list ht1 h ()
  |t l2 qu o2=>rename_i i2;obtain⟨uP,g2,r2⟩:=o2;have key:=RcNeAt.tuples (A:=R) (e:=AL i1 i2) ht1 qu () (elts hok g1 g2 r1 r2 l1 l2 (by simpa [pl]using nR) (by simpa [pl]using kg) (n:=n) (by unfold dp at hd;lia) (by show R.units+1+n<cLine;lia));have q:=dg i1 i2;rw[<-l1,<-l2]at q;rw[q]at key;exact key
 |l l1 ht1 o1=>
  rename_i i1;obtain⟨uO,g1,r1⟩:=o1;cases k2 with
  |i i2 t2=>exact RcNeAt.list_int i2 t2 ht1 ()
  |t _ h=>exact RcNeAt.list_tuple ht1 h ()
  |l l2 qu o2=>
   rename_i i2;obtain⟨uP,g2,r2⟩:=o2;have q:=dg i1 i2;by_cases hl:i1.length=i2.length
   ·have key:=RcNeAt.lists (A:=R) (e:=AL i1 i2) ht1 qu () () (elts hok g1 g2 r1 r2 l1 l2 (by simpa [pl]using nR) (by simpa [pl]using kg) (n:=n) (by unfold dp at hd;lia) (by show R.units+1+n<cLine;lia));rw[hl,Nat.min_self,WU,UM]at q;rw[l1,hl,q]at key;exact key
   ·have key:=RcNeAt.lists_lengths (A:=R) ht1 qu (by rw[l1,l2];simpa using hl) ();have hb:(i1.length==i2.length)=false:=by simpa using hl
    rw[hb,UL]at q;show RcNeAt R s _ _ (!eU i1 i2);rw[<-q];exact key
end
end Rx
end
section
namespace Mx
open L2 PySem.SeqAt
theorem rg:fillsNumberSlot (.type "tuple") "mul"=pure false:=
 PySem.fillsNumberSlot_seq (id:="tuple.__mul__") (r:=some (.builtin "tuple.__rmul__")) WO.lookup (by decide +kernel) PySem.F.slot_tuple_rmul.lookup (by decide +kernel)
theorem xW:seqRepeat? (.type "tuple")=pure (some (.builtin "tuple.__mul__")):=by unfold seqRepeat?;rw[PySem.seqSlot_of (T:="tuple") (name:="__mul__") (id:="tuple.__mul__") WO.lookup (by decide +kernel),PySem.seqSlot_of (T:="tuple") (name:="__rmul__") (id:="tuple.__rmul__") PySem.F.slot_tuple_rmul.lookup (by decide +kernel)];rfl
theorem AX(a:Int)(t:Tok)(l:Addr)(its:Array Value)(n:Nat):
  Meets (Builtin.«int.__rmul__» ⟨[.int a t,.ref l],[]⟩) (λ_ R s=>s.heap.get? l=some {cls:=.type "tuple",dict:=none,data:=.seq its n,slots:=#[]}/\R (.ok (.ret Value.notImplemented)) s):=
 .of_wp λprog w A R s h=>by obtain⟨hp,g,d,tk,os⟩:=s;obtain⟨hl,h⟩:=h;wp_walk;exact⟨_,rfl,h⟩
theorem D4(l:Addr)(its:List Value)(n:Nat)(k:Int)(u:Tok)(h1: -(2^63)<=k)(h2:k<2^63)(hz:its.length*k.toNat<=sizeLine):
  Meets (Builtin.«tuple.__mul__» ⟨[.ref l,.int k u],[]⟩) (λ_ R s=>s.heap.get? l=some {cls:=.type "tuple",dict:=none,data:=.seq its.toArray n,slots:=#[]}/\
   ((its=[]\/k=1)->R (.ok (.ret (.ref l))) s)/\(¬(its=[]\/k=1)->R (.ok (.ret (Value.ref s.heap.objs.size))) {s with heap:=s.heap.push {cls:=.type "tuple",data:=.seq (List.replicate k.toNat its).flatten.toArray}})):=
 .of_wp λprog w A R s h=>by
  obtain⟨hp,g,d,tk,os⟩:=s;obtain⟨hl,q1,q2⟩:=h;have hT:(⟨hp,g,d,tk,os⟩:Shared).TypeIs (.ref l) "tuple":=⟨_,hl,rfl⟩
  wp_walk
  rw[WZ (by simp only[Uy,WX];lia)];dsimp only;refine Tv (tupleItemsOf_ ⟨_,hl,rfl,n,rfl⟩ ?_);have e1:(its.toArray.isEmpty||k==1)=decide (its=[]\/k=1):=by
   cases its with
   |nil=>simp
   |cons a r=>rw[UN];simp
  rw[e1];by_cases hc:its=[]\/k=1
  ·rw[Uk hc,W0 rfl];unfold Builtin.Tuple.tupleIsExact;refine Tv (Tv (Xq hT (Tz ?_)));rw[W0 (by rfl)];exact Tv (Xm (Tz ⟨_,rfl,q1 hc⟩))
  ·rw[Ug hc,WZ ∅];have dH:its≠[]:=λz=>hc (.inl z)
   have he:its.toArray.isEmpty=false:=by cases its with|nil=>exact absurd rfl dH|cons a r=>rfl
   rw[he,Bool.or_false];by_cases hk:k<=0
   ·rw[Uk hk,W0 rfl];have k0:k.toNat=0:=()
    rw[k0]at q2;exact Tv (Xh (Tz ⟨_,rfl,q2 hc⟩))
   ·rw[Ug hk,WZ ∅];have Ql:(its.toArray.size:Int)*k=((its.length*k.toNat:Nat):Int):=by rw[TF,U7,Int.toNat_of_nonneg ()]
    have EI:=Xa;rw[WZ (by rw[Ql];lia)];unfold Builtin.Tuple.tupleTooMany;rw[WZ (by rw[Ql];intro z;have:=TH z;lia)];have Ga:List.foldl (λx1 x2=>x1++x2) #[] (List.replicate k.toNat its.toArray)=(List.replicate k.toNat its).flatten.toArray:=by have:=foldl_rep its k.toNat [];rw[V4]at this;exact this
    rw[Ga];refine Tv (Xh (Tz ⟨_,rfl,q2 hc⟩) ?_);show (List.replicate k.toNat its).flatten.toArray.size<=sizeLine;rw[TF,len_rep,Nat.mul_comm];exact hz
section
variable{X:Cx}
def Ll:R2:=λx y H Q=>∃l k xs,x= .ref l/\y= .int k/\H l=some (.tup xs)/\ -(2^63)<=k/\k<2^63/\xs.length*k.toNat<=sizeLine/\
 ((xs=[]\/k=1)->Q (.ref l) H)/\∀p,H p=none->Q (.ref p) (upd H p (.tup (List.replicate k.toNat xs).flatten))
theorem Dh:lp X (binaryOp .Mult) Ll:=by
 intro pins s σ H x y v u Q I rx ry h;obtain⟨l,k,xs,rfl,rfl,hH,h1,h2,hz,q1,q2⟩:=h;cases rx;obtain⟨t,rfl⟩:=ry;obtain⟨z,its,r,⟨c,dd,dt,sl⟩,e,w1,n,w2,w3,w4⟩:=(show bW X.prog X.w H s.heap l (.tup xs) from I.hok l _ hH);simp only at w1 w2 w3 w4;subst w1 w2 w3 w4;have hl:=r.length;refine wpAny_binaryOp_repeat_ref (T:="tuple") (U:="int") ⋯ ⟨_,e,rfl⟩ (λs'=>typeIs_int s' k t) rg F.fills_int_mul F.slot_int_rmul xW F.slot_int_index.lookup
  (WV F.slot_int_rmul (typeIs_int s k t) F.entry_int_rmul (F.args_int_rmul_2 _ _) (AX k t l its.toArray n)
   ⟨e,rfl,⟨_,e,rfl⟩,WV WO ⟨_,e,rfl⟩ PySem.F.entry_tuple_mul (PySem.F.args_tuple_mul_2 _ _) (D4 l its n k t h1 h2 (by rw[<-hl];exact hz)) ⟨e,λhc=>?_,λhc=>?_⟩⟩)
 ·refine⟨.ref l,H,I,rfl,q1 (hc.imp (λz=>?_) id)⟩;subst z;cases r;rfl
 ·exact⟨.ref s.heap.objs.size,_,I.laid (t':=s.toks) (o:=.tup (List.replicate k.toNat xs).flatten) (λb o q=>Tx _ q) (TM _) ⟨by rw[len_rep,Nat.mul_comm];exact hz,_,r.rep k.toNat,mX.new _ _⟩,rfl,q2 _ (I.hok.fresh (TM _))⟩
theorem oP:df X (.builtin "divmod") (λxs H Q=>∃i j,xs=[.int i,.int j]/\j≠0/\j.natAbs.log2<9000/\∀p,H p=none->Q (.ref p) (upd H p (.tup [.int (i.fdiv j),.int (i.fmod j)]))):=by intro pins s σ H xs us Q I r h;obtain⟨i,j,rfl,h1,h2,q⟩:=h;obtain⟨u,w',rfl,⟨t,rfl⟩,⟨t',rfl⟩⟩:=r.two;refine divmod_int h1 ?_ (.inl (PyProof.noPylong_of_log2 h2));refine⟨.ref s.heap.objs.size,_,?_,rfl,q _ (I.hok.fresh (TM _))⟩;exact I.laid (λb o e=>Tx _ e) (TM _) ⟨by simp only[T8,VL];rw[Xa];decide,[.int (i.fdiv j) s.toks,.int (i.fmod j) (s.toks+1)],.cons ⟨_,rfl⟩ (.cons ⟨_,rfl⟩ .nil),mX.new _ _⟩
theorem w5(hc:X.calm=true):df X (.builtin "sum") (λxs H Q=>∃(l:Addr)(ns:List Int),xs=[.ref l]/\H l=some (.tup (ns.map V.int))/\Q (.int ns.sum) H):=by
 intro pins s σ H xs us Q I r h;obtain⟨l,ns,rfl,hq,q⟩:=h;obtain⟨u,rfl,ru⟩:=r.one;cases ru;obtain⟨_,its,rv,tn⟩:=(show bW X.prog X.w H s.heap l (.tup (ns.map V.int)) from I.hok l _ hq);have hl:its.length=ns.length:=by rw[<-rv.length];simp
 have ht:s.heap.IsTuple l its.toArray:=tn.is;have cU:l<s.heap.objs.size:=tn.is.lt;refine call_sum_walkG (Xl ht ?_);refine⟨s.heap.objs.size,_,_,_,_,_,λi=>ns.getD i 0,rfl,Walks.tuple (A:=X.A.in1) (I.ok.hd hc) s.heap.objs.size l (Um cU) its.toArray,⟨⟨_,TQ _ rfl,rfl,rfl⟩,ht.push _⟩,λb hb=>?_,λi v hv=>?_,λh' tk t' hk=>?_⟩
 ·rcases TY.mp hb with rfl|hb
  ·exact TV (TQ _ rfl)
  ·obtain rfl:=Ur.mp hb;exact Nat.lt_trans cU (TV (TQ _ rfl))
 ·have BL:its.toArray[i]?=some v:=hv;exact int_at rv ‹BL›
 ·refine⟨.int _,H,I.kept λb o e=>hk b o (λz=>Wu _ ((Ur.mp z)▸TV e)) (Tx _ e),⟨t',rfl⟩,?_⟩;rw[show its.toArray.size=ns.length by simp[hl],pS,Wh];exact q
end
end Mx
end
section
namespace HT
section
variable{prog:Program}{w:World}{A:Around}{E:Value->Shared->Prop}{s:Shared}
theorem iB{t sl:Addr}{items:Array Value}{vl vu:Value}{lo hi:Option Int}{Q:Value->Shared->Prop}(ht:IsTup s.heap t items)(hs:s.heap.IsSliceOf sl vl vu .none)(pl:IsPart vl lo)(pu:IsPart vu hi)
  (hw:cv items.size 0 lo=0/\cv items.size items.size hi=items.size) (h:Q (.ref t) s) (nT:items.size<=sizeLine):wpAny (model prog w) A (getItem (.ref t) (.ref sl)) Q E s:=by
 obtain⟨os,Ge,Cw,Kf⟩:=id hs;have N4:s.TypeIs (.ref sl) "slice":=⟨os,Ge,Cw⟩;unfold getItem
 try with_reducible refine Xf ?_
 first|refine Tv (Tz ?_)|skip
 refine Tv (wpAny_sequenceKey ht.typeIs ⋯ ?_);refine Tv (Xc (name:=Str.ofString "__getitem__") ht.typeIs WK
  (Xd WK ht.typeIs entry_tuple_getitem ?_ (args_tuple_getitem _ _)))
 show wpAny _ _ (Builtin.Tuple.tupleItemsOf (.ref t) >>=_) _ _ s;refine Tv (tupleItemsOf_ ht ?_);refine Tv (Xq N4 ?_);rw[W0 ⋯];refine Tv (fD hs pl pu ?_);show wpAny _ _ (if (((cv items.size 0 lo:Nat):Int)==0&&(1:Int)==1&&(cv items.size items.size hi-cv items.size 0 lo)==items.size)=true then _ else _) _ _ s;rw[W0 (by rw[hw.1,hw.2];simp)];refine Tv (Tv (Xq ht.typeIs (Tz ?_)));rw[W0 ⋯];refine Tv (Xm ?_);exact Tz ⟨_,rfl,Tz h⟩
end
end HT
namespace Rx
open PySem.W L2 PySem.SeqAt
abbrev N0:Addr->Prop:=λ_=>False
def fX(K:Frag)(A:Addr->Prop)(H:Hp)(v:V):Dt->Prop
 |.lst ds=>∃a xs,v= .ref a/\H a=some (.lst xs)/\ao K A H xs ds
 |d=>RV K A H v d
def oG(K:Frag)(A:Addr->Prop)(H:Hp):List V->List Dt->Prop
 |[],[]=>True
 |x::xs,d::ds=>fX K A H x d/\oG K A H xs ds
 |_,_=>False
section
variable{K:Frag}{A:Addr->Prop}{H H':Hp}
theorem RV.one{v d}(h:RV K A H v d):fX K A H v d:=by
 cases d with
 |lst ds=>obtain⟨a,xs,h1,h2,_,h3⟩:=h.lst_inv;exact⟨a,xs,h1,h2,h3⟩
 |_=>exact h
theorem fX.ext{X:Addr->Prop}{v d}(h:fX K A H v d)(e:aU X H H')(hX:∀b,X b->A b)(hv:∀ds a,d= .lst ds->v= .ref a->¬X a):fX K A H' v d:=by
 cases d with
 |lst ds=>obtain⟨a,xs,h1,h2,h3⟩:=h;exact⟨a,xs,h1,e.kp _ _ h2 (hv ds a rfl h1),h3.mono e hX λ_ z=>z⟩
 |_=>exact RV.mono e hX (λ_ z=>z) h
theorem ao.ones:∀{vs ds},ao K A H vs ds->oG K A H vs ds
 |[],[],_=>trivial
 |[],_::_,h=>by unfold ao at h;exact h.elim
 |_::_,[],h=>by unfold ao at h;exact h.elim
 |_::_,_::_,h=>by unfold ao at h;exact⟨h.1.one,h.2.ones⟩
end
structure PR(K:Frag)(fr:Bool)(xs:List V)(ds:List Dt)(H:Hp)(d:Dt)(v:V)(H':Hp):Prop where
 same:cy H H'
 val:∀A:Addr->Prop,(∀a,A a->∃o,H a=some o)->oG K A H xs ds->RV K A H' v d
 kC:fr=true->∀es,d= .lst es->∃a ys,v= .ref a/\H a=none/\H' a=some (.lst ys)/\∀A:Addr->Prop,(∀a,A a->∃o,H a=some o)->oG K A H xs ds->ao K (λb=>A b\/b=a) H' ys es
def rP(K:Frag)(fr:Bool)(f:List Dt->R Dt):List V->Hp->VK->Prop:=λxs H Q=>∃ds d,ao K N0 H xs ds/\f ds= .ok d/\∀v H',PR K fr xs ds H d v H'->Q v H'
section
variable{K:Frag}{fr:Bool}{xs:List V}{ds:List Dt}{H:Hp}{d:Dt}
def qw:Dt->Bool
 |.bg|.bl _|.int _|.str _=>true
 |_=>false
def p6:Dt->V
 |.bl b=>.bl b
 |.int b=>.int b
 |.str b=>.str b
 |_=>.bg
theorem rV{A:Addr->Prop}(h:qw d=true):RV K A H (p6 d) d:=by
 cases d with
 |bg=>exact RV.pJ
 |bl b=>exact RV.ES
 |int b=>exact RV.fR
 |str b=>exact RV.ue
 |_=>simp[qw]at h
theorem PR.sc(h:qw d=true):PR K fr xs ds H d (p6 d) H:=⟨cy.refl _,λA _ _=>rV h,λ_ es e=>by subst e;simp[qw]at h⟩
theorem PR.rf{p:Addr}{ys:List V}{es:List Dt}(hp:H p=none)(h:∀A:Addr->Prop,oG K A H xs ds->ao K A H ys es):PR K fr xs ds H (.lst es) (.ref p) (upd H p (.lst ys)):=by
 have s:=Mx.eM hp (.lst ys);refine⟨s,λA hA q=>RV.iQ aN (λz=>?_) ((h A q).same s),λ_ iG e=>?_⟩
 ·obtain⟨o,e⟩:=hA p z;rw[hp]at e;cases e
 ·cases e;exact⟨p,ys,rfl,hp,aN,λA hA q=>((h A q).avoid hp).same s⟩
theorem PR.Aq{p:Addr}{ys:List V}{es:List Dt}(hp:H p=none)(h:∀A:Addr->Prop,oG K A H xs ds->ao K A H ys es):PR K fr xs ds H (.tup es) (.ref p) (upd H p (.tup ys)):=by have s:=Mx.eM hp (.tup ys);exact⟨s,λA hA q=>RV.iR aN ((h A q).same s),λ_ iG e=>by cases e⟩
theorem PR.qY{p:Addr}{ys:List V}{es:List Dt}(hp:H p=some (.tup ys))(h:∀A:Addr->Prop,oG K A H xs ds->ao K A H ys es):PR K fr xs ds H (.tup es) (.ref p) H:=
 ⟨cy.refl _,λA hA q=>RV.iR hp (h A q),λ_ iG e=>by cases e⟩
theorem fu:lim<=sizeLine:=by rw[Xa];decide
theorem a8{b:Bool}{α:Type}{r:R α}{a:α}(h:af b r= .ok a):b=true/\r= .ok a:=by
 cases b with
 |true=>exact⟨rfl,h⟩
 |false=>cases h
theorem fX.dM{A:Addr->Prop}{a:Addr}{xs:List V}{es:List Dt}(h:fX K A H (.ref a) (.lst es))(e:H a=some (.lst xs)):ao K A H xs es:=by obtain⟨b,ys,q,h1,h2⟩:=h;cases q;rw[e]at h1;cases h1;exact h2
theorem fX.aV{A:Addr->Prop}{a:Addr}{xs:List V}{es:List Dt}(h:fX K A H (.ref a) (.tup es))(e:H a=some (.tup xs)):ao K A H xs es:=by obtain⟨b,ys,q,h1,h2⟩:=RV.ar h;cases q;rw[e]at h1;cases h1;exact h2
end
section
variable{X:Cx}
def r2(K:Frag)(f:Dt->Dt->R Dt):R2:=λx y H Q=>∃d e z,RV K N0 H x d/\RV K N0 H y e/\f d e= .ok z/\∀v H',PR K true [x,y] [d,e] H z v H'->Q v H'
theorem oh{i:Int}(h:i.natAbs<2^64): -(2^64)<i/\i<2^64:=()
theorem G9:lp X (binaryOp .FloorDiv) (rI (λ_ j=>j≠0/\j.natAbs.log2<9000) λi j=>.int (i.fdiv j)):=ON λi j _ _ _ _ _ hc q=>floordiv_int hc.1 q (.inl (PyProof.noPylong_of_log2 hc.2))
theorem G7(o:Operator):lp X (binaryOp o) (r2 X.K (kI o)):=by
 intro pins s σ H x y v u Q I rx ry h;obtain⟨d,e,z,hx,hy,he,q⟩:=h;have Kl:=fu;unfold kI at he;split at he
 ·split at he
  ·rename_i i j;cases he;exact G6 pins s σ H x y v u Q I rx ry ⟨i,j,hx.int_inv,hy.int_inv,q _ _ (PR.sc (d:=.int _) rfl)⟩
  ·rename_i i j;obtain⟨g,he⟩:=a8 he;cases he;obtain⟨a,xs,rfl,h1,_,h2⟩:=hx.lst_inv;obtain⟨b,ys,rfl,k1,_,k2⟩:=hy.lst_inv;refine G8 pins s σ H _ _ v u Q I rx ry ⟨a,b,xs,ys,rfl,rfl,h1,k1,?_,λp hp=>q _ _ (PR.rf hp λA w=>?_)⟩
   ·rw[h2.length,k2.length];exact TX (TH g) Kl
   ·exact(fX.dM w.1 h1).append (fX.dM w.2.1 k1)
  ·rename_i i j;obtain⟨g,he⟩:=a8 he;cases he;obtain⟨a,xs,rfl,h1,h2⟩:=hx.ar;obtain⟨b,ys,rfl,k1,k2⟩:=hy.ar;by_cases hd:xs=[]
   ·subst hd;cases h2.eF;cases rx;cases ry;obtain⟨its,r1,p1,_⟩:=I.tuple (fj.of h1);obtain⟨cn,r2,p2,_⟩:=I.tuple (fj.of k1);cases r1;obtain⟨⟨cls,dd,data,sl⟩,ho,hc,n,CA⟩:=p1;obtain⟨⟨Jy,BA,data2,BR⟩,tW,xq,n2,tT⟩:=p2;simp only at hc CA xq tT;subst hc CA xq tT;exact concat_meets ⟨_,ho,rfl⟩ ⟨_,tW,rfl⟩ W6 seq_tuple_add WN WM (WL _ _)
     (Mx.tuple_addW0 a b _ _ n n2 dd BA sl BR rfl) ⟨ho,tW,⟨.ref b,H,I,rfl,q _ _ (PR.qY k1 λA w=>fX.aV w.2.1 k1)⟩⟩
   ·refine De pins s σ H (.ref a) (.ref b) v u Q I rx ry ⟨a,b,xs,ys,rfl,rfl,fj.of h1,fj.of k1,hd,?_,λe=>?_,λe p hp=>?_⟩
    ·rw[h2.length,k2.length];exact TX (TH g) Kl
    ·subst e;cases k2.eF;rw[Ux]at q;exact q _ _ (PR.qY h1 λA w=>fX.aV w.1 h1)
    ·exact q _ _ (PR.Aq hp λA w=>(fX.aV w.1 h1).append (fX.aV w.2.1 k1))
  ·cases he
 ·split at he
  ·rename_i i j;cases he;exact Hd pins s σ H x y v u Q I rx ry ⟨i,j,hx.int_inv,hy.int_inv,q _ _ (PR.sc (d:=.int _) rfl)⟩
  ·cases he
 ·split at he
  ·rename_i i j;obtain⟨g,he⟩:=a8 he;cases he;refine Hb pins s σ H x y v u Q I rx ry ⟨i,j,hx.int_inv,hy.int_inv,?_,q _ _ (PR.sc (d:=.int _) rfl)⟩;rw[Uy]at g;rcases g with g|g
   ·exact .inl (oh (TH g))
   ·exact .inr (oh (TH g))
  ·rename_i i j;obtain⟨g,he⟩:=a8 he;cases he;obtain⟨a,xs,rfl,h1,_,h2⟩:=hx.lst_inv;rw[TC]at g;have g1:=TH g.1;have g2:=TH g.2;have cm:lim=1000000:=rfl;refine Hc pins s σ H _ _ v u Q I rx ry ⟨a,j,xs,rfl,hy.int_inv,h1,(),(),?_,λp hp=>q _ _ (PR.rf hp λA w=>?_)⟩
   ·rw[h2.length];exact TX g2 Kl
   ·exact(fX.dM w.1 h1).rep _
  ·rename_i i j;obtain⟨g,he⟩:=a8 he;cases he;obtain⟨a,xs,rfl,h1,h2⟩:=hx.ar;rw[TC]at g;have g1:=TH g.1;have g2:=TH g.2;have cm:lim=1000000:=rfl;refine Mx.Dh pins s σ H _ _ v u Q I rx ry ⟨a,j,xs,rfl,hy.int_inv,h1,(),(),?_,λhc=>?_,λp hp=>q _ _ (PR.Aq hp λA w=>(fX.aV w.1 h1).rep _)⟩
   ·rw[h2.length];exact TX g2 Kl
   ·refine q _ _ (PR.qY h1 λA w=>?_);have:=fX.aV w.1 h1;rcases hc with rfl|rfl
    ·cases this.eF;have e:(List.replicate j.toNat ([]:List Dt)).flatten=[]:=by simp
     rw[e];exact ao.nil
    ·have e:(List.replicate (1:Int).toNat i).flatten=i:=by simp
     rw[e];exact this
  ·cases he
 ·split at he
  ·rename_i i j;obtain⟨g,he⟩:=a8 he;cases he;rw[TC]at g;exact G9 pins s σ H x y v u Q I rx ry ⟨i,j,hx.int_inv,hy.int_inv,⟨TH g.1,TH g.2⟩,q _ _ (PR.sc (d:=.int _) rfl)⟩
  ·cases he
 ·split at he
  ·rename_i i j;obtain⟨g,he⟩:=a8 he;cases he;exact Df pins s σ H x y v u Q I rx ry ⟨i,j,hx.int_inv,hy.int_inv,TH g,q _ _ (PR.sc (d:=.int _) rfl)⟩
  ·cases he
 ·cases he
def rC(K:Frag)(o:CmpOp):R2:=λx y H Q=>∃d e z,RV K N0 H x d/\RV K N0 H y e/\cN o d e= .ok z/\Q (.bl z) H
theorem B3{pins:List (Addr×Obj)}{s:Shared}{σ:L2.St}{H:Hp}{K:Frag}(I:Inv X pins σ H s)(hu:X.A.units+150<cLine){xs:List V}{ds:List Dt}{its:List Value}{x:V}{u:Value}{d:Dt}(r:aw xs its)(g:ao K N0 H xs ds)(rx:RelV x u)(hx:RV K N0 H x d)(p1:pl d=true)(p2:mD ds=true)(hd:qp ds<=100):
  ∃e:Value->Bool,(∀y,y∈its.toArray->EqAt X.A.in1 s y u (e y))/\its.toArray.any e=inD d ds:=by
 classical
 let e:Value->Bool:=λy=>decide (∃(j:Nat)(d':Dt),its[j]?=some y/\ds[j]?=some d'/\eJ d' d=true)
 have key:∀(j:Nat)(y:Value)(d':Dt),its[j]?=some y->ds[j]?=some d'->e y=eJ d' d:=λj y d' h1 h2=>by
  rw[UN];constructor
  ·intro h;obtain⟨j',SV,k1,k2,k3⟩:=TH h;have hj:j<xs.length:=by rw[r.length];exact(TJ.mp h1).1
   have xA:j'<xs.length:=by rw[r.length];exact(TJ.mp k1).1
   obtain⟨u1,a1,a2⟩:=r.get (i:=j) (x:=xs[j]) (by simp[hj]);obtain⟨u2,b1,b2⟩:=r.get (i:=j') (x:=xs[j']) (by simp[xA]);rw[h1]at a1;cases a1;rw[k1]at b1;cases b1;have ex:=RelV.inj a2 b2;obtain⟨d1,c1,c2⟩:=g.get (i:=j) (x:=xs[j]) (by simp[hj]);obtain⟨d2,e1,e2⟩:=g.get (i:=j') (x:=xs[j']) (by simp[xA]);rw[h2]at c1;cases c1;rw[k2]at e1;cases e1;rw[<-ex]at e2;rw[RV.inj c2 e2 (jW p2 h2) (jW p2 k2)];exact k3
  ·intro h;exact Uk ⟨j,d',h1,h2,h⟩
 refine⟨e,λy hy=>?_,?_⟩
 ·obtain⟨j,hj⟩:=V1.mp (by simpa using hy:y∈its);have Qk:j<xs.length:=by rw[r.length];exact(TJ.mp hj).1
  obtain⟨d',h1,h2⟩:=g.get (i:=j) (x:=xs[j]) (by simp[Qk]);obtain⟨u1,a1,a2⟩:=r.get (i:=j) (x:=xs[j]) (by simp[Qk]);rw[hj]at a1;cases a1;rw[key j y d' hj h1];exact Ey I.hok 100 d' d xs[j] x y u X.A.in1 (TX (tx h1) hd) (jW p2 h1) p1 (by show X.A.units+1+100<cLine;lia) h2 hx a2 rx
 ·rw[List.any_toArray];unfold inD;have hlen:its.length=ds.length:=by rw[<-r.length,g.length]
  clear_value e
  clear r g p2 hd
  induction its generalizing ds with
  |nil=>
   cases ds with
   |nil=>rfl
   |cons=>simp at hlen
  |cons y ys ih=>
   cases ds with
   |nil=>simp at hlen
   |cons d' xi=>rw[List.any_cons,List.any_cons,key 0 y d' rfl rfl,ih (λj y d' h1 h2=>key (j+1) y d' ‹h1› ‹h2›) ‹hlen›]
mutual
theorem vR:∀{d e:Mx.D},xH d e=true->Mx.D.ff d e
 |.int _,.int _,_=>by unfold Mx.D.ff;trivial
 |.str _,.str _,_=>by unfold Mx.D.ff;trivial
 |.tup a,.tup b,h=>by unfold Mx.D.ff;exact jU (by simpa [xH]using h)
 |.int _,.str _,h=>by simp[xH]at h
 |.int _,.tup _,h=>by simp[xH]at h
 |.str _,.int _,h=>by simp[xH]at h
 |.str _,.tup _,h=>by simp[xH]at h
 |.tup _,.int _,h=>by simp[xH]at h
 |.tup _,.str _,h=>by simp[xH]at h
theorem jU:∀{d e:List Mx.D},nc d e=true->Mx.D.iH d e
 |[],_,_=>by unfold Mx.D.iH;trivial
 |_::_,[],_=>by unfold Mx.D.iH;trivial
 |x::xs,y::ys,h=>by simp only[nc,TC]at h;unfold Mx.D.iH;exact⟨vR h.1,jU h.2⟩
end
theorem Av(o:CmpOp)(hu:X.A.units+150<cLine):lp X (compareOp o) (rC X.K o):=by
 intro pins s σ H x y v u Q I rx ry h;obtain⟨d,e,z,hx,hy,he,q⟩:=h;unfold cN at he;split at he
 ·obtain⟨g,he⟩:=a8 he;cases he;unfold qL at g;rw[TC,TC]at g;exact Lm I.hok 100 d e x y v u X.A (Nat.le_succ_of_le (TH g.2)) g.1.1 g.1.2 () hx hy rx ry X.prog X.w X.xe (EP X pins σ Q) ⟨.bl _,H,I,rfl,q⟩
 ·obtain⟨g,he⟩:=a8 he;cases he;unfold qL at g;rw[TC,TC]at g;exact DQ I.hok 100 d e x y v u X.A (Nat.le_succ_of_le (TH g.2)) g.1.1 g.1.2 () hx hy rx ry X.prog X.w X.xe (EP X pins σ Q) ⟨.bl _,H,I,rfl,q⟩
 ·rename_i i j;cases he;exact K6 pins s σ H x y v u Q I rx ry ⟨i,j,hx.int_inv,hy.int_inv,q⟩
 ·rename_i i j;cases he;exact K5 pins s σ H x y v u Q I rx ry ⟨i,j,hx.int_inv,hy.int_inv,q⟩
 ·rename_i i j;cases he;exact K4 pins s σ H x y v u Q I rx ry ⟨i,j,hx.int_inv,hy.int_inv,q⟩
 ·rename_i i j;cases he;exact K3 pins s σ H x y v u Q I rx ry ⟨i,j,hx.int_inv,hy.int_inv,q⟩
 ·split at he
  ·rename_i xs ys h1 h2;obtain⟨g,he⟩:=a8 he;cases he;rw[TC]at g;rw[jr h1]at hx;rw[jr h2]at hy;exact Mx.Cp I.hok 101 (.tup xs) (.tup ys) x y v u X.A (by have:=TH g.2;unfold Mx.D.dep;lia) () (by unfold Mx.D.ff;exact jU g.1) (RV.dv (m:=.tup xs) (by rw[ofD];exact hx)) (RV.dv (m:=.tup ys) (by rw[ofD];exact hy)) rx ry X.prog X.w X.xe (EP X pins σ Q) ⟨.bl _,H,I,rfl,by unfold Mx.D.lt at *;exact q⟩
  ·cases he
 ·cases he;refine Ha pins s σ H x y v u Q I rx ry ⟨hy.eS,?_⟩;cases d with
  |bg=>rw[hx.eS];exact q
  |bl b=>rw[hx.bX];exact q
  |int b=>rw[hx.int_inv];exact q
  |str b=>rw[hx.str_inv];exact q
  |tup b=>obtain⟨a,xs,rfl,_⟩:=hx.ar;exact q
  |lst b=>obtain⟨a,xs,rfl,_⟩:=hx.lst_inv;exact q
  |bO b=>obtain⟨a,rfl,_⟩:=hx.iq;exact q
  |iL=>exact hx.oY.elim
  |obj=>obtain⟨a,xs,rfl,_⟩:=hx.pP;exact q
  |exc=>exact hx.o6.elim
 ·cases he;refine Dg pins s σ H x y v u Q I rx ry ⟨hy.eS,?_⟩;cases d with
  |bg=>rw[hx.eS];exact q
  |bl b=>rw[hx.bX];exact q
  |int b=>rw[hx.int_inv];exact q
  |str b=>rw[hx.str_inv];exact q
  |tup b=>obtain⟨a,xs,rfl,_⟩:=hx.ar;exact q
  |lst b=>obtain⟨a,xs,rfl,_⟩:=hx.lst_inv;exact q
  |bO b=>obtain⟨a,rfl,_⟩:=hx.iq;exact q
  |iL=>exact hx.oY.elim
  |obj=>obtain⟨a,xs,rfl,_⟩:=hx.pP;exact q
  |exc=>exact hx.o6.elim
 ·obtain⟨g,he⟩:=a8 he;cases he;rw[TC,TC]at g;obtain⟨a,xs,rfl,h1,_,h2⟩:=hy.lst_inv;cases ry;obtain⟨its,r,t⟩:=dM I.hok h1;obtain⟨e,k1,k2⟩:=B3 I hu r h2 rx hx g.1.1 g.1.2 (TH g.2);exact notIn_listAt e t k1 ⟨.bl _,H,I,by rw[k2];rfl,q⟩
 ·cases he
theorem sX{ds:List Dt}{i:Int}{d:Dt}(h:wQ ds i= .ok d):nB ds i=some d:=by
 unfold wQ at h;split at h
 ·cases h;assumption
 ·cases h
theorem kL{K:Frag}{A:Addr->Prop}{H:Hp}{xs:List V}{ds:List Dt}{i:Int}{d:Dt}(g:ao K A H xs ds)(h:nB ds i=some d):∃v,nB xs i=some v/\RV K A H v d:=by
 unfold nB at h ⊢;rw[g.length];cases e:pB ds.length i with
 |none=>rw[e]at h;cases h
 |some j=>rw[e]at h;obtain⟨v,h1,h2⟩:=g.getD (i:=j) h;exact⟨v,h1,h2⟩
def rX(K:Frag):R2:=λx y H Q=>∃d e z,RV K N0 H x d/\RV K N0 H y e/\cF d e= .ok z/\∀v,PR K false [x,y] [d,e] H z v H->Q v H
theorem Gr:Ml X (rX X.K):=by
 intro value slice pins s σ H x y v u Q I rx ry h hs;obtain⟨d,e,z,hx,hy,he,q⟩:=h;unfold cF at he;split at he
 ·rename_i ds i;obtain⟨a,xs,rfl,h1,_,h2⟩:=hx.lst_inv;have nQ:=sX he;obtain⟨w,k1,k2⟩:=kL h2 nQ;refine vK value slice pins s σ H _ y v u Q I rx ry ⟨a,xs,i,w,rfl,hy.int_inv,dF.of h1,k1,q w ⟨cy.refl _,λA _ q'=>?_,λz=>by cases z⟩⟩ hs;obtain⟨w',m1,m2⟩:=kL (fX.dM q'.1 h1) nQ;rw[k1]at m1;cases m1;exact m2
 ·rename_i ds i;obtain⟨a,xs,rfl,h1,h2⟩:=hx.ar;have nQ:=sX he;obtain⟨w,k1,k2⟩:=kL h2 nQ;refine Gu value slice pins s σ H _ y v u Q I rx ry ⟨a,xs,i,w,rfl,hy.int_inv,fj.of h1,k1,q w ⟨cy.refl _,λA _ q'=>?_,λz=>by cases z⟩⟩ hs;obtain⟨w',m1,m2⟩:=kL (fX.aV q'.1 h1) nQ;rw[k1]at m1;cases m1;exact m2
 ·rename_i ns i;obtain⟨a,rfl,h1⟩:=hx.j0;have nQ:=sX he;have e1:nB ((ns.map V.int)) i=some (p6 z)/\qw z=true:=by
   unfold nB at nQ ⊢;rw[TU]at nQ ⊢;cases e:pB ns.length i with
   |none=>rw[e]at nQ;cases nQ
   |some j=>
    rw[e]at nQ;simp only[Option.bind_some,T9]at nQ ⊢;cases en:ns[j]? with
    |none=>rw[en]at nQ;cases nQ
    |some k=>rw[en]at nQ;simp at nQ;subst nQ;exact⟨rfl,rfl⟩
  exact vK value slice pins s σ H _ y v u Q I rx ry ⟨a,_,i,_,rfl,hy.int_inv,h1,e1.1,q _ (PR.sc e1.2)⟩ hs
 ·cases he
def rS(K:Frag):V->Option Int->Option Int->Hp->VK->Prop:=λx lo hi H Q=>∃d z,RV K N0 H x d/\dQ d lo hi= .ok z/\∀v H',PR K true [x] [d] H z v H'->Q v H'
theorem ao.cut{K:Frag}{A:Addr->Prop}{H:Hp}{xs:List V}{ds:List Dt}{lo hi:Option Int}(g:ao K A H xs ds):ao K A H (mY xs lo hi) (cutD ds lo hi):=by unfold mY cutD;rw[g.length];exact(g.drop _).take _
theorem tv{xs:List V}{lo hi:Option Int}(h:HT.cv xs.length 0 lo=0/\HT.cv xs.length xs.length hi=xs.length):mY xs lo hi=xs:=by unfold mY;rw[h.1,h.2];simp
theorem p8:Jj X (λx lo hi H Q=>∃a xs,x= .ref a/\H a=some (.tup xs)/\(HT.cv xs.length 0 lo=0/\HT.cv xs.length xs.length hi=xs.length)/\Q (.ref a) H):=by
 intro pins s σ H x v vl vu lo hi sl Q I rx hs pl pu h;obtain⟨a,xs,rfl,hx,hw,q⟩:=h;cases rx;obtain⟨its,r,ht,hz⟩:=I.tuple (fj.of hx);have hlen:its.toArray.size=xs.length:=by rw[TF];exact r.length.symm
 refine⟨"tuple",_,WK.lookup,ht.typeIs,?_⟩;refine HT.iB ht hs pl pu (by rw[hlen];exact hw) ⟨.ref a,H,I,rfl,q⟩ (by rw[hlen];exact hz)
theorem jg{K:Frag}{A:Addr->Prop}{H:Hp}:∀{ns:List Int},ao K A H (ns.map V.int) (ns.map Dt.int)
 |[]=>ao.nil
 |_::_=>ao.cons RV.fR jg
theorem A4:Jj X (rS X.K):=by
 intro pins s σ H x v vl vu lo hi sl Q I rx hs pl pu h;obtain⟨d,z,hx,he,q⟩:=h;unfold dQ at he;split at he
 ·cases he;obtain⟨a,xs,rfl,h1,_,h2⟩:=hx.lst_inv;exact wy pins s σ H _ v vl vu lo hi sl Q I rx hs pl pu ⟨a,xs,rfl,dF.of h1,λp hp=>q _ _ (PR.rf hp λA w=>(fX.dM w.1 h1).cut)⟩
 ·cases he;obtain⟨a,rfl,h1⟩:=hx.j0;exact wy pins s σ H _ v vl vu lo hi sl Q I rx hs pl pu ⟨a,_,rfl,h1,λp hp=>q _ _ (PR.rf hp λA w=>ao.cut jg)⟩
 ·cases he;obtain⟨a,xs,rfl,h1,h2⟩:=hx.ar;by_cases hw:HT.cv xs.length 0 lo=0/\HT.cv xs.length xs.length hi=xs.length
  ·refine p8 pins s σ H _ v vl vu lo hi sl Q I rx hs pl pu ⟨a,xs,rfl,h1,hw,q _ _ (PR.qY h1 λA w=>?_)⟩;have:=(fX.aV w.1 h1).cut (lo:=lo) (hi:=hi);rw[tv hw]at this;exact this
  ·exact Ib pins s σ H _ v vl vu lo hi sl Q I rx hs pl pu ⟨a,xs,rfl,fj.of h1,hw,λp hp=>q _ _ (PR.Aq hp λA w=>(fX.aV w.1 h1).cut)⟩
 ·cases he
theorem gJ{K:Frag}{A:Addr->Prop}{H:Hp}:∀{xs:List V}{ds:List Dt}{ns:List Int},ao K A H xs ds->intsOf ds=some ns->xs=ns.map V.int
 |xs,[],ns,g,h=>by simp[intsOf]at h;subst h;exact g.nil_inv
 |xs,d::ds,ns,g,h=>by
  obtain⟨x,r,rfl,g1,g2⟩:=g.cons_inv;cases d with
  |int i=>simp only[intsOf,T5]at h;obtain⟨ms,h1,rfl⟩:=h;rw[gJ g2 h1,g1.int_inv];rfl
  |_=>simp[intsOf]at h
theorem oN{K:Frag}{A:Addr->Prop}{H:Hp}:∀{xs:List V}{ds:List Dt}{ns:List Bool},ao K A H xs ds->iD ds=some ns->xs=ns.map V.bl
 |xs,[],ns,g,h=>by simp[iD]at h;subst h;exact g.nil_inv
 |xs,d::ds,ns,g,h=>by
  obtain⟨x,r,rfl,g1,g2⟩:=g.cons_inv;cases d with
  |bl i=>simp only[iD,T5]at h;obtain⟨ms,h1,rfl⟩:=h;rw[oN g2 h1,g1.bX];rfl
  |_=>simp[iD]at h
theorem jn:∀(ns:List Int),ns≠[]->iP ns∈ns/\∀a∈ns,iP ns<=a
 |[],h=>absurd rfl h
 |[a],_=>by simp[iP]
 |a::b::r,_=>by
  have ih:=jn (b::r) ∅;have e:iP (a::b::r)=min a (iP (b::r)):=rfl;rw[e];constructor
  ·by_cases h:a<=iP (b::r)
   ·rw[Int.min_eq_left h];exact TN
   ·rw[Int.min_eq_right ()];exact TK _ ih.1
  ·intro c hc;rcases TY.mp hc with e|hc
   ·rw[e];exact Int.min_le_left _ _
   ·exact Int.le_trans (Int.min_le_right _ _) (ih.2 c hc)
theorem cH:∀(ns:List Int),ns≠[]->c6 ns∈ns/\∀a∈ns,a<=c6 ns
 |[],h=>absurd rfl h
 |[a],_=>by simp[c6]
 |a::b::r,_=>by
  have ih:=cH (b::r) ∅;have e:c6 (a::b::r)=max a (c6 (b::r)):=rfl;rw[e];constructor
  ·by_cases h:a<=c6 (b::r)
   ·rw[Int.max_eq_right h];exact TK _ ih.1
   ·rw[Int.max_eq_left ()];exact TN
  ·intro c hc;rcases TY.mp hc with e|hc
   ·rw[e];exact Int.le_max_left _ _
   ·exact Int.le_trans (ih.2 c hc) (Int.le_max_right _ _)
theorem iK:∀{l l':List Mx.D},l.Perm l'->(l.Pairwise λa b=>Mx.D.lt b a=false)->(l'.Pairwise λa b=>Mx.D.lt b a=false)->l=l'
 |[],l',p,_,_=>(List.nil_perm.mp p).symm
 |a::t,l',p,h1,h2=>by
  cases l' with
  |nil=>exact absurd p.length_eq ∅
  |cons b t'=>
   rw[V8]at h1 h2;have gh:a=b:=by
    have ha:a∈b::t':=p.mem_iff.mp TN;have hb:b∈a::t:=p.mem_iff.mpr TN;rcases TY.mp ha with e|ha
    ·exact e
    rcases TY.mp hb with e|hb
    ·exact e.symm
    exact Mx.D.gM a b (h2.1 a ha) (h1.1 b hb)
   subst gh;rw[iK (List.perm_cons a |>.mp p) h1.2 h2.2]
theorem mN(ms:List Mx.D):(eZ ms).Perm ms/\(eZ ms).Pairwise λa b=>Mx.D.lt b a=false:=by
 unfold eZ;refine⟨List.mergeSort_perm ms vP,?_⟩;have h:=List.pairwise_mergeSort (le:=vP) (λa b c h1 h2=>by
  unfold vP at *;simp only[UQ]at *;cases h3:Mx.D.lt c a with
  |false=>rfl
  |true=>
   rcases Mx.JB.negTrans c b a h3 with h|h
   ·have h:Mx.D.lt c b=true:=h;rw[h2]at h;cases h
   ·have h:Mx.D.lt b a=true:=h;rw[h1]at h;cases h) (λa b=>by
  unfold vP;cases h:Mx.D.lt b a with
  |false=>rfl
  |true=>
   cases h':Mx.D.lt a b with
   |false=>rfl
   |true=>have:=Mx.D.lt_trans a b a h' h;rw[Mx.D.lt_irrefl]at this;cases this) ms
 exact h.imp λq=>by unfold vP at q;simpa using q
theorem A7{ms es:List Mx.D}(h:Mx.lu ms es):es=eZ ms:=iK (h.1.trans (mN ms).1.symm) h.2 (mN ms).2
theorem Gw{k:Mx.SK}{d:Mx.D}(h:KA k d=true):k.ok d:=by
 unfold KA at h;split at h
 ·have e:=Ud h;subst e;exact⟨_,_,rfl⟩
 ·have e:=Ud h;subst e;exact⟨_,_,rfl⟩
 ·have e:=Ud h;subst e;exact⟨_,_,rfl⟩
 ·have e:=Ud h;subst e;exact⟨_,rfl⟩
 ·have e:=Ud h;subst e;exact⟨_,rfl⟩
 ·cases h
theorem Ci{ms:List Mx.D}(h:kB ms=true):Mx.ll ms:=by
 unfold kB at h;rw[TC,Uy]at h;obtain⟨h1,h2⟩:=h;refine⟨TH h1,λh3=>?_⟩;rcases h2 with h2|h2
 ·have:=TH h2
  lia
 ·rw[TC,TC]at h2;obtain⟨⟨h4,h5⟩,h6⟩:=h2;refine⟨TH h4,?_,λd hd e he=>vR (Ut.mp (Ut.mp h6 d hd) e he)⟩;obtain⟨k,_,hk⟩:=Uu.mp h5;exact⟨k,λd hd=>Gw (Ut.mp hk d hd)⟩
theorem nh{α:Type}[DecidableEq α]{a b:List α}(ha:a.Nodup)(hb:b.Nodup)(h:∀x,x∈a↔x∈b):a.Perm b:=by rw[List.perm_iff_count];intro x;rw[ha.count,hb.count];simp[h x]
end
end Rx
end
section
namespace Rx
open PySem.W L2 PySem.SeqAt
section
variable{X:Cx}
def IL:BI->Value
 |.len=>.builtin "len"|.abs=>.builtin "abs"|.min2=>.builtin "min"|.max2=>.builtin "max"|.sum=>.builtin "sum"|.any=>.builtin "any"|.all=>.builtin "all"|.minL=>.builtin "min"
 |.maxL=>.builtin "max"|.sorted=>.builtin "sorted"|.tuple=>.type "tuple"|.list=>.type "list"|.dvm=>.builtin "divmod"|_=>.none
def HH:BI->Bool
 |.isi _=>false|_=>true
theorem br{K:Frag}{A:Addr->Prop}{H:Hp}{xs:List V}{d:Dt}(h:ao K A H xs [d]):∃x,xs=[x]/\RV K A H x d:=by obtain⟨x,r,rfl,h1,h2⟩:=h.cons_inv;rw[h2.nil_inv];exact⟨x,rfl,h1⟩
theorem qm{K:Frag}{A:Addr->Prop}{H:Hp}{xs:List V}{d e:Dt}(h:ao K A H xs [d,e]):∃x y,xs=[x,y]/\RV K A H x d/\RV K A H y e:=by obtain⟨x,r,rfl,h1,h2⟩:=h.cons_inv;obtain⟨y,rfl,h3⟩:=br h2;exact⟨x,y,rfl,h1,h3⟩
theorem Cc(b:BI)(hr:HH b=true)(hc:X.calm=true)(hu:X.A.units+150<cLine):df X (IL b) (rP X.K true (c9 b)):=by
 intro pins s σ H xs us Q I r h;obtain⟨ds,d,hx,he,q⟩:=h;have Kl:=fu;unfold c9 at he;split at he
 ·split at he
  ·cases he;obtain⟨x,rfl,h1⟩:=br hx;obtain⟨a,ys,rfl,h2,_,h3⟩:=h1.lst_inv;exact lE pins s σ H _ us Q I r ⟨_,_,rfl,.inl ⟨ys,dF.of h2,rfl⟩,by rw[h3.length];exact q _ _ (PR.sc (d:=.int _) rfl)⟩
  ·cases he;obtain⟨x,rfl,h1⟩:=br hx;obtain⟨a,ys,rfl,h2,h3⟩:=h1.ar;exact lE pins s σ H _ us Q I r ⟨_,_,rfl,.inr ⟨ys,fj.of h2,rfl⟩,by rw[h3.length];exact q _ _ (PR.sc (d:=.int _) rfl)⟩
  ·cases he;obtain⟨x,rfl,h1⟩:=br hx;obtain⟨a,rfl,h2⟩:=h1.j0;exact lE pins s σ H _ us Q I r ⟨_,_,rfl,.inl ⟨_,h2,rfl⟩,by rw[TU];exact q _ _ (PR.sc (d:=.int _) rfl)⟩
  ·cases he
 ·split at he
  ·cases he;obtain⟨x,rfl,h1⟩:=br hx;exact yU pins s σ H _ us Q I r ⟨_,by rw[h1.int_inv],q _ _ (PR.sc (d:=.int _) rfl)⟩
  ·cases he
 ·split at he
  ·cases he;obtain⟨x,y,rfl,h1,h2⟩:=qm hx;exact wY hc pins s σ H _ us Q I r ⟨_,_,by rw[h1.int_inv,h2.int_inv],q _ _ (PR.sc (d:=.int _) rfl)⟩
  ·cases he
 ·split at he
  ·cases he;obtain⟨x,y,rfl,h1,h2⟩:=qm hx;exact wW hc pins s σ H _ us Q I r ⟨_,_,by rw[h1.int_inv,h2.int_inv],q _ _ (PR.sc (d:=.int _) rfl)⟩
  ·cases he
 ·split at he
  ·split at he
   ·rename_i ns sN;cases he;obtain⟨x,rfl,h1⟩:=br hx;obtain⟨a,ys,rfl,h2,_,h3⟩:=h1.lst_inv;rw[gJ h3 sN]at h2;exact Mx.yY hc pins s σ H _ us Q I r ⟨a,ns,rfl,dF.of h2,q _ _ (PR.sc (d:=.int _) rfl)⟩
   ·cases he
  ·split at he
   ·rename_i ns sN;cases he;obtain⟨x,rfl,h1⟩:=br hx;obtain⟨a,ys,rfl,h2,h3⟩:=h1.ar;rw[gJ h3 sN]at h2;exact Mx.w5 hc pins s σ H _ us Q I r ⟨a,ns,rfl,h2,q _ _ (PR.sc (d:=.int _) rfl)⟩
   ·cases he
  ·cases he
 ·split at he
  ·split at he
   ·rename_i ns sN;cases he;obtain⟨x,rfl,h1⟩:=br hx;obtain⟨a,ys,rfl,h2,_,h3⟩:=h1.lst_inv;rw[oN h3 sN]at h2;exact Mx.yW hc pins s σ H _ us Q I r ⟨a,ns,rfl,dF.of h2,q _ _ (PR.sc (d:=.bl _) rfl)⟩
   ·cases he
  ·cases he
 ·split at he
  ·split at he
   ·rename_i ns sN;cases he;obtain⟨x,rfl,h1⟩:=br hx;obtain⟨a,ys,rfl,h2,_,h3⟩:=h1.lst_inv;rw[oN h3 sN]at h2;exact Mx.yV hc pins s σ H _ us Q I r ⟨a,ns,rfl,dF.of h2,q _ _ (PR.sc (d:=.bl _) rfl)⟩
   ·cases he
  ·cases he
 ·split at he
  ·split at he
   ·rename_i ns sN;obtain⟨g,he⟩:=a8 he;cases he;obtain⟨x,rfl,h1⟩:=br hx;obtain⟨a,ys,rfl,h2,_,h3⟩:=h1.lst_inv;rw[gJ h3 sN]at h2;have dH:ns≠[]:=λe=>by rw[e]at g;cases g
    refine Mx.wZ hc pins s σ H _ us Q I r ⟨a,ns,rfl,dF.of h2,dH,λm m1 m2=>?_⟩;have:=jn ns dH;have e:m=iP ns:=Int.le_antisymm (m2 _ this.1) (this.2 _ m1);rw[e];exact q _ _ (PR.sc (d:=.int _) rfl)
   ·cases he
  ·cases he
 ·split at he
  ·rename_i d0;split at he
   ·rename_i es BG;split at he
    ·rename_i ms hms;obtain⟨g,he⟩:=a8 he;cases he;have cs:=Ci g;obtain⟨x,rfl,h1⟩:=br hx;have Rc:=jr hms;have go:∀{a:Addr}{ys:List V},x= .ref a->(dF X.K H a ys\/fj X.K H a ys)->ao X.K N0 H ys es->wpAny (model X.prog X.w) X.A (call (IL .sorted) us) (EP X pins σ Q) X.xe s:=by intro a ys ex hs g;subst ex;rw[Rc]at g;refine Mx.oQ hu pins s σ H _ us Q I r ⟨a,ys,ms,rfl,hs,g.xj,cs,λm zs qs hm hz hso=>q _ _ ?_⟩;have e:=A7 hso;subst e;exact PR.rf hm λA _=>ao.um hz
     unfold itemsOf at BG;split at BG
     ·cases BG;obtain⟨a,ys,e1,h2,_,h3⟩:=h1.lst_inv;exact go e1 (.inl (dF.of h2)) h3
     ·cases BG;obtain⟨a,ys,e1,h2,h3⟩:=h1.ar;exact go e1 (.inr (fj.of h2)) h3
     ·cases BG;obtain⟨a,e1,h2⟩:=h1.j0;exact go e1 (.inl h2) jg
     ·cases BG
    ·cases he
   ·cases he
  ·cases he
 ·split at he
  ·cases he;obtain⟨x,rfl,h1⟩:=br hx;obtain⟨a,ys,rfl,h2,_,h3⟩:=h1.lst_inv;exact iE pins s σ H _ us Q I r ⟨a,ys,rfl,.inl ⟨dF.of h2,λl hl=>q _ _ (PR.Aq hl λA w=>fX.dM w.1 h2)⟩⟩
  ·cases he;obtain⟨x,rfl,h1⟩:=br hx;obtain⟨a,ys,rfl,h2,h3⟩:=h1.ar;exact iE pins s σ H _ us Q I r ⟨a,ys,rfl,.inr ⟨fj.of h2,q _ _ (PR.qY h2 λA w=>fX.aV w.1 h2)⟩⟩
  ·cases he
 ·split at he
  ·cases he;obtain⟨x,rfl,h1⟩:=br hx;obtain⟨a,ys,rfl,h2,_,h3⟩:=h1.lst_inv;exact fJ pins s σ H _ us Q I r ⟨a,ys,rfl,.inl (dF.of h2),λl hl=>q _ _ (PR.rf hl λA w=>fX.dM w.1 h2)⟩
  ·cases he;obtain⟨x,rfl,h1⟩:=br hx;obtain⟨a,ys,rfl,h2,h3⟩:=h1.ar;exact fJ pins s σ H _ us Q I r ⟨a,ys,rfl,.inr (fj.of h2),λl hl=>q _ _ (PR.rf hl λA w=>fX.aV w.1 h2)⟩
  ·cases he;obtain⟨x,rfl,h1⟩:=br hx;obtain⟨a,rfl,h2⟩:=h1.j0;exact fJ pins s σ H _ us Q I r ⟨a,_,rfl,.inl h2,λl hl=>q _ _ (PR.rf hl λA w=>jg)⟩
  ·cases he
 ·cases hr
 ·split at he
  ·split at he
   ·rename_i ns sN;obtain⟨g,he⟩:=a8 he;cases he;obtain⟨x,rfl,h1⟩:=br hx;obtain⟨a,ys,rfl,h2,_,h3⟩:=h1.lst_inv;rw[gJ h3 sN]at h2;have dH:ns≠[]:=λe=>by rw[e]at g;cases g
    refine Mx.wX hc pins s σ H _ us Q I r ⟨a,ns,rfl,dF.of h2,dH,λm m1 m2=>?_⟩;have:=cH ns dH;have e:m=c6 ns:=Int.le_antisymm (this.2 _ m1) (m2 _ this.1);rw[e];exact q _ _ (PR.sc (d:=.int _) rfl)
   ·cases he
  ·cases he
 ·split at he
  ·rename_i i j;obtain⟨g,he⟩:=a8 he;cases he;obtain⟨x,y,rfl,h1,h2⟩:=qm hx;rw[TC]at g;refine Mx.oP pins s σ H _ us Q I r ⟨i,j,by rw[h1.int_inv,h2.int_inv],TH g.1,TH g.2,λp hp=>q _ _ (PR.Aq hp λA w=>ao.cons RV.fR (ao.cons RV.fR ao.nil))⟩
  ·cases he
end
structure Fm where
 K:Frag
 H0:Hp
 d0:Option Addr
 Ek:Nat->Prop
 P:Program
 w:World
structure Ow where
 W:Addr->Prop
 A:Addr->Prop
 dr:Option Addr
def Ow.wd(o:Ow):Addr->Prop:=λa=>o.W a\/o.dr=some a
def Ow.d(o:Ow):Addr->Prop:=λa=>o.dr=some a
def OV(Φ:Fm)(o:Ow)(H:Hp)(v:V):Dt->Prop
 |.lst ds=>∃a xs,v= .ref a/\H a=some (.lst xs)/\o.A a/\¬o.W a/\o.dr≠some a/\Φ.H0 a=none/\ao Φ.K o.A H xs ds
 |.iL ks vs=>False
 |d=>RV Φ.K o.A H v d
structure ER(Φ:Fm)(Γ:Gm)(o:Ow)(ρ:ai)(S:Sx)(σ:L2.St)(H:Hp):Prop where
 len:σ.length=ρ.length
 wa:∀a,o.W a->o.A a
 da:∀a,o.dr=some a->o.A a
 al:∀a,o.A a->∃x,H a=some x
 val:∀(i:Nat)(d:Dt),ρ[i]?=some (some d)->∃v,σ[i]?=some (some v)/\(if gi Γ i=true then OV Φ o H v d else RV Φ.K o.A H v d)
 dk:∀(i:Nat)(ks vs:List Dt),ρ[i]?=some (some (.iL ks vs))->Γ.κ=some i
 inj:∀(i j:Nat)(a:Addr)(d e:List Dt),gi Γ i=true->gi Γ j=true->ρ[i]?=some (some (.lst d))->ρ[j]?=some (some (.lst e))->σ[i]?=some (some (.ref a))->σ[j]?=some (some (.ref a))->i=j
 drw:∀a,o.dr=some a->∃ns:List Int,S=some ns/\H a=some (.lst (ns.map V.int))
 drn:o.dr=none->S=none
 drs:∀(i:Nat)(a:Addr),Γ.δ=some i->o.dr=some a->σ[i]?=some (some (.ref a))
 dr0:∀a,o.dr=some a->Φ.d0=some a\/Φ.H0 a=none
 ent:aU (λb=>Φ.d0=some b) Φ.H0 H
section
variable{Φ:Fm}{Γ:Gm}{o:Ow}{ρ:ai}{S S':Sx}{σ:L2.St}{H H':Hp}
def nD:Dt->Bool
 |.iL _ _=>false
 |_=>true
theorem OV.val{v:V}{d:Dt}(h:OV Φ o H v d)(nd:nD d=true)(wa:∀a,o.W a->o.A a)(da:∀a,o.dr=some a->o.A a):RV Φ.K o.wd H v d:=by
 have hw:∀b,o.wd b->o.A b:=λb z=>z.elim (wa b) (da b)
 cases d with
 |lst ds=>obtain⟨a,xs,rfl,h1,h2,h3,h4,_,h5⟩:=h;exact RV.iQ h1 (λz=>z.elim h3 h4) (h5.weak hw)
 |iL=>cases nd
 |_=>exact RV.weak h hw
theorem OV.one{v:V}{d:Dt}(h:OV Φ o H v d)(nd:nD d=true):fX Φ.K o.A H v d:=by
 cases d with
 |lst ds=>obtain⟨a,xs,rfl,h1,h2,h3,h4,_,h5⟩:=h;exact⟨a,xs,rfl,h1,h5⟩
 |iL=>cases nd
 |_=>exact h
theorem OV.ext{v:V}{d:Dt}(h:OV Φ o H v d)(da:∀a,o.dr=some a->o.A a)(e:aU o.d H H'):OV Φ o H' v d:=by
 cases d with
 |lst ds=>obtain⟨a,xs,rfl,h1,h2,h3,h4,h6,h5⟩:=h;exact⟨a,xs,rfl,e.kp _ _ h1 h4,h2,h3,h4,h6,h5.mono e da λ_ z=>z⟩
 |iL=>exact h.elim
 |_=>exact RV.mono e da (λ_ z=>z) h
theorem Dk.set{κ:Option Nat}{i:Nat}{d:Dt}(h:∀(i:Nat)(ks vs:List Dt),ρ[i]?=some (some (.iL ks vs))->κ=some i)(nd:nD d=true):∀(j:Nat)(ks vs:List Dt),(ρ.set i (some d))[j]?=some (some (.iL ks vs))->κ=some j:=λj ks vs hj=>by
 by_cases e:j=i
 ·subst e;rw[VE]at hj;simp only[W1]at hj;split at hj
  ·cases hj;cases nd
  ·cases hj
 ·rw[T7 (WH e)]at hj;exact h j ks vs hj
theorem RV.nd{K:Frag}{A:Addr->Prop}{v:V}{d:Dt}(h:RV K A H v d):nD d=true:=by
 cases d with
 |iL=>unfold RV at h;exact h.elim
 |_=>rfl
theorem ER.nd(er:ER Φ Γ o ρ S σ H){i:Nat}{d:Dt}(h:ρ[i]?=some (some d))(n:Γ.κ≠some i):nD d=true:=by
 cases d with
 |iL ks vs=>exact absurd (er.dk i ks vs h) n
 |_=>rfl
theorem ER.iZ(er:ER Φ Γ o ρ S σ H):∀b,o.wd b->o.A b:=λb z=>z.elim (er.wa b) (er.da b)
theorem ER.yE(er:ER Φ Γ o ρ S σ H):∀b,o.wd b->∃x,H b=some x:=λb z=>er.al b (er.iZ b z)
theorem aU.al{X:Addr->Prop}(e:aU X H H'){b:Addr}{x:HO}(h:H b=some x)(hx:X b->∃y,H' b=some y):∃y,H' b=some y:=by
 by_cases z:X b
 ·exact hx z
 ·exact⟨x,e.kp _ _ h z⟩
theorem ER.step(er:ER Φ Γ o ρ S σ H)(e:aU o.d H H')(hd:∀a,o.dr=some a->∃ns:List Int,S'=some ns/\H' a=some (.lst (ns.map V.int)))(hn:o.dr=none->S'=none):ER Φ Γ o ρ S' σ H' where
 len:=er.len
 wa:=er.wa
 da:=er.da
 al:=λa ha=>by obtain⟨x,hx⟩:=er.al a ha;exact e.al hx λz=>by obtain⟨ns,_,h⟩:=hd a z;exact⟨_,h⟩
 val:=λi d h=>by
  obtain⟨v,h1,h2⟩:=er.val i d h;refine⟨v,h1,?_⟩;by_cases m:gi Γ i=true
  ·rw[W0 m]at h2 ⊢;exact h2.ext er.da e
  ·rw[WZ m]at h2 ⊢;exact h2.mono e er.da λ_ z=>z
 dk:=er.dk
 inj:=er.inj
 drw:=hd
 drn:=hn
 drs:=er.drs
 dr0:=er.dr0
 ent:=⟨λb x h n=>by
   refine e.kp _ _ (er.ent.kp b x h n) λz=>?_
   rcases er.dr0 b z with q|q
   ·exact n q
   ·(rw[h]at q;cases q),λb xs h=>e.tp _ _ (er.ent.tp b xs h)⟩
theorem ER.grow(er:ER Φ Γ o ρ S σ H)(s:cy H H'):ER Φ Γ o ρ S σ H':=er.step (aU.of_same s) (λa h=>by
 obtain⟨ns,h1,h2⟩:=er.drw a h;exact⟨ns,h1,s _ _ h2⟩) er.drn
end
def mR(Ek:Nat->Prop){α:Type}(r:R α)(P:α->Prop):Prop:=match r with
 |.ok a=>P a
 |.ex k=>Ek k
 |.bad=>False
section
variable{Ek:Nat->Prop}{α β:Type}
theorem ae{r:R α}{f:α->R β}{P:β->Prop}:mR Ek (r.bind f) P↔mR Ek r λa=>mR Ek (f a) P:=by cases r<;>rfl
theorem ag{r:R α}{P Q:α->Prop}(h:mR Ek r P)(hq:∀a,r= .ok a->P a->Q a):mR Ek r Q:=by
 cases r with
 |ok a=>exact hq a rfl h
 |ex k=>exact h
 |bad=>exact h
theorem aK{b:Bool}{r:R α}{P:α->Prop}(h:mR Ek (af b r) P):b=true/\mR Ek r P:=by
 cases b with
 |true=>exact⟨rfl,h⟩
 |false=>exact h.elim
end
structure EO(K:Frag)(fr:Nat->Bool)(o:Ow)(c:C)(H:Hp)(d:Dt)(v:V)(H':Hp):Prop where
 ext:aU o.d H H'
 val:RV K o.wd H' v d
 dS:lk c=0->RV K o.A H' v d
 uE:lk c<=1->fX K o.A H' v d
 kC:fresh fr c=true->∀ds,d= .lst ds->∃a xs,v= .ref a/\H a=none/\H' a=some (.lst xs)/\ao K (λb=>o.wd b\/b=a) H' xs ds/\(lk c=0->ao K (λb=>o.A b\/b=a) H' xs ds)
structure QT(K:Frag)(o:Ow)(cs:Cs)(H:Hp)(ds:List Dt)(vs:List V)(H':Hp):Prop where
 ext:aU o.d H H'
 val:ao K o.wd H' vs ds
 dS:sQ cs=0->ao K o.A H' vs ds
 uE:sQ cs<=1->oG K o.A H' vs ds
section
variable(Φ:Fm)(Γ:Gm)(F:FT)(fr:Nat->Bool)
inductive cw(c:C)(σ:L2.St)(H:Hp)(Q:VK):Prop
 |mk (o:Ow) (ρ:ai) (S:Sx) (e:ER Φ Γ o ρ S σ H) (m:mR Φ.Ek (ev F c ρ S) λp=>∀v H',EO Φ.K fr o c H p.1 v H'->ER Φ Γ o ρ p.2 σ H'->Q v H'):cw c σ H Q
inductive fV(c:C)(σ:L2.St)(H:Hp)(Q:Bool->Hp->Prop):Prop
 |mk (o:Ow) (ρ:ai) (S:Sx) (e:ER Φ Γ o ρ S σ H) (m:mR Φ.Ek (cA F c ρ S) λp=>∀H',aU o.d H H'->ER Φ Γ o ρ p.2 σ H'->Q p.1 H'):fV c σ H Q
inductive mQ(cs:Cs)(σ:L2.St)(H:Hp)(Q:List V->Hp->Prop):Prop
 |mk (o:Ow) (ρ:ai) (S:Sx) (e:ER Φ Γ o ρ S σ H) (m:mR Φ.Ek (gf F cs ρ S) λp=>∀vs H',QT Φ.K o cs H p.1 vs H'->ER Φ Γ o ρ p.2 σ H'->Q vs H'):mQ cs σ H Q
inductive ox(cs:Cs)(σ:L2.St)(H:Hp)(Q:Bool->Hp->Prop):Prop
 |mk (o:Ow) (ρ:ai) (S:Sx) (e:ER Φ Γ o ρ S σ H) (m:mR Φ.Ek (a6 F cs ρ S) λp=>∀H',aU o.d H H'->ER Φ Γ o ρ p.2 σ H'->Q p.1 H'):ox cs σ H Q
end
structure Wk(K:Frag)(A X:Addr->Prop)(J:It)(H:Hp)(ds:List Dt):Prop where
 go:∀(i:Nat)(H1:Hp),i<ds.length->aU X H H1->J.go i H1
 stop:∀(H1:Hp),aU X H H1->J.stop ds.length H1
 yld:∀(i:Nat)(x:V)(H1 H2:Hp),i<ds.length->aU X H H1->J.yld i H1 x H2->cy H1 H2/\∃d,ds[i]?=some d/\∀B:Addr->Prop,(∀b,B b->A b\/H b=none)->RV K B H2 x d
structure IO(K:Frag)(o:Ow)(it:kJ)(nl:Bool)(H:Hp)(ds:List Dt)(J:It)(H':Hp):Prop where
 ext:aU o.d H H'
 w1:kG it<=1->Wk K o.A o.d J H' ds
 w0:kG it=0->Wk K o.A o.A J H' ds
 w2:nl=true->Wk K o.A o.A J H' ds
inductive mP(Φ:Fm)(Γ:Gm)(F:FT)(it:kJ)(σ:L2.St)(H:Hp)(Q:It->Hp->Prop):Prop
 |mk (o:Ow) (ρ:ai) (S:Sx) (e:ER Φ Γ o ρ S σ H) (m:mR Φ.Ek (cg F it ρ S) λp=>∀J H',IO Φ.K o it (jL F it ρ S) H p.1 J H'->ER Φ Γ o ρ p.2 σ H'->Q J H'):mP Φ Γ F it σ H Q
structure GX(g:G)(Γ:Gm)(X:Cx):Prop where
 N:X.N=Γ.N
 nd:Γ.N.Nodup
 vis:∀x,Bl (Γ.names.lookup x)=true->Jl X.env.scope x
 loc:∀x,Al (Γ.names.lookup x)=true->Loc X.env.scope x/\(X.fn x=true\/X.env.scope.names.lookup x=some .local)
 gl:∀x,EC (Γ.names.lookup x)=true->Gl X x
 fre:∀x,(Γ.names.lookup x=some .cell\/Γ.names.lookup x=some .free)->(X.env.scope.names.lookup x=some .cell\/X.env.scope.names.lookup x=some .free)
 calm:X.calm=true
 un:X.A.units+150<cLine
 con:∀x d,g.cons.lookup x=some d->∃u,qw d=true/\X.mg x=some u/\RelV (p6 d) u
 bl:∀x∈g.bls,X.mg x=none
structure FO(K:Frag)(W:Addr->Prop)(dr:Option Addr)(fr:Bool)(H:Hp)(d:Dt)(S':Sx)(v:V)(H':Hp):Prop where
 ext:aU (λb=>dr=some b) H H'
 val:RV K W H' v d
 drw:∀a,dr=some a->∃ns:List Int,S'=some ns/\H' a=some (.lst (ns.map V.int))
 kC:fr=true->∀ds,d= .lst ds->∃a xs,v= .ref a/\H a=none/\H' a=some (.lst xs)/\ao K (λb=>W b\/b=a) H' xs ds
def QH(K:Frag)(xv:Nat->Value)(F:List Dt->Sx->R (Dt×Sx))(np:Nat)(fr bo:Bool):Sp:=λvs H Q E=>
 vs.length=np/\∃(W:Addr->Prop)(dr:Option Addr)(args:List Dt)(S:Sx)(Bm:List V),
  (if bo=true then∃(a:Addr)(ns:List Int),vs= .ref a::Bm/\dr=some a/\W a/\S=some ns/\H a=some (.lst (ns.map V.int)) else vs=Bm/\dr=none/\S=none)/\
  ao K W H Bm args/\(∀a,W a->∃x,H a=some x)/\
  match F args S with
  |.ok p=>∀v H',FO K W dr fr H p.1 p.2 v H'->Q v H'
  |.ex k=>∀H',aU (λb=>dr=some b) H H'->E (xv k) none H'
  |.bad=>False
def ny(Φ:Fm)(xv:Nat->Value):XK:=λv _ H'=>∃k,v=xv k/\Φ.Ek k/\aU (λb=>Φ.d0=some b) Φ.H0 H'
structure FX(g:G)(xv:Nat->Value)(CX:nv)(P:Program)(w:World)(K:Frag)(mg:Str->Option Value)(base:Heap)(n k:Nat)(F:FT):Prop where
 fn:∀x f np gD bo,tN x g.fns=some (f,np,gD,bo)->∃(fa:Addr)(fd:FuncData)(ps:List Str),ps.length=np/\mg x=some (.ref fa)/\PySem.W.keepIn K (.ref fa)=true/\
  jF P w K mg base CX k fa fd ps (QH K xv (F f) np (g.fr f) bo)/\(∀j,j<=gD.length->∃ds,aw ((gD.drop j).map p6) ds/\Binds K fd ps ds)/\gD.all qw=true
end Rx
end
section
namespace Rx
open PySem.W L2
section
variable{F:FT}{ρ:ai}{S:Sx}
theorem wg{i}:ev F (.var i) ρ S=(dY ρ i).bind λd=>.ok (d,S):=rfl
theorem pW{i}:ev F (.mvr i) ρ S=(dY ρ i).bind λd=>.ok (d,S):=rfl
theorem wb{o}{a}{b}:ev F (.bin o a b) ρ S=(ev F a ρ S).bind λx=>(ev F b ρ x.2).bind λy=>(kI o x.1 y.1).bind λd=>.ok (d,y.2):=rfl
theorem DL{o}{a}{b}:ev F (.cmp o a b) ρ S=(ev F a ρ S).bind λx=>(ev F b ρ x.2).bind λy=>(cN o x.1 y.1).bind λd=>.ok (.bl d,y.2):=rfl
theorem DN{a}:ev F (.neg a) ρ S=(ev F a ρ S).bind λx=>match x.1 with|.int i=>.ok (.int (-i),x.2)|_=>.bad:=rfl
theorem HD{a}:ev F (.nt a) ρ S=(ev F a ρ S).bind λx=>match x.1 with|.bl b=>.ok (.bl !b,x.2)|_=>.bad:=rfl
theorem DK{a}{b}:ev F (.and a b) ρ S=(ev F a ρ S).bind λx=>match x.1 with|.bl true=>(ev F b ρ x.2).bind λy=>(match y.1 with|.bl c=>.ok (.bl c,y.2)|_=>.bad)|.bl false=>.ok (.bl false,x.2)|_=>.bad:=rfl
theorem HE{a}{b}:ev F (.or a b) ρ S=(ev F a ρ S).bind λx=>match x.1 with|.bl false=>(ev F b ρ x.2).bind λy=>(match y.1 with|.bl c=>.ok (.bl c,y.2)|_=>.bad)|.bl true=>.ok (.bl true,x.2)|_=>.bad:=rfl
theorem wc{a}{b}:ev F (.idx a b) ρ S=(ev F a ρ S).bind λx=>(ev F b ρ x.2).bind λy=>(cF x.1 y.1).bind λd=>.ok (d,y.2):=rfl
theorem AS{a}{l}:ev F (.sliL a l) ρ S=(ev F a ρ S).bind λx=>(ev F l ρ x.2).bind λy=>match y.1 with|.int i=>(dQ x.1 (some i) none).bind λd=>.ok (d,y.2)|_=>.bad:=rfl
theorem AR{a}{h}:ev F (.sliH a h) ρ S=(ev F a ρ S).bind λx=>(ev F h ρ x.2).bind λy=>match y.1 with|.int i=>(dQ x.1 none (some i)).bind λd=>.ok (d,y.2)|_=>.bad:=rfl
theorem we{es}:ev F (.tup es) ρ S=(gf F es ρ S).bind λx=>af (decide (x.1.length<=lim)) (.ok (.tup x.1,x.2)):=rfl
theorem DM{es}:ev F (.lst es) ρ S=(gf F es ρ S).bind λx=>af (decide (x.1.length<=lim)) (.ok (.lst x.1,x.2)):=rfl
theorem rM{f}{es}{ds}:ev F (.call f es ds) ρ S=(gf F es ρ S).bind λx=>(F f (x.1++ds) none).bind λy=>.ok (y.1,x.2):=rfl
theorem xV{f}{es}:ev F (.callD f es) ρ S=af S.isSome ((gf F es ρ S).bind λx=>match x.2 with|some s=>F f x.1 (some s)|none=>.bad):=rfl
theorem pV{b}{es}:ev F (.bi b es) ρ S=(gf F es ρ S).bind λx=>(c9 b x.1).bind λd=>.ok (d,x.2):=rfl
theorem rN{cap}{it}{tg}{ts}{e}:ev F (.comp cap it tg ts e) ρ S=(cg F it ρ S).bind λx=>af (decide (x.1.length<=lim)&&(decide (kG it<=1)||jL F it ρ S)) ((aE (aB tg (a6 F ts) (λρ1 S1=>(ev F e ρ1 S1).bind λy=>af (ba e y.1) (.ok ([y.1],y.2))) (fK cap ρ)) x.1 x.2).bind λq=>.ok (.lst q.1,q.2)):=rfl
theorem oo{cap}{it}{tg}{ts}{gr}{i5}{D6}{e}:ev F (.gw cap it tg ts gr i5 D6 e) ρ S=(cg F it ρ S).bind λx=>af (decide (x.1.length<=lim)&&(decide (kG it<=1)||jL F it ρ S)) ((aE (aB tg (a6 F ts) (λρ1 S1=>(cg F gr ρ1 S1).bind λx2=>af (decide (x.1.length*x2.1.length<=lim)&&decide (kG gr=0)) (aE (aB i5 (a6 F D6) (λρ2 S2=>(ev F e ρ2 S2).bind λy=>af (ba e y.1) (.ok ([y.1],y.2))) ρ1) x2.1 x2.2)) (fK cap ρ)) x.1 x.2).bind λq=>.ok (.lst q.1,q.2)):=rfl
theorem DI{a}:cA F (.nt a) ρ S=(cA F a ρ S).bind λx=>.ok (!x.1,x.2):=rfl
theorem AM{a}{b}:cA F (.and a b) ρ S=(cA F a ρ S).bind λx=>if x.1 then cA F b ρ x.2 else .ok (false,x.2):=rfl
theorem DJ{a}{b}:cA F (.or a b) ρ S=(cA F a ρ S).bind λx=>if x.1 then .ok (true,x.2) else cA F b ρ x.2:=rfl
theorem rL{o}{a}{b}:cA F (.cmp o a b) ρ S=(ev F a ρ S).bind λx=>(ev F b ρ x.2).bind λy=>(cN o x.1 y.1).bind λd=>.ok (d,y.2):=rfl
theorem AQ{i}:cA F (.var i) ρ S=(dY ρ i).bind λd=>(de d).bind λb=>.ok (b,S):=rfl
theorem AO{i}:cA F (.mvr i) ρ S=(dY ρ i).bind λd=>(de d).bind λb=>.ok (b,S):=rfl
theorem xU{f}{es}{ds}:cA F (.call f es ds) ρ S=(gf F es ρ S).bind λx=>(F f (x.1++ds) none).bind λy=>(de y.1).bind λb=>.ok (b,x.2):=rfl
theorem uB{f}{es}:cA F (.callD f es) ρ S=af S.isSome ((gf F es ρ S).bind λx=>match x.2 with|some s=>(F f x.1 (some s)).bind λy=>(de y.1).bind λb=>.ok (b,y.2)|none=>.bad):=rfl
theorem v9{b}{es}:cA F (.bi b es) ρ S=(gf F es ρ S).bind λx=>(c9 b x.1).bind λd=>(de d).bind λb=>.ok (b,x.2):=rfl
theorem AN{a}{b}:cA F (.idx a b) ρ S=(ev F a ρ S).bind λx=>(ev F b ρ x.2).bind λy=>(cF x.1 y.1).bind λd=>(de d).bind λb=>.ok (b,y.2):=rfl
theorem rO:gf F (.nil) ρ S= .ok ([],S):=rfl
theorem jZ{c}{cs}:gf F (.cons c cs) ρ S=(ev F c ρ S).bind λx=>(gf F cs ρ x.2).bind λy=>.ok (x.1::y.1,y.2):=rfl
theorem jY:a6 F (.nil) ρ S= .ok (true,S):=rfl
theorem kr{c}:a6 F (.cons c .nil) ρ S=cA F c ρ S:=rfl
theorem xS{c}:cg F (.seq c) ρ S=(ev F c ρ S).bind λx=>match itemsOf x.1 with|some ds=>.ok (ds,x.2)|none=>.bad:=rfl
theorem uz{c}:cg F (.rng1 c) ρ S=(ev F c ρ S).bind λx=>match x.1 with|.int j=>af (decide (j<=lim)&&decide (-lim<=j)) (.ok (aM 0 j.toNat,x.2))|_=>.bad:=rfl
theorem mH{a}{b}:cg F (.rng2 a b) ρ S=(ev F a ρ S).bind λx=>(ev F b ρ x.2).bind λy=>match x.1,y.1 with|.int i,.int j=>af (decide (i.natAbs<=lim)&&decide (j.natAbs<=lim)) (.ok (aM i (j-i).toNat,y.2))|_,_=>.bad:=rfl
theorem xT{a}{b}:cg F (.zip a b) ρ S=(ev F a ρ S).bind λx=>(ev F b ρ x.2).bind λy=>match cM x.1,cM y.1 with|some xs,some ys=>.ok (cT xs ys,y.2)|_,_=>.bad:=rfl
theorem uy{c}:cg F (.enum c) ρ S=(ev F c ρ S).bind λx=>match cM x.1 with|some ds=>.ok (vi 0 ds,x.2)|none=>.bad:=rfl
theorem pX{i}{c}:ex F (.asg i c) ρ S=(ev F c ρ S).bind λx=>af (ba c x.1) (.ok (.next,ρ.set i (some x.1),x.2)):=rfl
theorem mI{i}{c}:ex F (.asgM i c) ρ S=(ev F c ρ S).bind λx=>af (kv c x.1) (.ok (.next,ρ.set i (some x.1),x.2)):=rfl
theorem jw{is}{c}:ex F (.asgT is c) ρ S=(ev F c ρ S).bind λx=>af (ba c x.1) ((r8 is x.1 ρ).bind λρ1=>.ok (.next,ρ1,x.2)):=rfl
theorem rQ{i}{k}{v}:ex F (.ya i k v) ρ S=af (isLE ρ i) ((ev F v ρ S).bind λx=>(ev F k ρ x.2).bind λy=>af (ba v x.1) ((l8 ρ i).bind λds=>match y.1 with|.int n=>(match pB ds.length n with|some j=>.ok (.next,ρ.set i (some (.lst (ds.set j x.1))),y.2)|none=>.bad)|_=>.bad)):=rfl
theorem wj{i}{c}:ex F (.app i c) ρ S=af (isLE ρ i) ((ev F c ρ S).bind λx=>af (ba c x.1) ((l8 ρ i).bind λds=>af (decide (ds.length<=lim)) (.ok (.next,ρ.set i (some (.lst (ds++[x.1]))),x.2)))):=rfl
theorem DO{i}:ex F (.clr i) ρ S=(l8 ρ i).bind λ_=>.ok (.next,ρ.set i (some (.lst [])),S):=rfl
theorem pY{c}:ex F (.FP c) ρ S=(ev F c ρ S).bind λx=>.ok (.next,ρ,x.2):=rfl
theorem kY{c}:ex F (.ret c) ρ S=(ev F c ρ S).bind λx=>.ok (.ret x.1,ρ,x.2):=rfl
theorem pZ{t}{a}{b}:ex F (.ifs t a b) ρ S=(cA F t ρ S).bind λx=>if x.1 then aP F a ρ x.2 else aP F b ρ x.2:=rfl
theorem gU{tg}{it}{b}:ex F (.fr tg it b) ρ S=(cg F it ρ S).bind λx=>af (decide (kG it=0)||jL F it ρ S) (forL tg (aP F b) x.1 ρ x.2):=rfl
theorem wm{tg}{it}{j}{c}:ex F (.frq tg it j c) ρ S=(cg F it ρ S).bind λx=>af (decide (kG it<=1)) (forL tg (λρ S=>(ev F c ρ S).bind λx=>af (ba c x.1) (.ok (.next,ρ.set j (some x.1),x.2))) x.1 ρ x.2):=rfl
theorem AU{t}{b}:ex F (.wh t b) ρ S=BU (cA F t) (aP F b) Bn ρ S:=rfl
theorem bN{t}{ts}:aP F (.cons t ts) ρ S=(ex F t ρ S).bind λp=>match p.1 with|.next=>aP F ts p.2.1 p.2.2|f=>.ok (f,p.2):=rfl
end
end Rx
end
section
namespace L2
def Nh(X:Cx)(st:Stmt)(t:TS):Prop:=∀(s:Shared)(σ:St)(H:Hp)(D:Ends),Inv X [] σ H s->t D σ H->wpAny (model X.prog X.w) X.A (exec st X.env) (SP X [] D) X.xe s
def oE(X:Cx)(st:List Stmt)(t:TS):Prop:=∀(s:Shared)(σ:St)(H:Hp)(D:Ends),Inv X [] σ H s->t D σ H->wpAny (model X.prog X.w) X.A (execs st X.env) (SP X [] D) X.xe s
theorem Hx{X:Cx}{st:Stmt}{t:TS}(h:PS X st t):Nh X st t:=λs σ H D=>h [] s σ H D
theorem DB{X:Cx}{st:List Stmt}{t:TS}(h:sT X st t):oE X st t:=λs σ H D=>h [] s σ H D
theorem xR{X:Cx}{st:Stmt}{rest:List Stmt}{t u:TS}(h1:Nh X st t)(h2:oE X rest u):oE X (st::rest) (L3 t u):=by
 intro s σ H D I hq;refine wpAny_execs_cons (bV (h1 s σ H {D with nx:=u D} I hq) λf s1 z=>?_);cases f with
 |next=>obtain⟨σ1,H1,I1,q1⟩:=z;exact h2 s1 σ1 H1 D I1 q1
 |brk=>exact z
 |cont=>exact z
 |ret v=>exact z
theorem FW{CX:nv}{P:Program}{w:World}{K:PySem.W.Frag}{mg:Str->Option Value}{base:Heap}{k:Nat}{f:Addr}{name qual:Str}{params:Arguments}{body:List Stmt}{scope:Scope}{dV kV doc pm gk ct oc:Value}{an od:Option Addr}
  {vU:Array (Option Value)} {N ps:List Str} {sp:Sp} (lk:K.lookup f=some ⟨oc,od,.func (PySem.W.fnOf name qual params body scope dV kV doc pm an gk ct),vU⟩) (BE:PySem.W.codeIn K gk qual=true) (S:fI N ps scope)
  (len:∀vs H Q E,sp vs H Q E->vs.length=ps.length)
  (J6:∀(A:Around)(outer:List Env)(s:Shared)(H:Hp)(vs:List V)(Q:VK)(E:XK),i7 k (A.deeper (envOfC qual scope s.heap.objs.size f gk))->sp vs H Q E->
   ∃t,oE (qJ CX P w K mg base N qual scope f gk A outer s H E) body t/\t {nx:=λ_ H'=>Q .bg H',rt:=Q} (start N vs) H):
  jF P w K mg base CX (k+1) f (PySem.W.fnOf name qual params body scope dV kV doc pm an gk ct) ps sp:=by
 refine⟨len,λA outer s H args us vs Q E hr e0 hb r qt=>?_⟩;have KX:K.In s.heap:=e0.mod.GB.keeps λb o e=>(e0.bs b o e).1
 have Kj:∀y∈ps.zip us,scope.names.lookup y.1=some .local\/(scope.names.lookup y.1=some .cell/\((cellsFrom (s.heap.objs.size+1) scope.names []).lookup y.1).isSome=true):=λ⟨n,v⟩hy=>by
  rcases S.par n (V6 hy).1 with q|q
  ·exact .inl q
  ·exact .inr ⟨q,WQ _ _ _ (.inl q)⟩
 refine codeAny_call_function hr.depth (KX _ _ lk) rfl S.co S.gen rfl (PySem.W.codeRec_of KX BE) (hb _ _ _ _ (wpAny_newFunctionEnv_cells S.kind Kj λenv he s1 x=>?_));subst he;refine⟨(e0.mod.nolimit.keeps λb o e=>(e0.bs b o e).1).keeps x.toInCall.keep,codeAny_func ?_⟩;obtain⟨t,ht,hq⟩:=J6 A outer s H vs Q E (hr.deeper _) qt;have I:Inv (qJ CX P w K mg base N qual scope f gk A outer s H E) [] (start N vs) H s1:=xC S hr.hd e0 (len _ _ _ _ qt) r x;refine Xg (ht s1 (start N vs) H _ I hq) (λfl s' hs=>?_) λe s' hs=>hs
 have fin:∀{σ':St}{H':Hp}{v:V}{u:Value},Inv (qJ CX P w K mg base N qual scope f gk A outer s H E) [] σ' H' s'->RelV v u->Q v H'->CE outer P w H s Q u s':=
  λ {σ' H' v u} J rv q=>⟨v,H',J.os,J.bare,J.base,J.hok,rv,q⟩
 cases fl with
 |ret u=>obtain⟨v,σ',H',J,rv,q⟩:=hs;exact fin J rv q
 |next=>obtain⟨σ',H',J,q⟩:=hs;exact fin (v:=V.bg) (u:=Value.none) J rfl q
 |brk=>obtain⟨_,_,_,q⟩:=hs;exact q.elim
 |cont=>obtain⟨_,_,_,q⟩:=hs;exact q.elim
end L2
end
section
namespace Rx
open PySem.W L2 PySem.SeqAt
def Nl(K:Frag)(mg:Str->Option Value)(C:Addr)(ts:List (Str×Bool)):Prop:=True
structure HX(g:G)(xv:Nat->Value)(CX:nv)(k:Nat)(F:FT)(Φ:Fm)(X:Cx):Prop where
 K:Φ.K=X.K
 P:Φ.P=X.prog
 w:Φ.w=X.w
 fx:∃n,FX g xv CX X.prog X.w X.K X.mg X.base n k F
 room:i7 k X.A
 cx:CX=yj X.prog X.w
 st:i9 X
 xgx:∀e s',oH X (ny Φ xv) e s'->X.xe e s'
 xk:∀k x ts,g.xs[k]?=some (x,ts)->∃C,xv k= .ref C/\X.mg x=some (.ref C)/\Nl X.K X.mg C ts
theorem HX.pass{g:G}{xv:Nat->Value}{CX:nv}{k:Nat}{F:FT}{Φ:Fm}{X:Cx}(h:HX g xv CX k F Φ X):sU CX X (ny Φ xv):=λpins σ H s e s' I c=>by have hc:=h.cx;subst hc;exact h.xgx e s' (Bt I h.st.pn c)
theorem bz{X:Cx}{e:Expr}{t t':TE}(h:PE X e t)(hi:∀σ H Q,t' σ H Q->t σ H Q):PE X e t':=λpins s σ H Q I q=>h pins s σ H Q I (hi σ H Q q)
theorem ux{X:Cx}{e:Expr}{t t':TT}(h:PT X e t)(hi:∀σ H Q,t' σ H Q->t σ H Q):PT X e t':=λpins s σ H Q I q=>h pins s σ H Q I (hi σ H Q q)
theorem AK{X:Cx}{e:Expr}{t t':TT}(h:PW X e t)(hi:∀σ H Q,t' σ H Q->t σ H Q):PW X e t':=λwh pins s σ H Q I q=>h wh pins s σ H Q I (hi σ H Q q)
theorem Ax{X:Cx}{e:List Expr}{t t':TA}(h:PA X e t)(hi:∀σ H Q,t' σ H Q->t σ H Q):PA X e t':=λpos pins s σ H Q I q=>h pos pins s σ H Q I (hi σ H Q q)
theorem pQ{X:Cx}{tg e:Expr}{t t':TI}(h:PI X tg e t)(hi:∀σ H Q,t' σ H Q->t σ H Q):PI X tg e t':=λpins s σ H Q I q=>h pins s σ H Q I (hi σ H Q q)
section
variable{Φ:Fm}{Γ:Gm}{fr:Nat->Bool}{o:Ow}{ρ:ai}{σ:L2.St}{H H':Hp}
theorem EO.sc{c:C}{d:Dt}(h:qw d=true):EO Φ.K fr o c H d (p6 d) H:=⟨aU.refl,rV h,λ_=>rV h,λ_=>(rV h).one,λ_ ds e=>by subst e;simp[qw]at h⟩
theorem EO.xm{c:C}{d:Dt}{v:V}{H1:Hp}(e:aU o.d H H1)(h:EO Φ.K fr o c H1 d v H')(hf:fresh fr c=true->∀ds,d= .lst ds->∀a,H1 a=none->H a=none):EO Φ.K fr o c H d v H':=
 ⟨e.trans h.ext,h.val,h.dS,h.uE,λf ds ed=>by
  obtain⟨a,xs,h1,h2,h3⟩:=h.kC f ds ed;exact⟨a,xs,h1,hf f ds ed a h2,h3⟩⟩
theorem zq{X:Addr->Prop}{H1:Hp}(e:aU X H H1)(hx:∀b,X b->∃y,H1 b=some y){a:Addr}(h:H1 a=none):H a=none:=by
 cases q:H a with
 |none=>rfl
 |some x=>obtain⟨y,z⟩:=e.al q (hx a);rw[h]at z;cases z
theorem ER.fw{S1:Sx}{H1:Hp}(aA:ER Φ Γ o ρ S1 σ H1)(e:aU o.d H H1){a:Addr}(h:H1 a=none):H a=none:=zq e (λb z=>aA.al b (aA.da b z)) h
theorem EO.keep{c:C}{d:Dt}{v:V}{H1 H2:Hp}(h:EO Φ.K fr o c H d v H1)(e:aU o.d H1 H2)(wa:∀b,o.wd b->o.A b):RV Φ.K o.wd H2 v d/\(lk c=0->RV Φ.K o.A H2 v d)/\(lk c<=1->fX Φ.K o.A H2 v d):=by
 have hd:∀b,o.d b->o.wd b:=λb z=>.inr z
 refine⟨h.val.mono e hd λ_ z=>z,λl=>(h.dS l).mono e (λb z=>wa b (hd b z)) λ_ z=>z,λl=>?_⟩;refine(h.uE l).ext e (λb z=>wa b (hd b z)) λds a ed ev z=>?_
 subst ed ev;obtain⟨b,xs,q,_,n,_⟩:=h.val.lst_inv;cases q;exact n (.inr z)
theorem EO.pr{c:C}{xs:List V}{ds:List Dt}{d:Dt}{v:V}{H1 H2:Hp}{S1:Sx}{f:Bool}(aA:ER Φ Γ o ρ S1 σ H1)(e:aU o.d H H1)(hv:ao Φ.K o.wd H1 xs ds)(h1:lk c<=1->oG Φ.K o.A H1 xs ds)(hl:lk c=0\/lk c=2)
  (pr:PR Φ.K f xs ds H1 d v H2) (hf:fresh fr c=true->f=true):EO Φ.K fr o c H d v H2/\ER Φ Γ o ρ S1 σ H2:=by
 have q0:lk c=0->RV Φ.K o.A H2 v d:=λl=>pr.val o.A aA.al (h1 ())
 refine⟨⟨e.trans (aU.of_same pr.same),pr.val o.wd aA.yE hv.ones,q0,λl=>(q0 ()).one,λfc es ed=>?_⟩,aA.grow pr.same⟩;obtain⟨a,ys,k1,k2,k3,k4⟩:=pr.kC (hf fc) es ed;exact⟨a,ys,k1,aA.fw e k2,k3,k4 o.wd aA.yE hv.ones,λl=>k4 o.A aA.al (h1 ())⟩
theorem jo{A:Addr->Prop}{K:Frag}{v:V}{d:Dt}(h:RV K A H v d):RV K N0 H v d:=h.weak λ_ z=>z.elim
theorem GV{A:Addr->Prop}{K:Frag}{v:List V}{d:List Dt}(h:ao K A H v d):ao K N0 H v d:=h.weak λ_ z=>z.elim
end
section
variable{X:Cx}{Φ:Fm}{Γ:Gm}{F:FT}{fr:Nat->Bool}
theorem rW{e:Expr}{d:Dt}(hd:qw d=true)(h:PE X e (tC (p6 d))):PE X e (cw Φ Γ F fr (.con d)):=bz h λσ H Q q=>by obtain⟨o,ρ,S,er,q⟩:=q;exact q _ _ (EO.sc hd) er
theorem pe{Ek:Nat->Prop}{ρ:ai}{i:Nat}{P:Dt->Prop}(h:mR Ek (dY ρ i) P):∃d,ρ[i]?=some (some d)/\P d:=by
 unfold dY at h;split at h
 ·exact⟨_,by assumption,h⟩
 ·exact h.elim
theorem LC{e:Expr}{i:Nat}(h:PE X e (qh i))(hm:gi Γ i=false):PE X e (cw Φ Γ F fr (.var i)):=bz h λσ H Q q=>by obtain⟨o,ρ,S,er,q⟩:=q;rw[wg]at q;rw[ae]at q;obtain⟨d,hd,q⟩:=pe q;obtain⟨v,h1,h2⟩:=er.val i d hd;rw[hm,WZ ∅]at h2;exact⟨v,h1,q v H ⟨aU.refl,h2.weak er.iZ,λ_=>h2,λ_=>h2.one,λz=>by cases z⟩ er⟩
theorem Lx{e:Expr}{i:Nat}(h:PE X e (qh i))(hm:gi Γ i=true)(hκ:Γ.κ≠some i):PE X e (cw Φ Γ F fr (.mvr i)):=bz h λσ H Q q=>by obtain⟨o,ρ,S,er,q⟩:=q;rw[pW]at q;rw[ae]at q;obtain⟨d,hd,q⟩:=pe q;obtain⟨v,h1,h2⟩:=er.val i d hd;rw[hm,W0 rfl]at h2;exact⟨v,h1,q v H ⟨aU.refl,h2.val (er.nd hd hκ) er.wa er.da,λz=>(by cases z),λ_=>h2.one (er.nd hd hκ),λz=>by cases z⟩ er⟩
theorem kT{Ek:Nat->Prop}{r:R Dt}{P:Dt->Prop}(dH:∀k,r≠ .ex k)(h:mR Ek r P):∃d,r= .ok d/\P d:=by
 cases r with
 |ok a=>exact⟨a,rfl,h⟩
 |ex k=>exact absurd rfl (dH k)
 |bad=>exact h.elim
theorem dB{b:Bool}{α:Type}{r:R α}(h:∀k,r≠ .ex k):∀k,af b r≠ .ex k:=by
 intro k;cases b
 ·intro z;cases z
 ·exact h k
theorem G5(o:Operator)(d e:Dt):∀k,kI o d e≠ .ex k:=by intro k;unfold kI;split<;>first|(intro z;cases z;done)|(split<;>first|(intro z;cases z;done)|(exact dB (λk z=>by cases z) k))
theorem u7(o:CmpOp)(d e:Dt):∀k,cN o d e≠ .ex k:=by intro k;unfold cN;split<;>first|(intro z;cases z;done)|(exact dB (λk z=>by cases z) k)|(split<;>first|(intro z;cases z;done)|(exact dB (λk z=>by cases z) k))
theorem sW(ds:List Dt)(i:Int):∀k,wQ ds i≠ .ex k:=by intro k;unfold wQ;split<;>(intro z;cases z)
theorem CL(d e:Dt):∀k,cF d e≠ .ex k:=by
 intro k;unfold cF;split
 ·exact sW _ _ k
 ·exact sW _ _ k
 ·exact sW _ _ k
 ·intro z;cases z
theorem DU(d:Dt)(lo hi:Option Int):∀k,dQ d lo hi≠ .ex k:=by intro k;unfold dQ;split<;>first|(intro z;cases z;done)|(exact dB (λk z=>by cases z) k)
theorem D5(d:Dt):∀k,de d≠ .ex k:=by intro k;unfold de;split<;>first|(intro z;cases z;done)|(exact dB (λk z=>by cases z) k)
theorem jm{Ek:Nat->Prop}{r:R Bool}{P:Bool->Prop}(dH:∀k,r≠ .ex k)(h:mR Ek r P):∃d,r= .ok d/\P d:=by
 cases r with
 |ok a=>exact⟨a,rfl,h⟩
 |ex k=>exact absurd rfl (dH k)
 |bad=>exact h.elim
theorem uc{op:Operator}{a b:C}:(lk (.bin op a b)=0\/lk (.bin op a b)=2)/\(lk (.bin op a b)<=1->lk a<=1/\lk b<=1):=by
 have e:lk (.bin op a b)=if lk a<=1/\lk b<=1 then 0 else 2:=rfl
 rw[e];split
 ·rename_i h;exact⟨.inl rfl,λ_=>h⟩
 ·exact⟨.inr rfl,λz=>()⟩
theorem Lr{a b:Expr}{a' b':C}{op:Operator}{pos:Pos}(hK:Φ.K=X.K)(ha:PE X a (cw Φ Γ F fr a'))(hb:PE X b (cw Φ Γ F fr b')):PE X (.BinOp a op b pos) (cw Φ Γ F fr (.bin op a' b')):=bz (Lc (G7 op) ha hb) λσ H Q q=>by
 obtain⟨o,ρ,S,er,q⟩:=q;rw[wb]at q;rw[ae]at q;refine⟨o,ρ,S,er,ag q λp _ q x H1 bp aA=>?_⟩;rw[ae]at q;refine⟨o,ρ,p.2,aA,ag q λp2 _ q y H2 eo2 eO=>?_⟩;rw[ae]at q;obtain⟨z,hz,q⟩:=kT (G5 _ _ _) q;obtain⟨k1,k2,k3⟩:=bp.keep eo2.ext er.iZ;refine⟨p.1,p2.1,z,hK▸jo k1,hK▸jo eo2.val,hz,λv H3 pr=>?_⟩;rw[<-hK]at pr;obtain⟨e1,e2⟩:=EO.pr (fr:=fr) (H:=H) (c:=.bin op a' b') eO (bp.ext.trans eo2.ext) (ao.cons k1 (ao.cons eo2.val ao.nil)) (λl=>⟨k3 (uc.2 l).1,eo2.uE (uc.2 l).2,trivial⟩) uc.1 pr λ_=>rfl
 exact q v H3 e1 e2
theorem Ls{a b:Expr}{a' b':C}{op:CmpOp}{pos:Pos}(hK:Φ.K=X.K)(hu:X.A.units+150<cLine)(hm:behindInMarks op b=false)(ha:PE X a (cw Φ Γ F fr a'))(hb:PE X b (cw Φ Γ F fr b')):PE X (.Compare a [op] [b] pos) (cw Φ Γ F fr (.cmp op a' b')):=bz (Dq (Av op hu) ha hb hm) λσ H Q q=>by obtain⟨o,ρ,S,er,q⟩:=q;rw[DL]at q;rw[ae]at q;refine⟨o,ρ,S,er,ag q λp _ q x H1 bp aA=>?_⟩;rw[ae]at q;refine⟨o,ρ,p.2,aA,ag q λp2 _ q y H2 eo2 eO=>?_⟩;rw[ae]at q;obtain⟨z,hz,q⟩:=jm (u7 _ _ _) q;obtain⟨k1,k2,k3⟩:=bp.keep eo2.ext er.iZ;refine⟨p.1,p2.1,z,hK▸jo k1,hK▸jo eo2.val,hz,q _ _ ?_ eO⟩;have:=EO.sc (Φ:=Φ) (fr:=fr) (o:=o) (H:=H2) (c:=.cmp op a' b') (d:=.bl z) rfl;exact this.xm (bp.ext.trans eo2.ext) λf=>by cases f
theorem HS{a b:Expr}{a' b':C}{op:CmpOp}{pos:Pos}(hK:Φ.K=X.K)(hu:X.A.units+150<cLine)(hm:behindInMarks op b=false)(ha:PE X a (cw Φ Γ F fr a'))(hb:PE X b (cw Φ Γ F fr b')):PT X (.Compare a [op] [b] pos) (fV Φ Γ F (.cmp op a' b')):=ux (DE (Av op hu) ha hb hm) λσ H Q q=>by obtain⟨o,ρ,S,er,q⟩:=q;rw[rL]at q;rw[ae]at q;refine⟨o,ρ,S,er,ag q λp _ q x H1 bp aA=>?_⟩;rw[ae]at q;refine⟨o,ρ,p.2,aA,ag q λp2 _ q y H2 eo2 eO=>?_⟩;rw[ae]at q;obtain⟨z,hz,q⟩:=jm (u7 _ _ _) q;obtain⟨k1,k2,k3⟩:=bp.keep eo2.ext er.iZ;exact⟨p.1,p2.1,z,hK▸jo k1,hK▸jo eo2.val,hz,z,rfl,q _ (bp.ext.trans eo2.ext) eO⟩
end
section
variable{X:Cx}{Φ:Fm}{Γ:Gm}{F:FT}{fr:Nat->Bool}
theorem ao.emp{K:Frag}{A:Addr->Prop}{H:Hp}{xs:List V}{ds:List Dt}(h:ao K A H xs ds):ds.isEmpty=xs.isEmpty:=by
 have:=h.length;cases xs with
 |nil=>cases ds with
  |nil=>rfl
  |cons=>simp at this
 |cons=>cases ds with
  |nil=>simp at this
  |cons=>rfl
theorem Ly{a:Expr}{a':C}{pos:Pos}(ha:PE X a (cw Φ Γ F fr a')):PE X (.UnaryOp .USub a pos) (cw Φ Γ F fr (.neg a')):=bz (Lf Ir ha) λσ H Q q=>by
 obtain⟨o,ρ,S,er,q⟩:=q;rw[DN]at q;rw[ae]at q;refine⟨o,ρ,S,er,ag q λp _ q x H1 bp aA=>?_⟩;split at q
 ·rename_i i hi;have:=bp.val;rw[hi]at this;refine⟨i,this.int_inv,q _ _ ?_ aA⟩;exact(EO.sc (Φ:=Φ) (fr:=fr) (o:=o) (H:=H1) (c:=.neg a') (d:=.int (-i)) rfl).xm bp.ext λf=>by cases f
 ·exact q.elim
theorem Pf{a:Expr}{a':C}{pos:Pos}(ha:PE X a (cw Φ Γ F fr a')):PE X (.UnaryOp .Not a pos) (cw Φ Γ F fr (.nt a')):=bz (Hn ha) λσ H Q q=>by
 obtain⟨o,ρ,S,er,q⟩:=q;rw[HD]at q;rw[ae]at q;refine⟨o,ρ,S,er,ag q λp _ q x H1 bp aA=>?_⟩;split at q
 ·rename_i i hi;have:=bp.val;rw[hi]at this;refine⟨i,this.bX,q _ _ ?_ aA⟩;exact(EO.sc (Φ:=Φ) (fr:=fr) (o:=o) (H:=H1) (c:=.nt a') (d:=.bl (!i)) rfl).xm bp.ext λf=>by cases f
 ·exact q.elim
theorem LA{a:Expr}{a':C}{pos:Pos}(ha:PT X a (fV Φ Γ F a')):PT X (.UnaryOp .Not a pos) (fV Φ Γ F (.nt a')):=ux (Hz ha) λσ H Q q=>by obtain⟨o,ρ,S,er,q⟩:=q;rw[DI]at q;rw[ae]at q;exact⟨o,ρ,S,er,ag q λp _ q H1 e1 aA=>q _ e1 aA⟩
theorem Lq{a b:Expr}{rest:List Expr}{a' b':C}{pos:Pos}(ha:PE X a (cw Φ Γ F fr a'))(hb:PE X (.BoolOp .And (b::rest) pos) (cw Φ Γ F fr b')):PE X (.BoolOp .And (a::b::rest) pos) (cw Φ Γ F fr (.and a' b')):=bz (Hi ha hb) λσ H Q q=>by
 obtain⟨o,ρ,S,er,q⟩:=q;rw[DK]at q;rw[ae]at q;refine⟨o,ρ,S,er,ag q λp _ q x H1 bp aA=>?_⟩;have sc:∀(H3:Hp)(t:Bool),aU o.d H H3->EO Φ.K fr o (.and a' b') H (.bl t) (.bl t) H3:=λH3 t e3=>
  (EO.sc (Φ:=Φ) (fr:=fr) (o:=o) (H:=H3) (c:=.and a' b') (d:=.bl t) rfl).xm e3 λf=>by cases f
 split at q
 ·rename_i hi;have:=bp.val;rw[hi]at this;refine⟨true,this.bX,?_⟩;rw[ae]at q;refine⟨o,ρ,p.2,aA,ag q λp2 _ q y H2 eo2 eO=>?_⟩;split at q
  ·rename_i c hc;have h2:=eo2.val;rw[hc]at h2;rw[h2.bX];exact q _ _ (sc H2 c (bp.ext.trans eo2.ext)) eO
  ·exact q.elim
 ·rename_i hi;have:=bp.val;rw[hi]at this;exact⟨false,this.bX,q _ _ (sc H1 false bp.ext) aA⟩
 ·exact q.elim
theorem Pg{a b:Expr}{rest:List Expr}{a' b':C}{pos:Pos}(ha:PE X a (cw Φ Γ F fr a'))(hb:PE X (.BoolOp .Or (b::rest) pos) (cw Φ Γ F fr b')):PE X (.BoolOp .Or (a::b::rest) pos) (cw Φ Γ F fr (.or a' b')):=bz (Ld ha hb) λσ H Q q=>by
 obtain⟨o,ρ,S,er,q⟩:=q;rw[HE]at q;rw[ae]at q;refine⟨o,ρ,S,er,ag q λp _ q x H1 bp aA=>?_⟩;have sc:∀(H3:Hp)(t:Bool),aU o.d H H3->EO Φ.K fr o (.or a' b') H (.bl t) (.bl t) H3:=λH3 t e3=>
  (EO.sc (Φ:=Φ) (fr:=fr) (o:=o) (H:=H3) (c:=.or a' b') (d:=.bl t) rfl).xm e3 λf=>by cases f
 split at q
 ·rename_i hi;have:=bp.val;rw[hi]at this;refine⟨false,this.bX,?_⟩;rw[ae]at q;refine⟨o,ρ,p.2,aA,ag q λp2 _ q y H2 eo2 eO=>?_⟩;split at q
  ·rename_i c hc;have h2:=eo2.val;rw[hc]at h2;rw[h2.bX];exact q _ _ (sc H2 c (bp.ext.trans eo2.ext)) eO
  ·exact q.elim
 ·rename_i hi;have:=bp.val;rw[hi]at this;exact⟨true,this.bX,q _ _ (sc H1 true bp.ext) aA⟩
 ·exact q.elim
theorem HR{a b:Expr}{rest:List Expr}{a' b':C}{pos:Pos}(ha:PT X a (fV Φ Γ F a'))(hb:PW X (.BoolOp .And (b::rest) pos) (fV Φ Γ F b')):PW X (.BoolOp .And (a::b::rest) pos) (fV Φ Γ F (.and a' b')):=AK (HA ha hb) λσ H Q q=>by
 obtain⟨o,ρ,S,er,q⟩:=q;rw[AM]at q;rw[ae]at q;refine⟨o,ρ,S,er,ag q λp _ q H1 e1 aA=>?_⟩;cases hp:p.1 with
 |true=>rw[hp]at q;rw[W0 rfl];exact⟨o,ρ,p.2,aA,ag q λp2 _ q H2 e2 eO=>q _ (e1.trans e2) eO⟩
 |false=>rw[hp]at q;rw[WZ ∅];exact q _ e1 aA
theorem LB{a b:Expr}{rest:List Expr}{a' b':C}{pos:Pos}(ha:PT X a (fV Φ Γ F a'))(hb:PW X (.BoolOp .Or (b::rest) pos) (fV Φ Γ F b')):PW X (.BoolOp .Or (a::b::rest) pos) (fV Φ Γ F (.or a' b')):=AK (Lj ha hb) λσ H Q q=>by
 obtain⟨o,ρ,S,er,q⟩:=q;rw[DJ]at q;rw[ae]at q;refine⟨o,ρ,S,er,ag q λp _ q H1 e1 aA=>?_⟩;cases hp:p.1 with
 |false=>rw[hp]at q;rw[WZ ∅];exact⟨o,ρ,p.2,aA,ag q λp2 _ q H2 e2 eO=>q _ (e1.trans e2) eO⟩
 |true=>rw[hp]at q;rw[W0 rfl];exact q _ e1 aA
theorem Ak{a b:C}:(lk (.idx a b)=0\/lk (.idx a b)=2)/\(lk (.idx a b)<=1->lk a<=1):=by
 have e:lk (.idx a b)=if lk a<=1 then 0 else 2:=rfl
 rw[e];split
 ·rename_i h;exact⟨.inl rfl,λ_=>h⟩
 ·exact⟨.inr rfl,λz=>()⟩
theorem Lu{a b:Expr}{a' b':C}{pos:Pos}(hK:Φ.K=X.K)(hs:oF b)(ha:PE X a (cw Φ Γ F fr a'))(hb:PE X b (cw Φ Γ F fr b')):PE X (.Subscript a b pos) (cw Φ Γ F fr (.idx a' b')):=bz (Lb Gr ha hb hs) λσ H Q q=>by
 obtain⟨o,ρ,S,er,q⟩:=q;rw[wc]at q;rw[ae]at q;refine⟨o,ρ,S,er,ag q λp _ q x H1 bp aA=>?_⟩;rw[ae]at q;refine⟨o,ρ,p.2,aA,ag q λp2 _ q y H2 eo2 eO=>?_⟩;rw[ae]at q;obtain⟨z,hz,q⟩:=kT (CL _ _) q;obtain⟨k1,k2,k3⟩:=bp.keep eo2.ext er.iZ;refine⟨p.1,p2.1,z,hK▸jo k1,hK▸jo eo2.val,hz,λv pr=>?_⟩;rw[<-hK]at pr;have Ro:∃i,p2.1= .int i:=by
  cases hd:p2.1 with
  |int i=>exact⟨i,rfl⟩
  |_=>rw[hd]at hz;unfold cF at hz;split at hz<;>first|(rename_i h;cases h;done)|(cases hz;done)|contradiction
 obtain⟨i,hi⟩:=Ro;have v2:∀A:Addr->Prop,fX Φ.K A H2 y p2.1:=λA=>by have:=eo2.val;rw[hi]at this ⊢;rw[this.int_inv];exact(RV.fR (K:=Φ.K) (A:=A)).one
 obtain⟨e1,e2⟩:=EO.pr (fr:=fr) (H:=H) (c:=.idx a' b') eO (bp.ext.trans eo2.ext) (ao.cons k1 (ao.cons eo2.val ao.nil)) (λl=>⟨k3 (Ak.2 l),v2 _,trivial⟩) Ak.1 pr λz=>by cases z
 exact q v H2 e1 e2
theorem kX{a:Expr}{a':C}(hK:Φ.K=X.K)(ha:PE X a (cw Φ Γ F fr a'))(he:∀whole,isTrue a X.env whole=(do let v<-whole;standAt a.pos;holding [v] (truthy v)))
  (Kh:∀ρ S,cA F a' ρ S=(ev F a' ρ S).bind λx=>(de x.1).bind λb=>.ok (b,x.2)):PT X a (fV Φ Γ F a'):=ux (AJ ha he) λσ H Q q=>by
 obtain⟨o,ρ,S,er,q⟩:=q;rw[Kh,ae]at q;refine⟨o,ρ,S,er,ag q λp _ q x H1 bp aA=>?_⟩;rw[ae]at q;obtain⟨b,hb,q⟩:=jm (D5 _) q;refine⟨b,?_,q _ bp.ext aA⟩;have hv:=bp.val;rw[hK]at hv;unfold de at hb;split at hb
 ·rename_i hd;rw[hd]at hv;cases hb;rw[hv.eS];rfl
 ·rename_i hd;rw[hd]at hv;cases hb;rw[hv.bX];rfl
 ·rename_i hd;rw[hd]at hv;cases hb;rw[hv.int_inv];rfl
 ·rename_i hd;rw[hd]at hv;obtain⟨g1,hb⟩:=a8 hb;cases hb;rw[hv.str_inv];exact⟨TX (TH g1) fu,rfl⟩
 ·rename_i hd;rw[hd]at hv;cases hb;obtain⟨a,xs,rfl,h1,_,h2⟩:=hv.lst_inv;refine .inl ⟨xs,dF.of h1,?_⟩;rw[h2.emp]
 ·rename_i hd;rw[hd]at hv;cases hb;obtain⟨a,xs,rfl,h1,h2⟩:=hv.ar;refine .inr (.inl ⟨xs,fj.of h1,?_⟩);rw[h2.emp]
 ·rename_i hd;rw[hd]at hv;cases hb;obtain⟨a,rfl,h1⟩:=hv.j0;refine .inl ⟨_,h1,?_⟩;simp
 ·cases hb
end
section
variable{X:Cx}{Φ:Fm}{Γ:Gm}{F:FT}{fr:Nat->Bool}
theorem GE{a b:C}{c:C}(hc:lk c=if lk a<=1 then 0 else 2):(lk c=0\/lk c=2)/\(lk c<=1->lk a<=1):=by
 rw[hc];split
 ·rename_i h;exact⟨.inl rfl,λ_=>h⟩
 ·exact⟨.inr rfl,λz=>()⟩
theorem vn{o:Ow}{ρ:ai}{S:Sx}{σ:L2.St}{H H1 H2:Hp}{a' c:C}{d:Dt}{x:V}{lo hi:Option Int}{Q:VK}(hK:Φ.K=X.K)(hc:lk c=if lk a'<=1 then 0 else 2)(hf:fresh fr c=true->True)(er:ER Φ Γ o ρ S σ H2)(bp:EO Φ.K fr o a' H d x H1)(e:aU o.d H1 H2)
  (q:mR Φ.Ek (dQ d lo hi) λz=>∀v H3,EO Φ.K fr o c H z v H3->ER Φ Γ o ρ S σ H3->Q v H3):rS X.K x lo hi H2 Q:=by
 obtain⟨z,hz,q⟩:=kT (DU _ _ _) q;obtain⟨k1,k2,k3⟩:=bp.keep e er.iZ;refine⟨d,z,hK▸jo k1,hz,λv H3 pr=>?_⟩;rw[<-hK]at pr;have hl:=GE (b:=c) hc;obtain⟨e1,e2⟩:=EO.pr (fr:=fr) (H:=H) (c:=c) er (bp.ext.trans e) (ao.cons k1 ao.nil) (λl=>⟨k3 (hl.2 l),trivial⟩) hl.1 pr λ_=>rfl
 exact q v H3 e1 e2
theorem HZ{a l:Expr}{a' l':C}{p2 pos:Pos}(hK:Φ.K=X.K)(ha:PE X a (cw Φ Γ F fr a'))(hl:PE X l (cw Φ Γ F fr l')):PE X (.Subscript a (.Slice (some l) none none p2) pos) (cw Φ Γ F fr (.sliL a' l')):=bz (rD A4 ha (vZ hl) vY) λσ H Q q=>by
 obtain⟨o,ρ,S,er,q⟩:=q;rw[AS]at q;rw[ae]at q;refine⟨o,ρ,S,er,ag q λp _ q x H1 bp aA=>?_⟩;rw[ae]at q;refine⟨o,ρ,p.2,aA,ag q λp2 _ q y H2 eo2 eO=>?_⟩;split at q
 ·rename_i i hi;have hv:=eo2.val;rw[hi]at hv;refine⟨i,hv.int_inv,?_⟩;rw[ae]at q;exact vn hK (rfl) (λ_=>trivial) eO bp eo2.ext (ag q λz _ q v H3 e1 e2=>q v H3 e1 e2)
 ·exact q.elim
theorem HY{a l:Expr}{a' l':C}{p2 pos:Pos}(hK:Φ.K=X.K)(ha:PE X a (cw Φ Γ F fr a'))(hl:PE X l (cw Φ Γ F fr l')):PE X (.Subscript a (.Slice none (some l) none p2) pos) (cw Φ Γ F fr (.sliH a' l')):=bz (rD A4 ha vY (vZ hl)) λσ H Q q=>by
 obtain⟨o,ρ,S,er,q⟩:=q;rw[AR]at q;rw[ae]at q;refine⟨o,ρ,S,er,ag q λp _ q x H1 bp aA=>?_⟩;rw[ae]at q;refine⟨o,ρ,p.2,aA,ag q λp2 _ q y H2 eo2 eO=>?_⟩;split at q
 ·rename_i i hi;have hv:=eo2.val;rw[hi]at hv;refine⟨i,hv.int_inv,?_⟩;rw[ae]at q;exact vn hK (rfl) (λ_=>trivial) eO bp eo2.ext (ag q λz _ q v H3 e1 e2=>q v H3 e1 e2)
 ·exact q.elim
theorem Lz:PA X [] (mQ Φ Γ F .nil):=Ax jV λσ H Q q=>by obtain⟨o,ρ,S,er,q⟩:=q;exact q _ _ ⟨aU.refl,ao.nil,λ_=>ao.nil,λ_=>trivial⟩ er
theorem HU{e:Expr}{es:List Expr}{c:C}{cs:Cs}(hs:starEach (e::es) X.env=(false,eval e X.env)::starEach es X.env)(h:PE X e (cw Φ Γ F fr c))(hr:PA X es (mQ Φ Γ F cs)):PA X (e::es) (mQ Φ Γ F (.cons c cs)):=Ax (d5 h hr hs) λσ H Q q=>by obtain⟨o,ρ,S,er,q⟩:=q;rw[jZ]at q;rw[ae]at q;refine⟨o,ρ,S,er,ag q λp _ q x H1 bp aA=>?_⟩;rw[ae]at q;refine⟨o,ρ,p.2,aA,ag q λp2 _ q xs H2 eo2 eO=>?_⟩;obtain⟨k1,k2,k3⟩:=bp.keep eo2.ext er.iZ;have el:sQ (.cons c cs)=max (lk c) (sQ cs):=rfl;exact q _ _ ⟨bp.ext.trans eo2.ext,ao.cons k1 eo2.val,λl=>ao.cons (k2 ()) (eo2.dS ()),λl=>⟨k3 (),eo2.uE ()⟩⟩ eO
theorem Aj{cs:Cs}{c:C}(hc:lk c=if sQ cs=0 then 0 else 2):(lk c<=1->lk c=0)/\(lk c=0->sQ cs=0):=by
 rw[hc];split
 ·rename_i h;exact⟨λ_=>rfl,λ_=>h⟩
 ·exact⟨λz=>(),λz=>()⟩
theorem E1{es:List Expr}{cs:Cs}{x1:Nat}{pos:Pos}(h:PA X es (mQ Φ Γ F cs)):PE X (.Tuple es x1 pos) (cw Φ Γ F fr (.tup cs)):=bz (Hr h) λσ H Q q=>by
 obtain⟨o,ρ,S,er,q⟩:=q;rw[we]at q;rw[ae]at q;refine⟨o,ρ,S,er,ag q λp _ q xs H1 bp aA=>?_⟩;obtain⟨g1,q⟩:=aK q;refine⟨by rw[bp.val.length];exact TX (TH g1) fu,λa ha=>?_⟩;have s:=Mx.eM ha (.tup xs);have hl:=Aj (cs:=cs) (c:=.tup cs) (rfl);have q0:lk (.tup cs)=0->RV Φ.K o.A (upd H1 a (.tup xs)) (.ref a) (.tup p.1):=λl=>RV.iR aN ((bp.dS (hl.2 l)).same s)
 exact q _ _ ⟨bp.ext.trans (aU.of_same s),RV.iR aN (bp.val.same s),q0,λl=>(q0 (hl.1 l)).one,λz=>by cases z⟩ (aA.grow s)
theorem Lw{es:List Expr}{cs:Cs}{pos:Pos}(h:PA X es (mQ Φ Γ F cs)):PE X (.List es pos) (cw Φ Γ F fr (.lst cs)):=bz (Hl h) λσ H Q q=>by
 obtain⟨o,ρ,S,er,q⟩:=q;rw[DM]at q;rw[ae]at q;refine⟨o,ρ,S,er,ag q λp _ q xs H1 bp aA=>?_⟩;obtain⟨g1,q⟩:=aK q;refine⟨by rw[bp.val.length];exact TX (TH g1) fu,λa ha=>?_⟩;have s:=Mx.eM ha (.lst xs);have hl:=Aj (cs:=cs) (c:=.lst cs) (rfl);have na:¬o.A a:=λz=>by obtain⟨y,hy⟩:=aA.al a z;rw[ha]at hy;cases hy
 have q0:lk (.lst cs)=0->RV Φ.K o.A (upd H1 a (.lst xs)) (.ref a) (.lst p.1):=λl=>RV.iQ aN na ((bp.dS (hl.2 l)).same s)
 refine q _ _ ⟨bp.ext.trans (aU.of_same s),RV.iQ aN (λz=>na (aA.iZ a z)) (bp.val.same s),q0,λl=>(q0 (hl.1 l)).one,λ_ ds e=>?_⟩ (aA.grow s);cases e;exact⟨a,xs,rfl,aA.fw bp.ext ha,aN,(bp.val.avoid ha).same s,λl=>((bp.dS (hl.2 l)).avoid ha).same s⟩
theorem Fw(b:BI)(ds:List Dt):∀k,c9 b ds≠ .ex k:=by
 intro k;unfold c9;split<;>split
 all_goals first
  |(intro z;cases z;done)
  |(exact dB (λk z=>by cases z) k)
  |(split<;>first|(intro z;cases z;done)|(exact dB (λk z=>by cases z) k)|(split<;>first|(intro z;cases z;done)|(exact dB (λk z=>by cases z) k)))
  |(rename_i T d;unfold xD;split<;>(intro z;cases z))
theorem EM{b:BI}{cs:Cs}:(lk (.bi b cs)=0\/lk (.bi b cs)=2)/\(lk (.bi b cs)<=1->sQ cs<=1):=by
 have e:lk (.bi b cs)=if sQ cs<=1 then 0 else 2:=rfl
 rw[e];split
 ·rename_i h;exact⟨.inl rfl,λ_=>h⟩
 ·exact⟨.inr rfl,λz=>()⟩
theorem zw{b:BI}{cs:Cs}{σ:L2.St}{H:Hp}{Q:VK}(hK:Φ.K=X.K)(q:cw Φ Γ F fr (.bi b cs) σ H Q):Pq (rP X.K true (c9 b)) (mQ Φ Γ F cs) σ H Q:=by
 obtain⟨o,ρ,S,er,q⟩:=q;rw[pV]at q;rw[ae]at q;refine⟨o,ρ,S,er,ag q λp _ q xs H1 bp aA=>?_⟩;rw[ae]at q;obtain⟨z,hz,q⟩:=kT (Fw _ _) q;refine⟨p.1,z,hK▸GV bp.val,hz,λv H3 pr=>?_⟩;rw[<-hK]at pr;obtain⟨e1,e2⟩:=EO.pr (fr:=fr) (H:=H) (c:=.bi b cs) aA bp.ext bp.val (λl=>bp.uE (EM.2 l)) EM.1 pr λ_=>rfl
 exact q v H3 e1 e2
end
def Cs.len:Cs->Nat
 |.nil=>0
 |.cons _ cs=>cs.len+1
theorem vk{F:FT}:∀{cs:Cs}{ρ:ai}{S:Sx}{p:List Dt×Sx},gf F cs ρ S= .ok p->p.1.length=cs.len
 |.nil,ρ,S,p,h=>by rw[rO]at h;cases h;rfl
 |.cons c cs,ρ,S,p,h=>by
  rw[jZ]at h;cases h1:ev F c ρ S with
  |ok x=>
   rw[h1]at h;simp only[R.ah]at h;cases h2:gf F cs ρ x.2 with
   |ok y=>rw[h2]at h;cases h;simp[Cs.len,vk h2]
   |ex k=>rw[h2]at h;cases h
   |bad=>rw[h2]at h;cases h
  |ex k=>rw[h1]at h;cases h
  |bad=>rw[h1]at h;cases h
section
variable{X:Cx}{Φ:Fm}{Γ:Gm}{F:FT}{g:G}{xv:Nat->Value}{CX:nv}{k:Nat}
theorem qM{H H':Hp}(e:aU (λb=>(none:Option Addr)=some b) H H'):cy H H':=λb o h=>e.kp b o h ∅
theorem uD{K:Frag}{A:Addr->Prop}{H:Hp}:∀{ds:List Dt},ds.all qw=true->ao K A H (ds.map p6) ds
 |[],_=>ao.nil
 |d::ds,h=>by rw[Vj,TC]at h;exact ao.cons (rV h.1) (uD h.2)
theorem s_call{x:Str}{f np j:Nat}{gD:List Dt}{e:Expr}{es:List Expr}{cs:Cs}{p pos:Pos}(hX:HX g xv CX k F Φ X)(hG:Gl X x)(Cz:(x==("__debug__":Str))=false)(zS:tN x g.fns=some (f,np,gD,false))(hj:j<=gD.length)(hn:cs.len+(gD.drop j).length=np)
  (hs:starEach (e::es) X.env=(false,eval e X.env)::starEach es X.env) (sP:(backTo pos (starEach es X.env)).any (·.1)=false) (ha:PA X (e::es) (mQ Φ Γ F cs)):PE X (.Call (.Name x p) (e::es) [] pos) (cw Φ Γ F g.fr (.call f cs (gD.drop j))):=by
 obtain⟨n,fx⟩:=hX.fx;obtain⟨fa,fd,ps,Th,hmg,RW,hok,hb,R7⟩:=fx.fn x f np gD false zS;obtain⟨xj,kc,RI⟩:=hb j hj;refine bz (Dp hok hX.room hG hmg RW RI kc hX.pass ha Cz hs sP) λσ H Q q=>?_
 obtain⟨o,ρ,S,er,q⟩:=q;rw[rM]at q;rw[ae]at q;refine⟨o,ρ,S,er,ag q λp hp q vs H1 bp aA=>?_⟩;have Qr:(gD.drop j).all qw=true:=Ut.mpr λd hd=>Ut.mp R7 d (List.mem_of_mem_drop hd)
 rw[ae]at q;have el:lk (.call f cs (gD.drop j))=if sQ cs=0 then 0 else 2:=rfl
 refine⟨?_,?_⟩
 ·rw[T6,bp.val.length,TU,vk hp];exact hn
 by_cases hl:sQ cs=0
 ·rw[W0 hl]at el;refine⟨o.A,none,p.1++gD.drop j,none,vs++(gD.drop j).map p6,⟨rfl,rfl,rfl⟩,?_,aA.al,?_⟩
  ·rw[<-hX.K];exact(bp.dS hl).append (uD Qr)
  ·cases hr:F f (p.1++gD.drop j) none with
   |ok y=>rw[hr]at q;intro v H' fo;rw[<-hX.K]at fo;have sm:=qM fo.ext;refine q v H' ⟨bp.ext.trans (aU.of_same sm),fo.val.weak aA.iZ,λ_=>fo.val,λ_=>fo.val.one,λfc ds ed=>?_⟩ (aA.grow sm);obtain⟨a,xs,h1,h2,h3,h4⟩:=fo.kC fc ds ed;exact⟨a,xs,h1,aA.fw bp.ext h2,h3,h4.weak λb z=>z.elim (λz=>.inl (aA.iZ b z)) .inr,λ_=>h4⟩
   |ex kk=>rw[hr]at q;intro H' e';exact⟨kk,rfl,q,aA.ent.trans (e'.mono λb z=>by cases z)⟩
   |bad=>rw[hr]at q;exact q.elim
 ·rw[WZ hl]at el;refine⟨o.wd,none,p.1++gD.drop j,none,vs++(gD.drop j).map p6,⟨rfl,rfl,rfl⟩,?_,aA.yE,?_⟩
  ·rw[<-hX.K];exact bp.val.append (uD Qr)
  ·cases hr:F f (p.1++gD.drop j) none with
   |ok y=>rw[hr]at q;intro v H' fo;rw[<-hX.K]at fo;have sm:=qM fo.ext;refine q v H' ⟨bp.ext.trans (aU.of_same sm),fo.val,λz=>by rw[el]at z;lia,λz=>by rw[el]at z;lia,λfc ds ed=>?_⟩ (aA.grow sm);obtain⟨a,xs,h1,h2,h3,h4⟩:=fo.kC fc ds ed;exact⟨a,xs,h1,aA.fw bp.ext h2,h3,h4,λz=>by rw[el]at z;lia⟩
   |ex kk=>rw[hr]at q;intro H' e';exact⟨kk,rfl,q,aA.ent.trans (e'.mono λb z=>by cases z)⟩
   |bad=>rw[hr]at q;exact q.elim
theorem Cf{t:Str}{T:String}(h:uL t=some T):bootBuiltins t=some (.type T):=by
 unfold uL at h;split at h
 ·rename_i e;cases h;rw[Ud e];exact PyProof.Rows.boot_str
 split at h
 ·rename_i e;cases h;rw[Ud e];exact PyProof.Rows.boot_int
 split at h
 ·rename_i e;cases h;rw[Ud e];exact PyProof.Rows.boot_bool
 split at h
 ·rename_i e;cases h;rw[Ud e];exact PyProof.Rows.boot_list
 split at h
 ·rename_i e;cases h;rw[Ud e];exact PyProof.Rows.boot_tuple
 ·cases h
theorem D8{t:Str}{T:String}(h:uL t=some T):T="str"\/T="int"\/T="bool"\/T="list"\/T="tuple":=by
 unfold uL at h;split at h
 ·cases h;simp
 split at h
 ·cases h;simp
 split at h
 ·cases h;simp
 split at h
 ·cases h;simp
 split at h
 ·cases h;simp
 ·cases h
theorem Gn{K:Frag}{A:Addr->Prop}{H:Hp}{x:V}{d:Dt}{T:String}{b:Bool}(hT:T="str"\/T="int"\/T="bool"\/T="list"\/T="tuple")(hx:RV K A H x d)(h:xD T d= .ok b):∃t,ja K H x t/\PySem.W.kitOne K t (.type T)=some b:=by
 unfold xD at h;split at h
 ·cases h;rw[hx.str_inv];refine⟨_,.str _,?_⟩;rcases hT with rfl|rfl|rfl|rfl|rfl<;>rfl
 ·cases h;rw[hx.int_inv];refine⟨_,.int _,?_⟩;rcases hT with rfl|rfl|rfl|rfl|rfl<;>rfl
 ·cases h;rw[hx.bX];refine⟨_,.bl _,?_⟩;rcases hT with rfl|rfl|rfl|rfl|rfl<;>rfl
 ·cases h;obtain⟨a,xs,rfl,h1,_⟩:=hx.lst_inv;refine⟨_,.lst h1,?_⟩;rcases hT with rfl|rfl|rfl|rfl|rfl<;>rfl
 ·cases h;obtain⟨a,xs,rfl,h1,_⟩:=hx.ar;refine⟨_,.tup h1,?_⟩;rcases hT with rfl|rfl|rfl|rfl|rfl<;>rfl
 ·cases h;rw[hx.eS];refine⟨_,.bg,?_⟩;rcases hT with rfl|rfl|rfl|rfl|rfl<;>rfl
 ·cases h
theorem CO(T:String)(d:Dt):∀k,xD T d≠ .ex k:=by intro k;unfold xD;split<;>(intro z;cases z)
theorem Lv{a:Expr}{a':C}{t:Str}{T:String}{p tp pos:Pos}(hK:Φ.K=X.K)(hG:Gl X "isinstance")(hm:X.mg "isinstance"=none)(Rz:Gl X t)(RY:X.mg t=none)(hT:uL t=some T)(hn:t≠"__name__")(Cz:(t==("__debug__":Str))=false)
  (hs:starEach (a::[.Name t tp]) X.env=(false,eval a X.env)::starEach [.Name t tp] X.env) (ha:PE X a (cw Φ Γ F g.fr a')):PE X (.Call (.Name "isinstance" p) [a,.Name t tp] [] pos) (cw Φ Γ F g.fr (.bi (.isi T) (.cons a' .nil))):=by
 refine bz (rA Mx.yX hG hm PyProof.Rows.boot_isinstance (d5 ha (d5 (Do (v:=.ty T) Rz RY (Cf hT) rfl hn Cz) jV) hs) ⋯ ⋯ hs) λσ H Q q=>?_
 obtain⟨o,ρ,S,er,q⟩:=q;rw[pV]at q;simp only[jZ,rO]at q;rw[ae,ae]at q;refine⟨o,ρ,S,er,ag q λp hp q x H1 bp aA=>?_⟩;simp only[R.ah]at q;have q:mR Φ.Ek ((c9 (.isi T) [p.1]).bind λd=>R.ok (d,p.2)) _:=q;unfold c9 at q;simp only at q;rw[ae,ae]at q;obtain⟨b,hb,q⟩:=jm (CO _ _) q;obtain⟨ty,k1,k2⟩:=Gn (D8 hT) (hK▸bp.val) hb;refine⟨x,T,ty,b,rfl,k1,k2,q _ _ ?_ aA⟩;exact(EO.sc (Φ:=Φ) (fr:=g.fr) (o:=o) (H:=H1) (c:=.bi (.isi T) (.cons a' .nil)) (d:=.bl b) rfl).xm bp.ext λf=>by cases f
end
def Ou(K:Frag)(tl:TE):TI:=λσ H R=>tl σ H λx H1=>(∃a xs,x= .ref a/\dF K H1 a xs/\R (Mk K a) H1)\/(∃a xs,x= .ref a/\fj K H1 a xs/\R (Nd K a) H1)
theorem Ht{X:Cx}{tg l:Expr}{tl:TE}(hl:PE X l tl):PI X tg l (Ou X.K tl):=by
 intro pins s σ H R I h;refine bV (hl pins s σ H _ I h) λv s1⟨x,H1,I1,r1,q1⟩=>?_
 rcases q1 with ⟨a,xs,e,hq,q⟩|⟨a,xs,e,hq,q⟩
 ·subst e;cases r1;obtain⟨its,rv,p,hz⟩:=I1.list hq;refine Xk p.isList ?_;refine⟨s1.heap.objs.size,[s1.heap.objs.size],_,_,H1,rfl,I1.kept (t':=s1.toks) λb o e=>Tx _ e,yg a _,⟨_,TQ _ rfl,rfl,rfl⟩,λb hb=>?_,q⟩;have e:b=s1.heap.objs.size:=by simpa using hb
  subst e;exact I1.zB (TM _) (I1.hok.fresh (TM _))
 ·subst e;cases r1;obtain⟨its,rv,p,hz⟩:=I1.tuple hq;refine Xl (show s1.heap.IsTuple a its.toArray from p) ?_;refine⟨s1.heap.objs.size,[s1.heap.objs.size],_,_,H1,rfl,I1.kept (t':=s1.toks) λb o e=>Tx _ e,uK a _,⟨_,TQ _ rfl,rfl,rfl⟩,λb hb=>?_,q⟩;have e:b=s1.heap.objs.size:=by simpa using hb
  subst e;exact I1.zB (TM _) (I1.hok.fresh (TM _))
section
variable{X:Cx}{Φ:Fm}{Γ:Gm}{F:FT}{g:G}{K:Frag}
theorem wM{A Y:Addr->Prop}{a:Addr}{xs:List V}{ds:List Dt}{H:Hp}(ha:H a=some (.lst xs))(hn:¬Y a)(hY:∀b,Y b->A b)(h:ao K A H xs ds):Wk K A Y (Mk K a) H ds where
 go:=λi H1 hi e=>⟨xs,xs[i]'(by rw[h.length];exact hi),dF.of (e.kp _ _ ha hn),∅⟩
 stop:=λH1 e=>⟨xs,dF.of (e.kp _ _ ha hn),by rw[h.length];exact TM _⟩
 yld:=λi x H1 H2 hi e y=>by obtain⟨rfl,y⟩:=y;obtain⟨d,h1,h2⟩:=h.get (y xs (dF.of (e.kp _ _ ha hn)));exact⟨cy.refl _,d,h1,λB hB=>(h2.eh (B:=λb=>A b\/B b) λb z=>z.elim .inl (hB b)).mono e (λb z=>.inl (hY b z)) λ_ z=>.inr z⟩
theorem uN{A Y:Addr->Prop}{a:Addr}{xs:List V}{ds:List Dt}{H:Hp}(ha:H a=some (.tup xs))(hY:∀b,Y b->A b)(h:ao K A H xs ds):Wk K A Y (Nd K a) H ds where
 go:=λi H1 hi e=>⟨xs,xs[i]'(by rw[h.length];exact hi),fj.of (e.tp _ _ ha),∅⟩
 stop:=λH1 e=>⟨xs,fj.of (e.tp _ _ ha),by rw[h.length];exact TM _⟩
 yld:=λi x H1 H2 hi e y=>by obtain⟨rfl,y⟩:=y;obtain⟨d,h1,h2⟩:=h.get (y xs (fj.of (e.tp _ _ ha)));exact⟨cy.refl _,d,h1,λB hB=>(h2.eh (B:=λb=>A b\/B b) λb z=>z.elim .inl (hB b)).mono e (λb z=>.inl (hY b z)) λ_ z=>.inr z⟩
theorem Bp{A Y:Addr->Prop}{a:Addr}{ns:List Int}{H:Hp}(ha:(Rd H a (.lst (ns.map V.int))/\¬Y a)\/KL K a (ns.map V.int)):Wk K A Y (Mk K a) H (ns.map Dt.int):=by
 have sq:∀H1,aU Y H H1->dF K H1 a (ns.map V.int):=λH1 e=>by
  rcases ha with ⟨h,n⟩|h
  ·exact .inl (HG e n h)
  ·exact .inr h
 refine⟨λi H1 hi e=>?_,λH1 e=>⟨_,sq H1 e,∅⟩,λi x H1 H2 hi e y=>?_⟩
 ·rw[TU]at hi;exact⟨_,.int ns[i],sq H1 e,by simp[hi]⟩
 ·obtain⟨rfl,y⟩:=y;have:=y _ (sq _ e);rw[T9]at this;obtain⟨m,h1,rfl⟩:=T5.mp this;exact⟨cy.refl _,.int m,by simp[h1],λ_ _=>RV.fR⟩
theorem j7{A Y:Addr->Prop}{lo:Int}{n:Nat}{H:Hp}:Wk K A Y (Jf lo n) H (aM lo n) where
 go:=λi H1 hi e=>by unfold aM at hi;simp at hi;exact hi
 stop:=λH1 e=>by unfold aM;simp only[TU,VM];exact TM _
 yld:=λi x H1 H2 hi e y=>by obtain⟨rfl,rfl⟩:=y;unfold aM at hi;simp at hi;exact⟨cy.refl _,.int (lo+i),by unfold aM;simp[hi],λ_ _=>RV.fR⟩
theorem AZ{tg a:Expr}{a':C}(hK:Φ.K=X.K)(ha:PE X a (cw Φ Γ F g.fr a')):PI X tg a (mP Φ Γ F (.seq a')):=pQ (Ht ha) λσ H Q q=>by
 obtain⟨o,ρ,S,er,q⟩:=q;rw[xS]at q;rw[ae]at q;refine⟨o,ρ,S,er,ag q λp he q x H1 bp aA=>?_⟩;have BJ:kG (.seq a')=lk a':=rfl;cases hd:p.1 with
 |lst ds=>
  rw[hd]at q;have hv:=bp.val;have h0:=bp.dS;have h1:=bp.uE;rw[hd]at hv h0 h1;obtain⟨b,xs,rfl,f1,fn,f2⟩:=hv.lst_inv;refine .inl ⟨b,xs,rfl,dF.of f1,q _ _ ⟨bp.ext,λl=>?_,λl=>?_,λl=>by unfold jL at l;rw[he]at l;simp only[hd,rh]at l;cases l⟩ aA⟩
  ·rw[<-hK];exact wM f1 (λz=>fn (.inr z)) aA.da (fX.dM (h1 (by rw[BJ]at l;exact l)) f1)
  ·rw[<-hK];have:=h0 (by rw[BJ]at l;exact l);obtain⟨b',BV,e',g1,gn,g2⟩:=this.lst_inv;cases e';exact wM g1 gn (λ_ z=>z) g2
 |tup ds=>
  rw[hd]at q;have hv:=bp.val;have h0:=bp.dS;have h1:=bp.uE;rw[hd]at hv h0 h1;obtain⟨b,xs,rfl,f1,f2⟩:=hv.ar;refine .inr ⟨b,xs,rfl,fj.of f1,q _ _ ⟨bp.ext,λl=>?_,λl=>?_,λl=>?_⟩ aA⟩
  ·rw[<-hK];exact uN f1 aA.da (fX.aV (h1 (by rw[BJ]at l;exact l)) f1)
  ·rw[<-hK];exact uN f1 (λ_ z=>z) (fX.aV (h0 (by rw[BJ]at l;exact l)).one f1)
  ·rw[<-hK];unfold jL at l;rw[he]at l;simp only[hd]at l;exact uN f1 (λ_ z=>z) (fX.aV (hv.rh l:RV Φ.K o.A H1 (.ref b) (.tup ds)).one f1)
 |bO ns=>
  rw[hd]at q;have hv:=bp.val;have h0:=bp.dS;rw[hd]at hv h0;obtain⟨b,rfl,hb⟩:=hv.iq;have R9:dF X.K H1 b (ns.map V.int):=by
   rw[<-hK];rcases hb with hb|hb
   ·exact .inl hb.1
   ·exact .inr hb
  refine .inl ⟨b,_,rfl,R9,q _ _ ⟨bp.ext,λl=>?_,λl=>?_,λl=>by unfold jL at l;rw[he]at l;simp only[hd,rh]at l;cases l⟩ aA⟩
  ·rw[<-hK];exact Bp (hb.imp (λz=>⟨z.1,λw=>z.2 (.inr w)⟩) id)
  ·rw[<-hK];obtain⟨b',e',vy⟩:=(h0 (by rw[BJ]at l;exact l)).iq;cases e';exact Bp vy
 |_=>rw[hd]at q;exact q.elim
theorem HV{tg a:Expr}{a':C}{p pos:Pos}(hG:Gl X "range")(hm:X.mg "range"=none)(hs:starEach [a] X.env=[(false,eval a X.env)])(ha:PE X a (cw Φ Γ F g.fr a')):PI X tg (.Call (.Name "range" p) [a] [] pos) (mP Φ Γ F (.rng1 a')):=
 pQ (xN hG hm (d5 ha jV (by rw[hs];rfl)) hs) λσ H Q q=>by
 obtain⟨o,ρ,S,er,q⟩:=q;rw[uz]at q;rw[ae]at q;refine⟨o,ρ,S,er,ag q λp _ q x H1 bp aA=>?_⟩;cases hd:p.1 with
 |int j=>rw[hd]at q;obtain⟨g1,q⟩:=aK q;rw[TC]at g1;have a1:=TH g1.1;have a2:=TH g1.2;have hl:lim=1000000:=rfl;have hv:=bp.val;rw[hd]at hv;exact⟨j,by rw[hv.int_inv],(),(),q _ _ ⟨bp.ext,λ_=>j7,λ_=>j7,λ_=>j7⟩ aA⟩
 |_=>rw[hd]at q;exact q.elim
theorem HW{tg a b:Expr}{a' b':C}{p pos:Pos}(hG:Gl X "range")(hm:X.mg "range"=none)(hs:starEach [a,b] X.env=[(false,eval a X.env),(false,eval b X.env)])(xB:starEach [b] X.env=[(false,eval b X.env)])(ha:PE X a (cw Φ Γ F g.fr a'))(hb:PE X b (cw Φ Γ F g.fr b')):
  PI X tg (.Call (.Name "range" p) [a,b] [] pos) (mP Φ Γ F (.rng2 a' b')):=
 pQ (xO hG hm (d5 ha (d5 hb jV (by rw[xB];rfl)) (by rw[hs,xB])) hs xB) λσ H Q q=>by
 obtain⟨o,ρ,S,er,q⟩:=q;rw[mH]at q;rw[ae]at q;refine⟨o,ρ,S,er,ag q λp _ q x H1 bp aA=>?_⟩;rw[ae]at q;refine⟨o,ρ,p.2,aA,ag q λp2 _ q y H2 eo2 eO=>?_⟩;split at q
 ·rename_i i j h1 h2;obtain⟨g1,q⟩:=aK q;rw[TC]at g1;have a1:=TH g1.1;have a2:=TH g1.2;have hl:lim=1000000:=rfl;have hv:=bp.val;rw[h1]at hv;have Qu:=eo2.val;rw[h2]at Qu;exact⟨i,j,by rw[hv.int_inv,Qu.int_inv],⟨(),(),(),()⟩,q _ _ ⟨bp.ext.trans eo2.ext,λ_=>j7,λ_=>j7,λ_=>j7⟩ eO⟩
 ·exact q.elim
theorem Bq{A Y:Addr->Prop}{b1 b2:Bool}{l1 l2:Addr}{xs ys:List V}{ds es:List Dt}{H:Hp}(h1:H l1=some (Mx.sO b1 xs))(h2:H l2=some (Mx.sO b2 ys))(n1:b1=false->¬Y l1)(n2:b2=false->¬Y l2)(hY:∀b,Y b->A b)(g1:ao K A H xs ds)(g2:ao K A H ys es):Wk K A Y (Mx.Nc b1 b2 l1 l2) H (cT ds es):=by
 have k1:∀H1,aU Y H H1->H1 l1=some (Mx.sO b1 xs):=λH1 e=>by
  cases b1 with
  |false=>exact e.kp _ _ h1 (n1 rfl)
  |true=>exact e.tp _ _ h1
 have k2:∀H1,aU Y H H1->H1 l2=some (Mx.sO b2 ys):=λH1 e=>by
  cases b2 with
  |false=>exact e.kp _ _ h2 (n2 rfl)
  |true=>exact e.tp _ _ h2
 have hz:(cT ds es).length=min xs.length ys.length:=by unfold cT;rw[List.length_zipWith,g1.length,g2.length]
 refine⟨λi H1 hi e=>?_,λH1 e=>?_,λi x H1 H2 hi e y=>?_⟩
 ·rw[hz]at hi;exact⟨xs,ys,xs[i]'(),ys[i]'(),k1 H1 e,k2 H1 e,∅,∅⟩
 ·exact⟨xs,ys,k1 H1 e,k2 H1 e,()⟩
 ·obtain⟨p,x1,y1,rfl,hp,rfl,q⟩:=y;obtain⟨q1,q2⟩:=q xs ys (k1 H1 e) (k2 H1 e);obtain⟨d,a1,a2⟩:=g1.get q1;obtain⟨c,c1,c2⟩:=g2.get q2;have s:=Mx.eM hp (.tup [x1,y1]);refine⟨s,.tup [d,c],by unfold cT;rw[List.getElem?_zipWith,a1,c1],λB hB=>RV.iR aN ?_⟩;have av:∀{v:V}{dd:Dt},RV K A H v dd->RV K B (upd H1 p (.tup [x1,y1])) v dd:=λh=>((h.eh (B:=λb=>A b\/B b) λb z=>z.elim .inl (hB b)).mono e (λb z=>.inl (hY b z)) λ_ z=>.inr z).same s
  exact ao.cons (av a2) (ao.cons (av c2) ao.nil)
theorem fA{A B:Addr->Prop}{H:Hp}{x:V}{d:Dt}{ds:List Dt}(h:cM d=some ds)(hv:RV K A H x d)(h1:fX K B H x d):∃b l xs,x= .ref l/\H l=some (Mx.sO b xs)/\(b=false->¬A l)/\ao K B H xs ds:=by
 unfold cM at h;split at h
 ·cases h;obtain⟨a,xs,rfl,f1,fn,f2⟩:=hv.lst_inv;exact⟨false,a,xs,rfl,f1,λ_=>fn,fX.dM h1 f1⟩
 ·cases h;obtain⟨a,xs,rfl,f1,f2⟩:=hv.ar;exact⟨true,a,xs,rfl,f1,λz=>(by cases z),fX.aV h1 f1⟩
 ·cases h
theorem LD{es:List Expr}{kk:Nat}{tp:Pos}{a b:Expr}{a' b':C}{p pos:Pos}(hK:Φ.K=X.K)(hG:Gl X "zip")(hm:X.mg "zip"=none)(hs:starEach [a,b] X.env=[(false,eval a X.env),(false,eval b X.env)])(xB:starEach [b] X.env=[(false,eval b X.env)])(ha:PE X a (cw Φ Γ F g.fr a'))(hb:PE X b (cw Φ Γ F g.fr b')):
  PI X (.Tuple es kk tp) (.Call (.Name "zip" p) [a,b] [] pos) (mP Φ Γ F (.zip a' b')):=
 pQ (Mx.Dw hG hm (d5 ha (d5 hb jV (by rw[xB];rfl)) (by rw[hs,xB])) hs xB) λσ H Q q=>by
 obtain⟨o,ρ,S,er,q⟩:=q;rw[xT]at q;rw[ae]at q;refine⟨o,ρ,S,er,ag q λp _ q x H1 bp aA=>?_⟩;rw[ae]at q;refine⟨o,ρ,p.2,aA,ag q λp2 _ q y H2 eo2 eO=>?_⟩;have BJ:kG (.zip a' b')=max (lk a') (lk b'):=rfl;split at q
 ·rename_i ds es e1 e2;obtain⟨k1,k2,k3⟩:=bp.keep eo2.ext er.iZ;obtain⟨c1,l1,xs,rfl,f1,Rg,f2⟩:=fA e1 k1 k1.one;obtain⟨c2,l2,ys,rfl,g1,Rj,g2⟩:=fA e2 eo2.val eo2.val.one;refine⟨c1,c2,l1,l2,xs,ys,rfl,f1,g1,q _ _ ⟨bp.ext.trans eo2.ext,λl=>?_,λl=>?_,λl=>by unfold jL at l;cases l⟩ eO⟩
  ·rw[BJ]at l;obtain⟨Jt,Sl,BV,e',FV,_,NJ⟩:=fA e1 k1 (k3 ());obtain⟨Ju,Sm,M4,Ex,F3,_,NL⟩:=fA e2 eo2.val (eo2.uE ());cases e';cases Ex;have i1:c1=Jt/\xs=BV:=by rw[f1]at FV;cases c1<;>cases Jt<;>first|(cases FV;exact⟨rfl,rfl⟩)|cases FV
   have i2:c2=Ju/\ys=M4:=by rw[g1]at F3;cases c2<;>cases Ju<;>first|(cases F3;exact⟨rfl,rfl⟩)|cases F3
   obtain⟨rfl,rfl⟩:=i1;obtain⟨rfl,rfl⟩:=i2;exact Bq f1 g1 (λz w=>Rg z (.inr w)) (λz w=>Rj z (.inr w)) eO.da NJ NL
  ·rw[BJ]at l;obtain⟨Jt,Sl,BV,e',FV,KO,NJ⟩:=fA e1 (k2 ()) (k2 ()).one;obtain⟨Ju,Sm,M4,Ex,F3,BO,NL⟩:=fA e2 (eo2.dS ()) (eo2.dS ()).one;cases e';cases Ex;have i1:c1=Jt/\xs=BV:=by rw[f1]at FV;cases c1<;>cases Jt<;>first|(cases FV;exact⟨rfl,rfl⟩)|cases FV
   have i2:c2=Ju/\ys=M4:=by rw[g1]at F3;cases c2<;>cases Ju<;>first|(cases F3;exact⟨rfl,rfl⟩)|cases F3
   obtain⟨rfl,rfl⟩:=i1;obtain⟨rfl,rfl⟩:=i2;exact Bq f1 g1 KO BO (λ_ z=>z) NJ NL
 ·exact q.elim
end
def sk:List Nat->wO
 |[]=>F4
 |i::is=>zC (eR i) (sk is)
def D3(K:Frag):Tg->TG
 |.nm i=>eR i
 |.tp is=>F5 K is.length (sk is)
section
variable{X:Cx}{Φ:Fm}{Γ:Gm}{g:G}{k:Nat}
theorem fE{x:Str}{i:Nat}(h:gY Γ x=some i):Al (Γ.names.lookup x)=true/\fS x=true/\Γ.N[i]?=some x:=by
 unfold gY at h;split at h
 ·rename_i c;rw[TC]at c;exact⟨c.1,c.2,pC h⟩
 ·cases h
theorem wz{x:Str}{i:Nat}(h:slot Γ x=some i):Bl (Γ.names.lookup x)=true/\fS x=true/\Γ.N[i]?=some x:=by
 unfold slot at h;split at h
 ·rename_i c;rw[TC]at c;exact⟨c.1,c.2,pC h⟩
 ·cases h
theorem eI{e:Expr}{i:Nat}(h:kn Γ e=some i):∃x p,e= .Name x p/\gY Γ x=some i/\plainS Γ i=true:=by
 unfold kn at h;split at h
 ·rename_i x p;obtain⟨j,h1,h2⟩:=Tw.mp h;split at h2
  ·cases h2;exact⟨x,p,rfl,h1,by assumption⟩
  ·cases h2
 ·cases h
theorem EZ{e:Expr}{i:Nat}(gx:GX g Γ X)(h:kn Γ e=some i):PG X e (eR i):=by obtain⟨x,p,rfl,h1,_⟩:=eI h;obtain⟨a,b,c⟩:=fE h1;obtain⟨l1,l2⟩:=gx.loc x a;exact Ds (gx.N▸gx.nd) (by rw[gx.N];exact c) l1 l2
theorem A0(gx:GX g Γ X):∀{es:List Expr}{is:List Nat},dN Γ es=some is->IJ X es (sk is)/\es.length=is.length/\∀e∈es,∃x p,e= .Name x p
 |[],is,h=>by cases h;exact⟨Dv,rfl,λe z=>by cases z⟩
 |e::es,is,h=>by
  unfold dN at h;obtain⟨i,h1,h2⟩:=Tw.mp h;obtain⟨js,h3,rfl⟩:=T5.mp h2;obtain⟨k1,k2,k3⟩:=A0 gx h3;obtain⟨x,p,ex,_⟩:=eI h1;refine⟨AB (EZ gx h1) k1 (by subst ex;rfl),by simp[k2],λe' z=>?_⟩;rcases TY.mp z with rfl|z
  ·exact⟨x,p,ex⟩
  ·exact k3 e' z
theorem iS{env:Env}:∀{es:List Expr},(∀e∈es,∃x p,e=Expr.Name x p)->(assignEach es env).length=es.length/\(assignEach es env).findIdx? (·.1)=none
 |[],_=>⟨rfl,rfl⟩
 |e::es,h=>by
  obtain⟨x,p,rfl⟩:=h e TN;obtain⟨h1,h2⟩:=iS (es:=es) (env:=env) λe' z=>h e' (TK _ z)
  have q:assignEach (Expr.Name x p::es) env=(false,assign (.Name x p) env)::assignEach es env:=rfl;rw[q];refine⟨by simp[h1],?_⟩;rw[List.findIdx?_cons];simp[h2]
theorem rY{e:Expr}{t:Tg}(gx:GX g Γ X)(h:oO Γ e=some t):PG X e (D3 X.K t):=by
 unfold oO at h;split at h
 ·obtain⟨i,h1,rfl⟩:=T5.mp h;exact EZ gx h1
 ·obtain⟨is,h1,rfl⟩:=T5.mp h;obtain⟨k1,k2,k3⟩:=A0 gx h1;obtain⟨n1,n2⟩:=iS (env:=X.env) k3;exact AA gx.calm k1 (by rw[n1,k2]) n2
 ·cases h
theorem dD{e:Expr}{t:Tg}(h:oO Γ e=some t):∀i∈aT t,plainS Γ i=true/\∃x,gY Γ x=some i:=by
 have many:∀{es:List Expr}{is:List Nat},dN Γ es=some is->∀i∈is,plainS Γ i=true/\∃x,gY Γ x=some i:=by
  intro es
  induction es with
  |nil=>intro is h i hi;cases h;cases hi
  |cons e es ih=>
   intro is h i hi;unfold dN at h;obtain⟨j,h1,h2⟩:=Tw.mp h;obtain⟨js,h3,rfl⟩:=T5.mp h2;rcases TY.mp hi with rfl|hi
   ·obtain⟨x,p,_,k1,k2⟩:=eI h1;exact⟨k2,x,k1⟩
   ·exact ih h3 i hi
 unfold oO at h;split at h
 ·obtain⟨j,h1,rfl⟩:=T5.mp h;intro i hi;have:i=j:=by simpa [aT]using hi
  subst this;obtain⟨x,p,_,k1,k2⟩:=eI h1;exact⟨k2,x,k1⟩
 ·obtain⟨is,h1,rfl⟩:=T5.mp h;exact many h1
 ·cases h
theorem jt{i:Nat}(h:plainS Γ i=true):gi Γ i=false/\Γ.δ≠some i:=by unfold plainS at h;rw[TC]at h;refine⟨by simpa using h.1,λe=>?_⟩;rw[e]at h;simp at h
theorem ER.set{o:Ow}{ρ:ai}{S:Sx}{σ:L2.St}{H:Hp}{i:Nat}{v:V}{d:Dt}(er:ER Φ Γ o ρ S σ H)(hp:plainS Γ i=true)(h:RV Φ.K o.A H v d):ER Φ Γ o (ρ.set i (some d)) S (σ.set i (some v)) H where
 len:=by rw[VP,VP];exact er.len
 wa:=er.wa
 da:=er.da
 al:=er.al
 val:=λj e he=>by
  by_cases hj:j=i
  ·subst hj;rw[VE]at he;simp only[W1]at he;split at he
   ·rename_i cU;cases he;refine⟨v,by rw[UD (by rw[er.len];exact cU)],?_⟩;rw[(jt hp).1,WZ ∅];exact h
   ·cases he
  ·rw[T7 (WH hj)]at he;obtain⟨w,h1,h2⟩:=er.val j e he;exact⟨w,by rw[T7 (WH hj)];exact h1,h2⟩
 inj:=λa b c e f ha hb h1 h2 h3 h4=>by
  have na:a≠i:=λz=>by rw[z,(jt hp).1]at ha;cases ha
  have nb:b≠i:=λz=>by rw[z,(jt hp).1]at hb;cases hb
  rw[T7 (WH na)]at h1 h3;rw[T7 (WH nb)]at h2 h4;exact er.inj a b c e f ha hb h1 h2 h3 h4
 dk:=Dk.set er.dk h.nd
 drw:=er.drw
 drn:=er.drn
 drs:=λj a hj ha=>by rw[T7 (λz=>(jt hp).2 (by rw[z];exact hj))];exact er.drs j a hj ha
 dr0:=er.dr0
 ent:=er.ent
theorem jD{o:Ow}{S:Sx}{H:Hp}{Q:L2.St->Hp->Prop}:∀{is:List Nat}{ds:List Dt}{xs:List V}{ρ ρ1:ai}{σ:L2.St},ER Φ Γ o ρ S σ H->(∀i∈is,plainS Γ i=true)->ao Φ.K o.A H xs ds->gX is ds ρ= .ok ρ1->(∀σ1,ER Φ Γ o ρ1 S σ1 H->(∀k,k∉is->σ1[k]?=σ[k]?/\ρ1[k]?=ρ[k]?)->Q σ1 H)->sk is xs σ H Q/\xs.length=is.length
 |[],ds,xs,ρ,ρ1,σ,er,_,hx,h,q=>by
  cases ds with
  |nil=>cases h;rw[hx.nil_inv];exact⟨⟨rfl,q σ er λ_ _=>⟨rfl,rfl⟩⟩,rfl⟩
  |cons=>cases h
 |i::is,ds,xs,ρ,ρ1,σ,er,hp,hx,h,q=>by
  cases ds with
  |nil=>cases h
  |cons d ds=>
   obtain⟨x,r,rfl,h1,h2⟩:=hx.cons_inv;obtain⟨k1,k2⟩:=jD (er.set (hp i TN) h1) (λj hj=>hp j (TK _ hj)) h2 h λσ1 aA hk=>q σ1 aA λk BH=>by
    have n1:k≠i:=λz=>BH (by rw[z];exact TN)
    obtain⟨a1,a2⟩:=hk k λz=>BH (TK _ z)
    rw[T7 (WH n1)]at a1 a2;exact⟨a1,a2⟩
   exact⟨⟨x,r,rfl,k1⟩,by simp[k2]⟩
theorem uG{o:Ow}{S:Sx}{H:Hp}{Q:L2.St->Hp->Prop}{t:Tg}{d:Dt}{x:V}{ρ ρ1:ai}{σ:L2.St}(er:ER Φ Γ o ρ S σ H)(hp:∀i∈aT t,plainS Γ i=true)(hx:RV Φ.K o.A H x d)(h:f7 t d ρ= .ok ρ1)(q:∀σ1,ER Φ Γ o ρ1 S σ1 H->(∀k,k∉aT t->σ1[k]?=σ[k]?/\ρ1[k]?=ρ[k]?)->Q σ1 H):D3 Φ.K t x σ H Q:=by
 cases t with
 |nm i=>
  cases h;exact q _ (er.set (hp i (by simp[aT])) hx) λk hk=>by
   have n1:k≠i:=λz=>hk (by simp[aT,z])
   rw[T7 (WH n1),T7 (WH n1)];exact⟨rfl,rfl⟩
 |tp is=>
  unfold f7 at h;cases d with
  |tup ds=>obtain⟨a,xs,rfl,h1,h2⟩:=hx.ar;obtain⟨k1,k2⟩:=jD er hp h2 h q;exact⟨a,xs,rfl,fj.of h1,k2,k1⟩
  |_=>cases h
theorem jz:∀(is:List Nat)(ds:List Dt)(ρ:ai)(k:Nat),gX is ds ρ≠ .ex k
 |[],[],_,_=>λz=>by cases z
 |[],_::_,_,_=>λz=>by cases z
 |_::_,[],_,_=>λz=>by cases z
 |_::is,_::ds,ρ,k=>jz is ds _ k
theorem mL(t:Tg)(d:Dt)(ρ:ai):∀k,f7 t d ρ≠ .ex k:=by
 intro k;cases t with
 |nm i=>intro z;cases z
 |tp is=>
  cases d with
  |tup ds=>exact jz is ds ρ k
  |_=>intro z;cases z
theorem se(is:List Nat)(d:Dt)(ρ:ai):∀k,r8 is d ρ≠ .ex k:=by
 intro k;cases d with
 |tup ds=>exact jz is ds ρ k
 |lst ds=>exact jz is ds ρ k
 |_=>intro z;cases z
theorem D2{o:Ow}{S:Sx}{H:Hp}{Q:L2.St->Hp->Prop}{is:List Nat}{d:Dt}{x:V}{ρ ρ1:ai}{σ:L2.St}(er:ER Φ Γ o ρ S σ H)(hp:∀i∈is,plainS Γ i=true)(hx:RV Φ.K o.A H x d)(h:r8 is d ρ= .ok ρ1)(q:∀σ1,ER Φ Γ o ρ1 S σ1 H->(∀k,k∉is->σ1[k]?=σ[k]?/\ρ1[k]?=ρ[k]?)->Q σ1 H):Mx.vt Φ.K is.length (sk is) x σ H Q:=by
 cases d with
 |tup ds=>obtain⟨a,xs,rfl,h1,h2⟩:=hx.ar;obtain⟨k1,k2⟩:=jD er hp h2 h q;exact⟨a,xs,rfl,.inl (fj.of h1),k2,k1⟩
 |lst ds=>obtain⟨a,xs,rfl,h1,_,h2⟩:=hx.lst_inv;obtain⟨k1,k2⟩:=jD er hp h2 h q;exact⟨a,xs,rfl,.inr (dF.of h1),k2,k1⟩
 |_=>cases h
theorem E0{es:List Expr}{is:List Nat}{kk:Nat}{tp:Pos}(gx:GX g Γ X)(h:dN Γ es=some is):PG X (.Tuple es kk tp) (Mx.vt X.K is.length (sk is)):=by obtain⟨k1,k2,k3⟩:=A0 gx h;obtain⟨n1,n2⟩:=iS (env:=X.env) k3;exact Mx.Du gx.calm k1 (by rw[n1,k2]) n2
theorem gN{Ek:Nat->Prop}{α:Type}{r:R α}{P:α->Prop}(dH:∀k,r≠ .ex k)(h:mR Ek r P):∃d,r= .ok d/\P d:=by
 cases r with
 |ok a=>exact⟨a,rfl,h⟩
 |ex k=>exact absurd rfl (dH k)
 |bad=>exact h.elim
theorem tj{sc:Scope}(gx:GX g Γ X)(hk:sc.kind= .function)(hb:yT sc.names Γ.names (aY Γ sc).1.N Γ.N (aY Γ sc).2=true):f9 X sc (aY Γ sc).1.N (aY Γ sc).2:=by
 unfold yT at hb;rw[TC,TC]at hb;obtain⟨⟨h1,h2⟩,h3⟩:=hb;rw[Ut]at h1 h3;refine⟨hk,λy hy=>?_,λy hy e=>?_,λj i hj=>?_,by simpa using h2⟩
 ·have:=h1 y hy;rw[TC]at this;exact Ud this.1
 ·have:=h1 y hy;rw[TC,e]at this;have h:=this.2;simp at h;exact gx.fre y.1 h
 ·have cU:j<(aY Γ sc).2.length:=(TJ.mp hj).1;have:=h3 j (UE.mpr cU);rw[hj]at this;simp only at this;cases hx:(aY Γ sc).1.N[j]? with
  |none=>rw[hx]at this;cases this
  |some x=>rw[hx]at this;simp only[TC]at this;exact⟨x,rfl,by rw[gx.N];exact Ud this.1,Ud this.2⟩
theorem fM{sc:Scope}{C:Addr}{s:Shared}{H:Hp}{fp:List Addr}{xe:Value->Shared->Prop}(gx:GX g Γ X)(B:f9 X sc (aY Γ sc).1.N (aY Γ sc).2)(kf:(aY Γ sc).1.N.Nodup):GX g (aY Γ sc).1 (iA X sc (aY Γ sc).1.N C s H fp xe) where
 N:=rfl
 nd:=kf
 vis:=λx h=>by
  have hn:(aY Γ sc).1.names=sc.names:=rfl;rw[hn]at h;cases hl:sc.names.lookup x with
  |none=>rw[hl]at h;cases h
  |some kk=>
   have q:=aW (env:=X.env) hl;have q':(iA X sc (aY Γ sc).1.N C s H fp xe).env.scope.names.lookup x=_:=q;by_cases hc:(kk==NameKind.free&&X.env.scope.kind== .function&&X.env.kindOf x==some .cell)=true
   ·rw[W0 hc]at q';exact .inr (.inl q')
   ·rw[WZ hc]at q';rw[hl]at h;cases kk with
    |«local»=>exact .inl q'
    |cell=>exact .inr (.inl q')
    |free=>exact .inr (.inr q')
    |globalExplicit=>cases h
    |globalImplicit=>cases h
 loc:=λx h=>by
  have hn:(aY Γ sc).1.names=sc.names:=rfl;rw[hn]at h;cases hl:sc.names.lookup x with
  |none=>rw[hl]at h;cases h
  |some kk=>
   have q:=aW (env:=X.env) hl;have q':(iA X sc (aY Γ sc).1.N C s H fp xe).env.scope.names.lookup x=_:=q;rw[hl]at h;cases kk with
   |«local»=>rw[WZ ∅]at q';exact⟨.inl q',.inr q'⟩
   |cell=>rw[WZ ∅]at q';exact⟨.inr q',.inl (by show (sc.names.lookup x==some .cell)=true;rw[hl];rfl)⟩
   |free=>cases h
   |globalExplicit=>cases h
   |globalImplicit=>cases h
 gl:=λx h=>by
  have hn:(aY Γ sc).1.names=sc.names:=rfl;rw[hn]at h;cases hl:sc.names.lookup x with
  |none=>rw[hl]at h;cases h
  |some kk=>
   have q:=aW (env:=X.env) hl;have q':(iA X sc (aY Γ sc).1.N C s H fp xe).env.scope.names.lookup x=_:=q;rw[hl]at h;cases kk with
   |globalImplicit=>rw[WZ ∅]at q';exact q'
   |«local»=>cases h
   |cell=>cases h
   |free=>cases h
   |globalExplicit=>cases h
 fre:=λx h=>by
  have hn:(aY Γ sc).1.names=sc.names:=rfl;rw[hn]at h;rcases h with hl|hl
  ·have q:=aW (env:=X.env) hl;have q':(iA X sc (aY Γ sc).1.N C s H fp xe).env.scope.names.lookup x=_:=q;rw[WZ ∅]at q';exact .inl q'
  ·have q:=aW (env:=X.env) hl;have q':(iA X sc (aY Γ sc).1.N C s H fp xe).env.scope.names.lookup x=_:=q;by_cases hc:(NameKind.free==NameKind.free&&X.env.scope.kind== .function&&X.env.kindOf x==some .cell)=true
   ·rw[W0 hc]at q';exact .inl q'
   ·rw[WZ hc]at q';exact .inr q'
 calm:=gx.calm
 un:=gx.un
 con:=gx.con
 bl:=gx.bl
end
theorem join_some{α:Type}{o:Option (Option α)}{a:α}(h:o.join=some a):o=some (some a):=by
 cases o with
 |none=>cases h
 |some x=>cases x with
  |none=>cases h
  |some y=>simp at h;rw[h]
theorem gv{cap:List (Option Nat)}{ρ:ai}{j:Nat}{d:Dt}(h:(fK cap ρ)[j]?=some (some d)):∃i,cap[j]?=some (some i)/\ρ[i]?=some (some d):=by
 unfold fK at h;rw[T9]at h;cases hc:cap[j]? with
 |none=>rw[hc]at h;cases h
 |some o=>
  rw[hc]at h;cases o with
  |none=>cases h
  |some i=>refine⟨i,rfl,join_some ?_⟩;simpa using h
theorem fk{cap:List (Option Nat)}{σ:L2.St}{i j:Nat}{v:V}(hc:cap[j]?=some (some i))(h:σ[i]?=some (some v)):(dy cap σ)[j]?=some (some v):=by unfold dy;rw[T9,hc];simp[h]
theorem vJ{δ:Option Nat}:∀{cap:List (Option Nat)}{j:Nat},BN δ cap=some j->∃i,δ=some i/\cap[j]?=some (some i)
 |[],j,h=>by simp[BN]at h
 |o::r,j,h=>by
  unfold BN at h;split at h
  ·rename_i c;rw[TC]at c;cases h;cases δ with
   |none=>simp at c
   |some i=>exact⟨i,rfl,by simp[Ud c.2]⟩
  ·obtain⟨k,h1,rfl⟩:=T5.mp h;obtain⟨i,h2,h3⟩:=vJ h1;exact⟨i,h2,by simpa using h3⟩
section
variable{X:Cx}{Φ:Fm}{Γ:Gm}{F:FT}{g:G}{k:Nat}{K:Frag}
def Ow.plus(o:Ow)(D:Addr):Ow:=⟨o.W,λb=>o.A b\/b=D,o.dr⟩
theorem kP{sc:Scope}{i j:Nat}(hc:(aY Γ sc).2[j]?=some (some i)):gi (aY Γ sc).1 j=gi Γ i:=by have e:(aY Γ sc).1.M=FC (aY Γ sc).2 Γ.M:=rfl;unfold gi;rw[e];unfold FC;rw[T9,hc];simp
theorem qW{i:Nat}:∀{cap:List (Option Nat)}{j:Nat},cap[j]?=some (some i)->∃j',BN (some i) cap=some j'/\cap[j']?=some (some i)
 |[],j,h=>by cases h
 |o::r,j,h=>by
  unfold BN;by_cases e:o=some i
  ·refine⟨0,?_,by rw[e];rfl⟩;rw[e];simp
  ·rw[WZ (by simp[e])];cases j with
   |zero=>cases h;exact absurd rfl e
   |succ j=>obtain⟨j',h1,h2⟩:=qW (cap:=r) (j:=j) h;exact⟨j'+1,by rw[h1];rfl,h2⟩
theorem ER.aY{sc:Scope}{o:Ow}{ρ:ai}{S:Sx}{σ:L2.St}{H:Hp}{D:Addr}(er:ER Φ Γ o ρ S σ H)(B:f9 X sc (aY Γ sc).1.N (aY Γ sc).2)(kf:(Rx.aY Γ sc).1.N.Nodup)(hD:H D=none):
  ER Φ (Rx.aY Γ sc).1 (o.plus D) (fK (Rx.aY Γ sc).2 ρ) S (dy (Rx.aY Γ sc).2 σ) (upd H D (.lst [])):=by
 have s:=Mx.eM hD (.lst []);have av:∀b,(o.A b\/b=D)->o.A b\/H b=none:=λb z=>z.elim .inl λe=>.inr (by rw[e];exact hD)
 refine⟨?_,λa h=>.inl (er.wa a h),λa h=>.inl (er.da a h),λa h=>?_,λj d h=>?_,λj ks vs h=>?_,λj j' a d e hm hm' h1 h2 h3 h4=>?_,λa h=>?_,er.drn,λj a hj ha=>?_,er.dr0,er.ent.trans (aU.of_same s)⟩
 ·unfold dy fK;rw[TU,TU]
 ·rcases h with h|h
  ·obtain⟨x,hx⟩:=er.al a h;exact⟨x,s _ _ hx⟩
  ·subst h;exact⟨_,aN⟩
 ·obtain⟨i,hc,hr⟩:=gv h;obtain⟨v,h1,h2⟩:=er.val i d hr;refine⟨v,fk hc h1,?_⟩;rw[kP hc];by_cases hm:gi Γ i=true
  ·rw[W0 hm]at h2 ⊢;cases d with
   |lst ds=>obtain⟨a,xs,e1,e2,e3,e4,e5,e6,e7⟩:=h2;exact⟨a,xs,e1,s _ _ e2,.inl e3,e4,e5,e6,(e7.eh av).same s⟩
   |iL=>exact h2.elim
   |_=>exact RV.same (RV.eh av h2) s
  ·rw[WZ hm]at h2 ⊢;exact(h2.eh av).same s
 ·obtain⟨i,hc,hr⟩:=gv h;have hk:=er.dk i ks vs hr;obtain⟨j',k1,k2⟩:=qW hc;obtain⟨x,n1,n2,_⟩:=B.xf j i hc;obtain⟨x',KO,BO,_⟩:=B.xf j' i k2;rw[n2]at BO;cases BO;show BN Γ.κ (Rx.aY Γ sc).2=some j;rw[hk,k1,jq kf n1 KO]
 ·obtain⟨i,hc,hr⟩:=gv h1;obtain⟨i',ph,i4⟩:=gv h2;rw[kP hc]at hm;rw[kP ph]at hm';obtain⟨v,k1,_⟩:=er.val i _ hr;obtain⟨v',Qw,_⟩:=er.val i' _ i4;rw[fk hc k1]at h3;rw[fk ph Qw]at h4;cases h3;cases h4;have:=er.inj i i' a d e hm hm' hr i4 k1 Qw;subst this;obtain⟨x,n1,n2,_⟩:=B.xf j i hc;obtain⟨x',KO,BO,_⟩:=B.xf j' i ph;rw[n2]at BO;cases BO;exact jq kf n1 KO
 ·obtain⟨ns,e1,e2⟩:=er.drw a h;exact⟨ns,e1,s _ _ e2⟩
 ·obtain⟨i,h1,h2⟩:=vJ (show BN Γ.δ (Rx.aY Γ sc).2=some j from hj);exact fk h2 (er.drs i a h1 ha)
theorem yZ{sc:Scope}{x:Str}{i:Nat}(B:f9 X sc (aY Γ sc).1.N (aY Γ sc).2)(h:gY (aY Γ sc).1 x=some i):(aY Γ sc).2[i]?=some none:=by
 obtain⟨a,b,c⟩:=fE h;have cU:i<(aY Γ sc).2.length:=by rw[B.len];exact(TJ.mp c).1
 cases hc:(aY Γ sc).2[i]? with
 |none=>rw[List.getElem?_eq_none_iff]at hc;lia
 |some o=>
  cases o with
  |none=>rfl
  |some j=>obtain⟨y,n1,_,n3⟩:=B.xf i j hc;rw[c]at n1;cases n1;have hn:(aY Γ sc).1.names=sc.names:=rfl;rw[hn,n3]at a;cases a
theorem tm{cap:List (Option Nat)}{σ:L2.St}{i:Nat}(h:cap[i]?=some none):(dy cap σ)[i]?=some none:=by unfold dy;rw[T9,h];rfl
theorem lS{σ0:L2.St}{t:Tg}{K:Frag}(h:∀i∈aT t,σ0[i]?=some none):GL σ0 (D3 K t):=by
 have many:∀{is:List Nat},(∀i∈is,σ0[i]?=some none)->Je σ0 (sk is):=by
  intro is
  induction is with
  |nil=>intro _;exact Cr
  |cons i is ih=>intro hs;exact zJ (hs i TN) (ih λj hj=>hs j (TK _ hj))
 cases t with
 |nm i=>exact Cq (h i (by simp[aT]))
 |tp is=>exact F7 (many h)
theorem qj{sc:Scope}{e:Expr}{t:Tg}{σ:L2.St}(B:f9 X sc (aY Γ sc).1.N (aY Γ sc).2)(h:oO (aY Γ sc).1 e=some t):∀i∈aT t,(dy (aY Γ sc).2 σ)[i]?=some none:=λi hi=>by obtain⟨_,x,hx⟩:=dD h i hi;exact tm (yZ B hx)
def Ff(Γ:Gm)(ρ:ai)(σ:L2.St)(D:Addr):Prop:=∀(j:Nat)(d:List Dt),gi Γ j=true->ρ[j]?=some (some (.lst d))->σ[j]?≠some (some (.ref D))
theorem wL{H:Hp}{D:Addr}{acc iz:List V}(hD:H D=some (.lst acc)):aU (λb=>b=D) H (upd H D (.lst iz)):=⟨λb o h n=>by rw[aJ n];exact h,Mx.mT hD⟩
theorem ER.emit{o:Ow}{ρ:ai}{S:Sx}{σ:L2.St}{H:Hp}{D:Addr}{acc iz:List V}(er:ER Φ Γ o ρ S σ H)(hD:H D=some (.lst acc))(hn:Ff Γ ρ σ D)(oD:o.A D)(nd:o.dr≠some D)(h0:∀x,Φ.H0 D=some x->Φ.d0=some D):ER Φ Γ o ρ S σ (upd H D (.lst iz)):=by
 have up:aU (λb=>b=D) H (upd H D (.lst iz)):=wL hD;have uA:∀b,b=D->o.A b:=λb z=>by rw[z];exact oD
 refine⟨er.len,er.wa,er.da,λa ha=>?_,λj dd h=>?_,er.dk,er.inj,λa ha=>?_,er.drn,er.drs,er.dr0,?_⟩
 ·obtain⟨x,hx⟩:=er.al a ha;exact up.al hx λz=>⟨_,by rw[z];exact aN⟩
 ·obtain⟨w,h1,h2⟩:=er.val j dd h;refine⟨w,h1,?_⟩;by_cases hm:gi Γ j=true
  ·rw[W0 hm]at h2 ⊢;cases dd with
   |lst ds=>
    obtain⟨a,xs,e1,e2,e3,e4,e5,e6,e7⟩:=h2;have aD:a≠D:=λz=>hn j ds hm h (by rw[h1,e1,z])
    exact⟨a,xs,e1,up.kp _ _ e2 aD,e3,e4,e5,e6,e7.mono up uA λ_ z=>z⟩
   |iL=>exact h2.elim
   |_=>exact RV.mono up uA (λ_ z=>z) h2
  ·rw[WZ hm]at h2 ⊢;exact h2.mono up uA λ_ z=>z
 ·obtain⟨ns,e1,e2⟩:=er.drw a ha;exact⟨ns,e1,up.kp _ _ e2 (λz=>nd (by rw[<-z];exact ha))⟩
 ·refine⟨λb x h n=>up.kp _ _ (er.ent.kp b x h n) λz=>?_,λb xs h=>up.tp _ _ (er.ent.tp b xs h)⟩;subst z;exact n (h0 x h)
theorem Wk.less{A Y Y':Addr->Prop}{J:It}{H:Hp}{ds:List Dt}(w:Wk K A Y J H ds)(h:∀b,Y' b->Y b):Wk K A Y' J H ds:=⟨λi H1 hi e=>w.go i H1 hi (e.mono h),λH1 e=>w.stop H1 (e.mono h),λi x H1 H2 hi e y=>w.yld i x H1 H2 hi (e.mono h) y⟩
theorem IO.QQ{Φ:Fm}{Γ:Gm}{o:Ow}{ρ:ai}{S:Sx}{σ:L2.St}{it:kJ}{nl:Bool}{H H1:Hp}{ds:List Dt}{J:It}(io:IO Φ.K o it nl H ds J H1)(er:ER Φ Γ o ρ S σ H1)(h:(decide (kG it<=1)||nl)=true):Wk Φ.K o.A o.d J H1 ds:=by
 rcases US.mp h with h|h
 ·exact io.w1 (TH h)
 ·exact(io.w2 h).less er.da
theorem Wk.plus{A Y:Addr->Prop}{J:It}{H:Hp}{ds:List Dt}{D:Addr}(w:Wk K A Y J H ds)(hD:H D=none):Wk K (λb=>A b\/b=D) (λb=>Y b\/b=D) J (upd H D (.lst [])) ds:=by
 have ex:∀H1,aU (λb=>Y b\/b=D) (upd H D (.lst [])) H1->aU Y H H1:=λH1 e=>⟨λb o h n=>by
   have nb:b≠D:=λz=>by rw[z,hD]at h;cases h
   exact e.kp b o (by rw[aJ nb];exact h) λz=>z.elim n nb,λb xs h=>by
   have nb:b≠D:=λz=>by rw[z,hD]at h;cases h
   exact e.tp b xs (by rw[aJ nb];exact h)⟩
 refine⟨λi H1 hi e=>w.go i H1 hi (ex H1 e),λH1 e=>w.stop H1 (ex H1 e),λi x H1 H2 hi e y=>?_⟩;obtain⟨s,d,hd,hv⟩:=w.yld i x H1 H2 hi (ex H1 e) y;refine⟨s,d,hd,λB hB=>hv B λb hb=>?_⟩;rcases hB b hb with (z|z)|z
 ·exact .inl z
 ·exact .inr (by rw[z];exact hD)
 ·by_cases nb:b=D
  ·exact .inr (by rw[nb];exact hD)
  ·rw[aJ nb]at z;exact .inr z
structure BW(Φ:Fm)(Γ:Gm)(o:Ow)(D:Addr)(ρ:ai)(σ:L2.St)(S:Sx)(acc:List V)(es:List Dt)(H:Hp):Prop where
 at':H D=some (.lst acc)
 rv:ao Φ.K o.A H acc es
 er:ER Φ Γ o ρ S σ H
structure Mj(Φ:Fm)(o:Ow)(D:Addr):Prop where
 oD:o.A D
 nd:o.dr≠some D
 h0:∀x,Φ.H0 D=some x->Φ.d0=some D
def Yd(o:Ow)(D:Addr):Addr->Prop:=λb=>o.d b\/b=D
theorem ER.back{o:Ow}{ρ ρ':ai}{S S':Sx}{σ σ':L2.St}{H H':Hp}{D:Addr}(fx:Mj Φ o D)(hn:Ff Γ ρ σ D)(er:ER Φ Γ o ρ S σ H)(FS:ER Φ Γ o ρ' S' σ' H')(e:aU (Yd o D) H H')(S4:∃acc,H D=some (.lst acc)):ER Φ Γ o ρ S' σ H':=by
 have uA:∀b,Yd o D b->o.A b:=λb z=>z.elim (er.da b) λq=>by rw[q];exact fx.oD
 refine⟨er.len,er.wa,er.da,FS.al,λj dd h=>?_,er.dk,er.inj,FS.drw,FS.drn,er.drs,er.dr0,FS.ent⟩;obtain⟨w,h1,h2⟩:=er.val j dd h;refine⟨w,h1,?_⟩;by_cases hm:gi Γ j=true
 ·rw[W0 hm]at h2 ⊢;cases dd with
  |lst ds=>
   obtain⟨a,xs,e1,e2,e3,e4,e5,e6,e7⟩:=h2;have aD:a≠D:=λz=>hn j ds hm h (by rw[h1,e1,z])
   exact⟨a,xs,e1,e.kp _ _ e2 (λz=>z.elim e5 aD),e3,e4,e5,e6,e7.mono e uA λ_ z=>z⟩
  |iL=>exact h2.elim
  |_=>exact RV.mono e uA (λ_ z=>z) h2
 ·rw[WZ hm]at h2 ⊢;exact h2.mono e uA λ_ z=>z
theorem uM{tg:Tg}{ts:Cs}{o:Ow}{D:Addr}{ρ:ai}{σ:L2.St}{J:It}{ds:List Dt}{H1:Hp}{tb:TB}{fb:ai->Sx->R (List Dt×Sx)}{m a0:Nat}(fx:Mj Φ o D)(hp:∀i∈aT tg,plainS Γ i=true)(wk:Wk Φ.K o.A (Yd o D) J H1 ds)(hn:Ff Γ ρ σ D)
  (hb:∀(ρ1:ai)(σ1:L2.St)(S:Sx)(acc:List V)(es:List Dt)(H2:Hp)(P:List Dt×Sx->Prop),Ff Γ ρ1 σ1 D->(∀k,k∉aT tg->σ1[k]?=σ[k]?/\ρ1[k]?=ρ[k]?)->BW Φ Γ o D ρ1 σ1 S acc es H2->aU (Yd o D) H1 H2->acc.length+m<=a0+ds.length*m->0<ds.length->mR Φ.Ek (fb ρ1 S) P->
   ∀Q:Hp->Prop,(∀H5 r jb,P r->BW Φ Γ o D ρ1 σ1 r.2 jb (es++r.1) H5->aU (Yd o D) H2 H5->jb.length<=acc.length+m->Q H5)->tb σ1 H2 Q)
  {S:Sx} {acc:List V} {es:List Dt} {P:List Dt×Sx->Prop} (c:BW Φ Γ o D ρ σ S acc es H1) (ha:acc.length<=a0) (q:mR Φ.Ek (aE (aB tg (a6 F ts) fb ρ) ds S) P) {Fn:Hp->Prop}
  (fin:∀H5 r jb,P r->BW Φ Γ o D ρ σ r.2 jb (es++r.1) H5->aU (Yd o D) H1 H5->jb.length<=a0+ds.length*m->Fn H5):qy J (D3 Φ.K tg) (ox Φ Γ F ts) tb σ Fn H1:=by
 refine⟨λi mm H2=>mm=ds.length-i/\i<=ds.length/\∃S2 oI zo,BW Φ Γ o D ρ σ S2 oI (es++zo) H2/\aU (Yd o D) H1 H2/\oI.length<=a0+i*m/\mR Φ.Ek (aE (aB tg (a6 F ts) fb ρ) (ds.drop i) S2) λr=>P (zo++r.1,r.2),
  ⟨_,rfl,WG _,S,acc,[],by rw[Ux];exact c,aU.refl,(),q⟩,?_⟩
 rintro i mm H2 ⟨rfl,hi,S2,oI,zo,c2,BC,fZ,q⟩;by_cases cU:i<ds.length
 ·refine .inr ⟨wk.go i H2 cU BC,λx H3 y=>?_⟩;obtain⟨s3,d,hd,hx⟩:=wk.yld i x H2 H3 cU BC y;have tX:=hx o.A λb z=>.inl z
  have Cm:=c2.er.grow s3;have JJ:ds.drop i=d::ds.drop (i+1):=by rw[Vp cU];congr 1;exact(TJ.mp hd).2
  rw[JJ]at q;unfold aE at q;rw[ae]at q;unfold aB at q;rw[ae]at q;obtain⟨ρ1,hρ,q⟩:=gN (mL _ _ _) q;refine uG Cm hp tX hρ λσ1 JL hk=>?_
  rw[ae]at q;refine⟨o,ρ1,S2,JL,ag q λb _ q H4 e4 BB=>?_⟩;have PY:aU (Yd o D) H3 H4:=e4.mono λb z=>.inl z
  have Sw:Ff Γ ρ1 σ1 D:=λj dd hm h1 h2=>by
   have nj:j∉aT tg:=λz=>by rw[(jt (hp j z)).1]at hm;cases hm
   obtain⟨k1,k2⟩:=hk j nj;rw[k1]at h2;rw[k2]at h1;exact hn j dd hm h1 h2
  have uA:∀b,Yd o D b->o.A b:=λb z=>z.elim (Cm.da b) λq=>by rw[q];exact fx.oD
  have JX:H4 D=some (.lst oI):=e4.kp _ _ (s3 _ _ c2.at') fx.nd;have Qq:ao Φ.K o.A H4 oI (es++zo):=(c2.rv.same s3).mono PY uA λ_ z=>z
  have JM:aU (Yd o D) H2 H4:=(aU.of_same s3).trans PY;have hmul:ds.length*m=(ds.length-(i+1))*m+(i*m+m):=by
   rw[<-WD i m,<-Nat.add_mul];congr 1
   lia
  have Qm:(i+1)*m=i*m+m:=WD i m;have hz:0<=(ds.length-(i+1))*m:=WG _;cases vy:b.1 with
  |false=>rw[vy]at q;refine Gp ?_;refine⟨ds.length-(i+1),(),rfl,cU,b.2,oI,zo,⟨JX,Qq,c2.er.back fx hn BB JM ⟨_,c2.at'⟩⟩,BC.trans JM,(),?_⟩;simp only[UO,WY]at q;have q:mR Φ.Ek ((aE (aB tg (a6 F ts) fb ρ) (ds.drop (i+1)) b.2).bind λq=>R.ok (([]:List Dt)++q.1,q.2)) _:=q;rw[ae]at q;exact ag q λr _ q=>q
  |true=>
   rw[vy]at q;refine Gq ?_;simp only[W1]at q;refine hb ρ1 σ1 b.2 oI (es++zo) H4 _ Sw hk ⟨JX,Qq,BB⟩ (BC.trans JM) () () q _ λH5 r jb q c5 e5 l5=>?_
   rw[ae]at q;refine⟨ds.length-(i+1),(),rfl,cU,r.2,jb,zo++r.1,⟨c5.at',by rw[<-T4];exact c5.rv,c2.er.back fx hn c5.er (JM.trans e5) ⟨_,c2.at'⟩⟩,(BC.trans JM).trans e5,(),ag q λr' _ q=>?_⟩;have q:P (zo++(r.1++r'.1),r'.2):=q;rw[T4];exact q
 ·have e:i=ds.length:=()
  subst e;refine .inl ⟨wk.stop H2 BC,?_⟩;rw[List.drop_length]at q;have q:P (zo++[],S2):=q;rw[Ux]at q;exact fin H2 (zo,S2) oI q c2 BC fZ
theorem zh{o:Ow}{D:Addr}{c:C}{ρ:ai}{σ:L2.St}{S:Sx}{acc:List V}{es:List Dt}{H:Hp}{P:List Dt×Sx->Prop}(fx:Mj Φ o D)(hn:Ff Γ ρ σ D)(cs:BW Φ Γ o D ρ σ S acc es H)(hl:acc.length<sizeLine)
  (q:mR Φ.Ek ((ev F c ρ S).bind λy=>af (ba c y.1) (.ok ([y.1],y.2))) P) (Q:Hp->Prop) (fin:∀H5 r jb,P r->BW Φ Γ o D ρ σ r.2 jb (es++r.1) H5->aU (Yd o D) H H5->jb.length<=acc.length+1->Q H5):wH D (cw Φ Γ F g.fr c) σ H Q:=by
 rw[ae]at q;refine⟨o,ρ,S,cs.er,ag q λy _ q v H5 eo5 er6=>?_⟩;obtain⟨gs,q⟩:=aK q;have e5:aU (Yd o D) H H5:=eo5.ext.mono λb z=>.inl z
 have NU:H5 D=some (.lst acc):=eo5.ext.kp _ _ cs.at' fx.nd;have uA:∀b,Yd o D b->o.A b:=λb z=>z.elim (cs.er.da b) λq=>by rw[q];exact fx.oD
 have hv:RV Φ.K o.A H5 v y.1:=by
  unfold ba at gs;rw[Uy]at gs;rcases gs with gs|gs
  ·exact eo5.dS (TH gs)
  ·exact eo5.val.rh gs
 have up:aU (λb=>b=D) H5 (upd H5 D (.lst (acc++[v]))):=wL NU;refine⟨acc,NU,hl,fin _ ([y.1],y.2) (acc++[v]) q ⟨aN,?_,er6.emit NU hn fx.oD fx.nd fx.h0⟩ (e5.trans (up.mono λb z=>.inr z)) ∅⟩;exact((cs.rv.mono e5 uA λ_ z=>z).append (ao.cons hv ao.nil)).mono up (λb z=>by rw[z];exact fx.oD) λ_ z=>z
theorem wJ:2*lim<sizeLine:=by rw[Xa];decide
theorem nJ{sc:Scope}{o:Ow}{ρ:ai}{S:Sx}{σ:L2.St}{H:Hp}{D:Addr}(er:ER Φ Γ o ρ S σ H)(B:f9 X sc (aY Γ sc).1.N (aY Γ sc).2)(kf:(Rx.aY Γ sc).1.N.Nodup)(hD:H D=none):
  Mj Φ (o.plus D) D/\Ff (aY Γ sc).1 (fK (aY Γ sc).2 ρ) (dy (aY Γ sc).2 σ) D/\BW Φ (aY Γ sc).1 (o.plus D) D (fK (aY Γ sc).2 ρ) (dy (aY Γ sc).2 σ) S [] [] (upd H D (.lst [])):=by
 refine⟨⟨.inr rfl,λz=>?_,λx hx=>?_⟩,λj d hm h1 h2=>?_,⟨aN,ao.nil,er.aY B kf hD⟩⟩
 ·obtain⟨y,hy⟩:=er.al D (er.da D z);rw[hD]at hy;cases hy
 ·by_cases hz:Φ.d0=some D
  ·exact hz
  ·have:=er.ent.kp D x hx hz;rw[hD]at this;cases this
 ·obtain⟨ii,hc,R5⟩:=gv h1;obtain⟨w',k1,k2⟩:=er.val ii _ R5;rw[<-kP hc,W0 hm]at k2;obtain⟨a',BV,JI,Ex,_⟩:=k2;rw[fk hc k1]at h2;cases h2;cases JI;rw[hD]at Ex;cases Ex
theorem uZ{sc:Scope}{o:Ow}{ρ:ai}{S S2:Sx}{σ:L2.St}{H H1 H2:Hp}{D:Addr}{acc:List V}{ds:List Dt}{c:C}(hc:lk c=0)(io:aU o.d H H1)(aA:ER Φ Γ o ρ S σ H1)(hD:H1 D=none){ρ2:ai}{σ2:L2.St}(cs:BW Φ (aY Γ sc).1 (o.plus D) D ρ2 σ2 S2 acc ds H2)(ex:aU (Yd (o.plus D) D) (upd H1 D (.lst [])) H2):
  EO Φ.K g.fr o c H (.lst ds) (.ref D) H2/\ER Φ Γ o ρ S2 σ H2:=by
 have BC:aU o.d H1 H2:=⟨λb x h n=>by
   have nb:b≠D:=λz=>by rw[z,hD]at h;cases h
   exact ex.kp b x (by rw[aJ nb];exact h) λz=>z.elim n nb,λb xs h=>by
   have nb:b≠D:=λz=>by rw[z,hD]at h;cases h
   exact ex.tp b xs (by rw[aJ nb];exact h)⟩
 have nA:¬o.A D:=λz=>by obtain⟨y,hy⟩:=aA.al D z;rw[hD]at hy;cases hy
 have dn:H D=none:=aA.fw io hD;have v0:RV Φ.K o.A H2 (.ref D) (.lst ds):=RV.iQ cs.at' nA (cs.rv.weak λb z=>.inl z);refine⟨⟨io.trans BC,v0.weak aA.iZ,λ_=>v0,λ_=>v0.one,λ_ xi ed=>?_⟩,aA.step BC (λa ha=>cs.er.drw a ha) cs.er.drn⟩;cases ed;exact⟨D,acc,rfl,dn,cs.at',cs.rv.weak λb z=>z.elim (λz=>.inl (aA.iZ b z)) .inr,λ_=>cs.rv⟩
theorem AY{sc:Scope}{tg:Expr}{it:kJ}{t:Tg}{ts:Cs}{c:C}(hK:Φ.K=X.K)(B:f9 X sc (aY Γ sc).1.N (aY Γ sc).2)(kf:(aY Γ sc).1.N.Nodup)(CI:oO (aY Γ sc).1 tg=some t){σ:L2.St}{H:Hp}{Q:VK}
  (q:cw Φ Γ F g.fr (.comp (aY Γ sc).2 it t ts c) σ H Q):qg (aY Γ sc).2 (mP Φ Γ F it) (D3 X.K t) (ox Φ (aY Γ sc).1 F ts) (λD=>wH D (cw Φ (aY Γ sc).1 F g.fr c)) σ H Q:=by
 obtain⟨o,ρ,S,er,q⟩:=q;rw[rN]at q;rw[ae]at q;refine⟨o,ρ,S,er,ag q λp _ q J H1 io aA D hD=>⟨lS (qj B CI),?_⟩⟩;obtain⟨g1,q⟩:=aK q;rw[TC]at g1;have cm:=TH g1.1;have wk:=(io.QQ aA g1.2).plus hD;rw[ae]at q;have nT:=wJ;obtain⟨fx,hn,cs⟩:=nJ (X:=X) aA B kf hD;rw[<-hK];refine uM (m:=1) (a0:=0) fx (λi hi=>(dD CI i hi).1) wk hn (λρ1 σ1 S1 acc es H2 P n1 hk c1 e1 hl _ q Q fin=>zh fx n1 c1 () q Q fin) cs (WG _) q λH5 r jb q c5 e5 l5=>?_
 obtain⟨k1,k2⟩:=uZ (g:=g) (c:=.comp (aY Γ sc).2 it t ts c) rfl io.ext aA hD c5 e5;exact q _ _ k1 k2
theorem wx{sc:Scope}{tg i5:Expr}{it gr:kJ}{t t2:Tg}{ts D6:Cs}{c:C}(hK:Φ.K=X.K)(B:f9 X sc (aY Γ sc).1.N (aY Γ sc).2)(kf:(aY Γ sc).1.N.Nodup)(CI:oO (aY Γ sc).1 tg=some t)(Kp:oO (aY Γ sc).1 i5=some t2)(Ke:∀i∈aT t2,i∉aT t){σ:L2.St}{H:Hp}{Q:VK}
  (q:cw Φ Γ F g.fr (.gw (aY Γ sc).2 it t ts gr t2 D6 c) σ H Q):qg (aY Γ sc).2 (mP Φ Γ F it) (D3 X.K t) (ox Φ (aY Γ sc).1 F ts) (λD=>LX (mP Φ (aY Γ sc).1 F gr) (D3 X.K t2) (ox Φ (aY Γ sc).1 F D6) (wH D (cw Φ (aY Γ sc).1 F g.fr c))) σ H Q:=by
 obtain⟨o,ρ,S,er,q⟩:=q;rw[oo]at q;rw[ae]at q;refine⟨o,ρ,S,er,ag q λp _ q J H1 io aA D hD=>⟨lS (qj B CI),?_⟩⟩;obtain⟨g1,q⟩:=aK q;rw[TC]at g1;have cm:=TH g1.1;have wk:=(io.QQ aA g1.2).plus hD;rw[ae]at q;have nT:=wJ;obtain⟨fx,hn,cs⟩:=nJ (X:=X) aA B kf hD;rw[<-hK];have hdiv:p.1.length*(lim/p.1.length)<=lim:=Nat.mul_div_le _ _;refine uM (m:=lim/p.1.length) (a0:=0) fx (λi hi=>(dD CI i hi).1) wk hn (λρ1 σ1 S1 acc es H2 P n1 hk c1 e1 hl hp0 q Q fin=>?_) cs (WG _) q λH5 r jb q c5 e5 l5=>?_
 ·refine⟨lS λi hi=>?_,?_⟩
  ·rw[(hk i (Ke i hi)).1];exact qj B Kp i hi
  ·rw[ae]at q;refine⟨o.plus D,ρ1,S1,c1.er,ag q λx2 _ q J2 H3 io2 Cm=>?_⟩;obtain⟨g2,q⟩:=aK q;rw[TC]at g2;have fZ:=TH g2.1;have uA:∀b,Yd (o.plus D) D b->(o.plus D).A b:=λb z=>z.elim (Cm.da b) λq=>.inr q
   have SM:=(io2.w0 (TH g2.2)).less uA;have e3:aU (Yd (o.plus D) D) H2 H3:=io2.ext.mono λb z=>.inl z
   have S9:x2.1.length<=lim/p.1.length:=(Nat.le_div_iff_mul_le hp0).mpr (by rw[Nat.mul_comm];exact fZ);refine uM (m:=1) (a0:=acc.length) fx (λi hi=>(dD Kp i hi).1) SM n1 (λρ2 σ2 S2 oI zo H4 P2 n2 hk2 c2 e2 hl _ q Q fin=>zh fx n2 c2 () q Q fin) ⟨io2.ext.kp _ _ c1.at' fx.nd,c1.rv.mono e3 uA λ_ z=>z,Cm⟩ (TM _) q λH5 r jb q c5 e5 l5=>?_
   exact fin H5 r jb q c5 (e3.trans e5) ()
 ·obtain⟨k1,k2⟩:=uZ (g:=g) (c:=.gw (aY Γ sc).2 it t ts gr t2 D6 c) rfl io.ext aA hD c5 e5;exact q _ _ k1 k2
end
def EG:Expr->Bool
 |.Starred ..=>false
 |.Slice ..=>false
 |.Set ..=>false
 |.Call (.Name _ _) [] _ _=>false
 |_=>true
theorem cX{e:Expr}(h:EG e=true)(es:List Expr)(env:Env):starEach (e::es) env=(false,eval e env)::starEach es env:=by cases e<;>first|rfl|(cases h)
theorem Kb{e:Expr}(h:EG e=true):oF e:=by intro o i;cases e<;>first|rfl|(cases h)
theorem Cy{e:Expr}(h:EG e=true)(op:CmpOp):behindInMarks op e=false:=by cases e<;>first|rfl|(cases h)
theorem gH{e:Expr}(h:EG e=true)(env:Env):∀x,foldedSetIterable e env x=pure x:=by intro x;cases e<;>first|rfl|(cases h)
theorem dq{X:Cx}{Φ:Fm}{Γ:Gm}{F:FT}{e:Expr}{c:C}(h:∀ρ S,cA F c ρ S= .bad):PT X e (fV Φ Γ F c):=λpins s σ H Q I q=>by obtain⟨o,ρ,S,er,q⟩:=q;rw[h]at q;exact q.elim
section
variable{g:G}{xv:Nat->Value}{CX:nv}{k:Nat}{F:FT}
structure QZ(g:G)(F:FT)(n:Nat)(Γ:Gm)(X:Cx)(Φ:Fm):Prop where
 e:∀e c,cE n g Γ e=some c->PE X e (cw Φ Γ F g.fr c)/\PT X e (fV Φ Γ F c)/\EG e=true
 es:∀es cs,yl n g Γ es=some cs->PA X es (mQ Φ Γ F cs)/\cs.len=es.length/\∀e∈es,EG e=true
 ts:∀es cs,Cg n g Γ es=some cs->Ed X es (ox Φ Γ F cs)
 b:∀o es c pos,cB n g Γ o es=some c->PE X (.BoolOp o es pos) (cw Φ Γ F g.fr c)/\PW X (.BoolOp o es pos) (fV Φ Γ F c)
 i:∀tg e it,cI n g Γ tg e=some it->PI X tg e (mP Φ Γ F it)/\EG e=true
 c:∀f a as c p pos,u3 n g Γ f a as=some c->PE X (.Call (.Name f p) (a::as) [] pos) (cw Φ Γ F g.fr c)/\PT X (.Call (.Name f p) (a::as) [] pos) (fV Φ Γ F c)
theorem qA{es:List Expr}{env:Env}{pos:Pos}(h:∀e∈es,EG e=true):(backTo pos (starEach es env)).any (·.1)=false:=by
 induction es with
 |nil=>rfl
 |cons e es ih=>rw[cX (h e TN)];show (false||(backTo pos (starEach es env)).any (·.1))=false;rw[ih λe' z=>h e' (TK _ z)];rfl
theorem uf{x y:Str}(h:(x==y)=false):x≠y:=λe=>by subst e;rw[WU]at h;cases h
theorem fy{x:Str}(h:fS x=true):(x==("__debug__":Str))=false/\(x==("__classdict__":Str))=false/\x≠"__name__":=by unfold fS at h;rw[TC,TC]at h;have h1:=h.1.1;have h2:=h.1.2;have h3:=h.2;rw[UQ]at h1 h2 h3;exact⟨h1,h2,uf h3⟩
def Py:C->Bool
 |.nt _|.and ..|.or ..|.cmp ..|.ch ..|.var _|.mvr _|.call ..|.callD ..|.bi ..|.idx ..=>true
 |_=>false
theorem ck{F:FT}{c:C}{ρ:ai}{S:Sx}(h:Py c=false):cA F c ρ S= .bad:=by cases c<;>first|rfl|cases h
theorem boot_divmod:bootBuiltins "divmod"=some (.builtin "divmod"):=by decide +kernel
theorem yR:∀t∈yQ,HH t.2.2=true/\bootBuiltins t.1=some (IL t.2.2):=by
 intro t ht;simp only[yQ,TY,TZ,W8]at ht;rcases ht with rfl|rfl|rfl|rfl|rfl|rfl|rfl|rfl|rfl|rfl|rfl|rfl|rfl
 ·exact⟨rfl,PySem.boot_len⟩
 ·exact⟨rfl,PyProof.Rows.boot_abs⟩
 ·exact⟨rfl,PyProof.Rows.boot_min⟩
 ·exact⟨rfl,PyProof.Rows.boot_max⟩
 ·exact⟨rfl,PyProof.Rows.boot_sum⟩
 ·exact⟨rfl,PyProof.Rows.boot_any⟩
 ·exact⟨rfl,PyProof.Rows.boot_all⟩
 ·exact⟨rfl,PyProof.Rows.boot_min⟩
 ·exact⟨rfl,PyProof.Rows.boot_max⟩
 ·exact⟨rfl,PyProof.Rows.boot_sorted⟩
 ·exact⟨rfl,PyProof.Rows.boot_tuple⟩
 ·exact⟨rfl,PyProof.Rows.boot_list⟩
 ·exact⟨rfl,boot_divmod⟩
theorem Cb{x:Str}{n:Nat}{b:BI}(h:sZ x n=some b):HH b=true/\bootBuiltins x=some (IL b):=by unfold sZ at h;obtain⟨t,h1,rfl⟩:=T5.mp h;have hm:=List.mem_of_find?_eq_some h1;have hp:=List.find?_some h1;rw[TC]at hp;rw[<-Ud hp.1];exact yR t hm
theorem Fy{b:BI}(h:HH b=true):(∃id,IL b= .builtin id)\/∃T,IL b= .type T:=by cases b<;>first|exact .inl ⟨_,rfl⟩|exact .inr ⟨_,rfl⟩|cases h
theorem lB{x:Str}(h:g.bls.contains x=true):x∈g.bls:=by simpa using h
theorem Pe{X:Cx}{Φ:Fm}{Γ:Gm}{x:Str}{n:Nat}{b:BI}{a:Expr}{as:List Expr}{cs:Cs}{p pos:Pos}(hK:Φ.K=X.K)(gx:GX g Γ X)(hG:Gl X x)(hm:X.mg x=none)(hx:fS x=true)(hb:sZ x n=some b)(hs:starEach (a::as) X.env=(false,eval a X.env)::starEach as X.env)(sP:(backTo pos (starEach as X.env)).any (·.1)=false)
  (ha:PA X (a::as) (mQ Φ Γ F cs)):PE X (.Call (.Name x p) (a::as) [] pos) (cw Φ Γ F g.fr (.bi b cs)):=by
 obtain⟨h1,h2⟩:=Cb hb;obtain⟨n1,n2,n3⟩:=fy hx;have hc:=Cc (X:=X) b h1 gx.calm gx.un;rcases Fy h1 with ⟨id,e⟩|⟨T,e⟩
 ·rw[e]at h2 hc;exact bz (rA hc hG hm h2 ha n3 n1 hs sP) λσ H Q q=>zw hK q
 ·rw[e]at h2 hc;exact bz (xM hc hG hm h2 ha n3 n1 hs sP) λσ H Q q=>zw hK q
theorem tY{X:Cx}{Φ:Fm}{sc:Scope}{N':List Str}{C:Addr}{s:Shared}{H:Hp}{fp:List Addr}(hX:HX g xv CX k F Φ X):HX g xv CX k F Φ (iA X sc N' C s H fp (yt X sc N' (ny Φ xv) C s H fp)) where
 K:=hX.K
 P:=hX.P
 w:=hX.w
 fx:=hX.fx
 room:=hX.room
 cx:=hX.cx
 st:=DY hX.st
 xgx:=λe s' h=>IF h
 xk:=hX.xk
theorem jA(n:Nat):∀(Γ:Gm)(X:Cx)(Φ:Fm),GX g Γ X->HX g xv CX k F Φ X->QZ g F n Γ X Φ:=by
 induction n with
 |zero=>intro Γ X Φ gx hX;exact⟨λe c h=>by simp[cE]at h,λe c h=>by simp[yl]at h,λe c h=>by simp[Cg]at h,λo e c p h=>by simp[cB]at h,λo e c h=>by simp[cI]at h,λf a as c p q h=>by simp[u3]at h⟩
 |succ n ih=>
  intro Γ X Φ gx hX;have I:=ih Γ X Φ gx hX;have hK:=hX.K;have hu:=gx.un;refine⟨λe c h=>?_,λes cs h=>?_,λes cs h=>?_,λo es c pos h=>?_,λtg e it h=>?_,λf a as c p pos h=>?_⟩
  ·
   unfold cE at h;split at h
   ·split at h
    ·cases h;exact⟨rW rfl Hk,dq λρ S=>ck rfl,rfl⟩
    ·cases h;exact⟨rW rfl Hq,dq λρ S=>ck rfl,rfl⟩
    ·cases h;exact⟨rW rfl K9,dq λρ S=>ck rfl,rfl⟩
    ·cases h;exact⟨rW rfl Hm,dq λρ S=>ck rfl,rfl⟩
    ·cases h
   ·
    rename_i x p;split at h
    ·rename_i i hi;obtain⟨v1,v2,v3⟩:=wz hi;obtain⟨n1,n2,n3⟩:=fy v2;have hv:PE X (.Name x p) (qh i):=Az (by rw[gx.N];exact v3) (gx.vis x v1) n1 n2;split at h
     ·cases h
     rename_i hδκ;split at h
     ·rename_i hm;cases h;have:=Lx (Φ:=Φ) (F:=F) (fr:=g.fr) hv hm λz=>hδκ (by simp[z])
      exact⟨this,kX hK this (λ_=>rfl) (λρ S=>by rw[AO,pW];cases dY ρ i<;>rfl),rfl⟩
     ·rename_i hm;cases h;have:=LC (Φ:=Φ) (F:=F) (fr:=g.fr) hv ‹hm›;exact⟨this,kX hK this (λ_=>rfl) (λρ S=>by rw[AQ,wg];cases dY ρ i<;>rfl),rfl⟩
    ·split at h
     ·rename_i hg;rw[TC]at hg;obtain⟨d,h1,rfl⟩:=T5.mp h;obtain⟨u,k1,k2,k3⟩:=gx.con x d h1;exact⟨rW k1 (Dr (gx.gl x hg.1) k2 k3 (fy hg.2).1),dq λρ S=>ck rfl,rfl⟩
     ·cases h
   ·obtain⟨a',h1,h⟩:=Tw.mp h;obtain⟨b',h2,h⟩:=Tw.mp h;cases h;exact⟨Lr hK (I.e _ _ h1).1 (I.e _ _ h2).1,dq λρ S=>ck rfl,rfl⟩
   ·obtain⟨a',h1,h9⟩:=Tw.mp h;clear h;split at h9
    ·cases h9;exact⟨Ly (I.e _ _ h1).1,dq λρ S=>ck rfl,rfl⟩
    ·cases h9;exact⟨Pf (I.e _ _ h1).1,LA (I.e _ _ h1).2.1,rfl⟩
    ·cases h9
   ·obtain⟨k1,k2⟩:=I.b _ _ _ _ h;exact⟨k1,k2.pt,rfl⟩
   ·split at h
    ·obtain⟨a',h1,h⟩:=Tw.mp h;obtain⟨b',h2,h⟩:=Tw.mp h;cases h;have hm:=Cy (I.e _ _ h2).2.2;exact⟨Ls hK hu (hm _) (I.e _ _ h1).1 (I.e _ _ h2).1,HS hK hu (hm _) (I.e _ _ h1).1 (I.e _ _ h2).1,rfl⟩
    ·cases h
   ·split at h
    ·obtain⟨a',h1,h⟩:=Tw.mp h;obtain⟨b',h2,h⟩:=Tw.mp h;cases h;exact⟨HZ hK (I.e _ _ h1).1 (I.e _ _ h2).1,dq λρ S=>ck rfl,rfl⟩
    ·obtain⟨a',h1,h⟩:=Tw.mp h;obtain⟨b',h2,h⟩:=Tw.mp h;cases h;exact⟨HY hK (I.e _ _ h1).1 (I.e _ _ h2).1,dq λρ S=>ck rfl,rfl⟩
    ·obtain⟨a',h1,h⟩:=Tw.mp h;obtain⟨b',h2,h⟩:=Tw.mp h;cases h;have k1:=λpos=>Lu (pos:=pos) hK (Kb (I.e _ _ h2).2.2) (I.e _ _ h1).1 (I.e _ _ h2).1
     refine⟨k1 _,kX hK (k1 _) (λ_=>rfl) (λρ S=>?_),rfl⟩;rw[AN,wc];cases ev F a' ρ S with
     |ok x=>
      simp only[R.ah];cases ev F b' ρ x.2 with
      |ok y=>simp only[R.ah];cases cF x.1 y.1<;>rfl
      |ex k=>rfl
      |bad=>rfl
     |ex k=>rfl
     |bad=>rfl
   ·obtain⟨iG,h1,h⟩:=Tw.mp h;cases h;exact⟨E1 (I.es _ _ h1).1,dq λρ S=>ck rfl,rfl⟩
   ·obtain⟨iG,h1,h⟩:=Tw.mp h;cases h;exact⟨Lw (I.es _ _ h1).1,dq λρ S=>ck rfl,rfl⟩
   ·split at h
    ·obtain⟨k1,k2⟩:=I.c _ _ _ _ _ _ h;exact⟨k1,k2,rfl⟩
    ·cases h
   ·
    rename_i elt gens sc pos;split at h
    ·rename_i hk;split at h
     ·rename_i tg it ifs;obtain⟨kF,h1,h⟩:=Tw.mp h;obtain⟨k9,h2,h⟩:=Tw.mp h;obtain⟨ql,h3,h⟩:=Tw.mp h;obtain⟨e',h4,h⟩:=Tw.mp h;split at h
      ·rename_i hb;cases h;rw[TC]at hb;have F8:sc.kind= .function:=Ud hk;have B:=tj gx F8 hb.1;have kf:(aY Γ sc).1.N.Nodup:=TH hb.2;have J:=λC s H fp=>ih (aY Γ sc).1 (iA X sc (aY Γ sc).1.N C s H fp (yt X sc (aY Γ sc).1.N (ny Φ xv) C s H fp)) Φ (fM gx B kf) (tY hX)
       refine⟨bz (rB (xb:=yt X sc (aY Γ sc).1.N (ny Φ xv)) (body:=λacc env=>iM elt acc env) gx.calm B (lj hX.st hX.xgx) (I.i _ _ _ h1).1 (λqv acc env=>sv ..) (λC s H fp=>rY (fM gx B kf) h2) (λC s H fp=>(J C s H fp).ts _ _ h3) (λC s H fp D=>kU ((J C s H fp).e _ _ h4).1) (gH (I.i _ _ _ h1).2 _)) λσ H Q q=>AY hK B kf h2 q,dq λρ S=>ck rfl,rfl⟩
      ·cases h
     ·rename_i tg it ifs i5 gr cY;obtain⟨kF,h1,h⟩:=Tw.mp h;obtain⟨k9,h2,h⟩:=Tw.mp h;obtain⟨ql,h3,h⟩:=Tw.mp h;obtain⟨qT,h5,h⟩:=Tw.mp h;obtain⟨mS,h6,h⟩:=Tw.mp h;obtain⟨sr,h7,h⟩:=Tw.mp h;obtain⟨e',h4,h⟩:=Tw.mp h;split at h
      ·rename_i hb;cases h;rw[TC,TC]at hb;have F8:sc.kind= .function:=Ud hk;have B:=tj gx F8 hb.1.1;have kf:(aY Γ sc).1.N.Nodup:=TH hb.1.2;have Ke:∀i∈aT mS,i∉aT k9:=λi hi z=>by have:=Ut.mp hb.2 i hi;simp[z]at this
       have J:=λC s H fp=>ih (aY Γ sc).1 (iA X sc (aY Γ sc).1.N C s H fp (yt X sc (aY Γ sc).1.N (ny Φ xv) C s H fp)) Φ (fM gx B kf) (tY hX)
       refine⟨bz (rB (xb:=yt X sc (aY Γ sc).1.N (ny Φ xv)) (body:=λacc env=>nextOf (.ListComp elt [⟨tg,it,ifs,0⟩,⟨i5,gr,cY,0⟩] sc pos) 1 gr acc env) gx.calm B (lj hX.st hX.xgx) (I.i _ _ _ h1).1 (λqv acc env=>sC ..) (λC s H fp=>rY (fM gx B kf) h2) (λC s H fp=>(J C s H fp).ts _ _ h3)
        (λC s H fp D=>vW gx.calm (vV hX.st) ((J C s H fp).i _ _ _ h5).1 (rY (fM gx B kf) h6) ((J C s H fp).ts _ _ h7) (kU ((J C s H fp).e _ _ h4).1) (gH ((J C s H fp).i _ _ _ h5).2 _)) (gH (I.i _ _ _ h1).2 _)) λσ H Q q=>wx hK B kf h2 h6 Ke q,dq λρ S=>ck rfl,rfl⟩
      ·cases h
     ·cases h
    ·cases h
   ·cases h
  ·
   unfold yl at h;split at h
   ·cases h;exact⟨Lz,rfl,λe z=>by cases z⟩
   ·obtain⟨e',h1,h⟩:=Tw.mp h;obtain⟨iG,h2,h⟩:=Tw.mp h;cases h;obtain⟨k1,k2,k3⟩:=I.es _ _ h2;refine⟨HU (cX (I.e _ _ h1).2.2 _ _) (I.e _ _ h1).1 k1,by simp[Cs.len,k2],λe z=>?_⟩;rcases TY.mp z with rfl|z
    ·exact(I.e _ _ h1).2.2
    ·exact k3 e z
  ·
   unfold Cg at h;split at h
   ·cases h;exact λpins s σ H Q I q=>DF pins s σ H Q I (by obtain⟨o,ρ,S,er,q⟩:=q;rw[jY]at q;exact q _ aU.refl er)
   ·obtain⟨e',h1,h⟩:=Tw.mp h;cases h;refine λpins s σ H Q I' q=>DG (I.e _ _ h1).2.1 pins s σ H Q I' ?_
    obtain⟨o,ρ,S,er,q⟩:=q;rw[kr]at q;exact⟨o,ρ,S,er,q⟩
   ·cases h
  ·
   unfold cB at h;split at h
   ·rename_i e;have k1:=(I.e _ _ h).1;have k2:=(I.e _ _ h).2.1;refine⟨Ho k1,?_⟩;cases o with
    |And=>exact DH k2
    |Or=>exact HB k2
   ·rename_i e es dH;obtain⟨e',h1,h⟩:=Tw.mp h;obtain⟨iG,h2,h⟩:=Tw.mp h;cases h;cases es with
    |nil=>exact(dH rfl).elim
    |cons b rest=>
     obtain⟨k1,k2⟩:=I.b o _ _ pos h2;cases o with
     |And=>exact⟨Lq (I.e _ _ h1).1 k1,HR (I.e _ _ h1).2.1 k2⟩
     |Or=>exact⟨Pg (I.e _ _ h1).1 k1,LB (I.e _ _ h1).2.1 k2⟩
   ·cases h
  ·
   unfold cI at h;split at h
   ·rename_i f p a q;split at h
    ·rename_i hf;have ef:=Ud hf;subst ef;split at h
     ·rename_i hg;rw[TC]at hg;obtain⟨a',h1,h⟩:=Tw.mp h;cases h;exact⟨HV (gx.gl _ hg.1) (gx.bl _ (lB hg.2)) (cX (I.e _ _ h1).2.2 [] _) (I.e _ _ h1).1,rfl⟩
     ·cases h
    ·obtain⟨c,h1,h⟩:=Tw.mp h;cases h;exact⟨AZ hK (I.e _ _ h1).1,rfl⟩
   ·rename_i f p a b q;split at h
    ·rename_i hf;have ef:=Ud hf;subst ef;split at h
     ·rename_i hg;rw[TC]at hg;obtain⟨a',h1,h⟩:=Tw.mp h;obtain⟨b',h2,h⟩:=Tw.mp h;cases h;have e2:=cX (I.e _ _ h2).2.2 [] X.env;exact⟨HW (gx.gl _ hg.1) (gx.bl _ (lB hg.2)) (by rw[cX (I.e _ _ h1).2.2,e2];rfl) e2 (I.e _ _ h1).1 (I.e _ _ h2).1,rfl⟩
     ·cases h
    split at h
    ·rename_i hf;have ef:=Ud hf;subst ef;split at h
     ·split at h
      ·rename_i hg;rw[TC]at hg;obtain⟨a',h1,h⟩:=Tw.mp h;obtain⟨b',h2,h⟩:=Tw.mp h;cases h;have e2:=cX (I.e _ _ h2).2.2 [] X.env;exact⟨LD hK (gx.gl _ hg.1) (gx.bl _ (lB hg.2)) (by rw[cX (I.e _ _ h1).2.2,e2];rfl) e2 (I.e _ _ h1).1 (I.e _ _ h2).1,rfl⟩
      ·cases h
     ·cases h
    ·obtain⟨c,h1,h⟩:=Tw.mp h;cases h;exact⟨AZ hK (I.e _ _ h1).1,rfl⟩
   ·obtain⟨c,h1,h⟩:=Tw.mp h;cases h;exact⟨AZ hK (I.e _ _ h1).1,(I.e _ _ h1).2.2⟩
  ·
   have tr:∀{c:C},(∀ρ S,cA F c ρ S=(ev F c ρ S).bind λx=>(de x.1).bind λb=>.ok (b,x.2))->PE X (.Call (.Name f p) (a::as) [] pos) (cw Φ Γ F g.fr c)->PE X (.Call (.Name f p) (a::as) [] pos) (cw Φ Γ F g.fr c)/\PT X (.Call (.Name f p) (a::as) [] pos) (fV Φ Γ F c):=λhe h=>⟨h,kX hK h (λ_=>rfl) he⟩
   have PZ:∀(b:BI)(cs:Cs)ρ S,cA F (.bi b cs) ρ S=(ev F (.bi b cs) ρ S).bind λx=>(de x.1).bind λb=>.ok (b,x.2):=λb cs ρ S=>by
    rw[v9,pV];cases gf F cs ρ S with
    |ok x=>simp only[R.ah];cases c9 b x.1<;>rfl
    |ex k=>rfl
    |bad=>rfl
   have Rb:∀(f:Nat)(cs:Cs)(ds:List Dt)ρ S,cA F (.call f cs ds) ρ S=(ev F (.call f cs ds) ρ S).bind λx=>(de x.1).bind λb=>.ok (b,x.2):=λf cs ds ρ S=>by
    rw[xU,rM];cases gf F cs ρ S with
    |ok x=>simp only[R.ah];cases F f (x.1++ds) none<;>rfl
    |ex k=>rfl
    |bad=>rfl
   have SW:∀(f:Nat)(cs:Cs)ρ S,cA F (.callD f cs) ρ S=(ev F (.callD f cs) ρ S).bind λx=>(de x.1).bind λb=>.ok (b,x.2):=λf cs ρ S=>by
    rw[uB,xV];cases S.isSome with
    |false=>rfl
    |true=>
     simp only[guard_true];cases gf F cs ρ S with
     |ok x=>
      simp only[R.ah];cases x.2 with
      |none=>rfl
      |some s=>rfl
     |ex k=>rfl
     |bad=>rfl
   unfold u3 at h;split at h
   ·rename_i hg;rw[TC]at hg;have NW:=gx.gl f hg.1;obtain⟨n1,n2,n3⟩:=fy hg.2;split at h
    ·rename_i kk np gD bo zS;split at h
     ·
      rename_i hdp;have:bo=true:=hdp;subst this;split at h
      ·rename_i y yp;split at h
       ·rename_i i hi;split at h
        ·cases h
        ·cases h
       ·cases h
      ·cases h
     ·rename_i hdp;have:bo=false:=by simpa using hdp
      subst this;split at h
      ·rename_i hn;rw[TC]at hn;have a1:=TH hn.1;have a2:=TH hn.2;obtain⟨es,h1,h⟩:=Tw.mp h;cases h;obtain⟨k1,k2,k3⟩:=I.es _ _ h1;refine tr (Rb _ _ _) (s_call hX NW n1 zS (Nat.sub_le _ _) ?_ (cX (k3 a TN) _ _) (qA λe z=>k3 e (TK _ z)) k1);rw[k2,VJ,T8]
       lia
      ·cases h
    ·split at h
     ·rename_i hbl;have hm:=gx.bl f (lB hbl);split at h
      ·cases h
      split at h
      ·rename_i hisi;have ef:=Ud hisi;subst ef;split at h
       ·rename_i t tp hnl;split at h
        ·rename_i hg2;rw[TC]at hg2;obtain⟨T,h1,h⟩:=Tw.mp h;obtain⟨a',h2,h⟩:=Tw.mp h;cases h;have tn:t≠"__name__"/\(t==("__debug__":Str))=false:=by
          unfold uL at h1;split at h1
          ·rename_i e;rw[Ud e];exact⟨⋯,⋯⟩
          split at h1
          ·rename_i e;rw[Ud e];exact⟨⋯,⋯⟩
          split at h1
          ·rename_i e;rw[Ud e];exact⟨⋯,⋯⟩
          split at h1
          ·rename_i e;rw[Ud e];exact⟨⋯,⋯⟩
          split at h1
          ·rename_i e;rw[Ud e];exact⟨⋯,⋯⟩
          ·cases h1
         exact tr (PZ _ _) (Lv hK NW hm (gx.gl t hg2.1) (gx.bl t (lB hg2.2)) h1 tn.1 tn.2 (cX (I.e _ _ h2).2.2 _ _) (I.e _ _ h2).1)
        ·cases h
       ·cases h
      ·have regular:∀{c:C},((sZ f (as.length+1)).bind λi=>(yl n g Γ (a::as)).bind λes=>some (C.bi i es))=some c->PE X (.Call (.Name f p) (a::as) [] pos) (cw Φ Γ F g.fr c)/\PT X (.Call (.Name f p) (a::as) [] pos) (fV Φ Γ F c):=λ {c} h=>by obtain⟨b,h1,h⟩:=Tw.mp h;obtain⟨es,h2,h⟩:=Tw.mp h;cases h;obtain⟨k1,k2,k3⟩:=I.es _ _ h2;exact tr (PZ _ _) (Pe hK gx NW hm hg.2 h1 (cX (k3 a TN) _ _) (qA λe z=>k3 e (TK _ z)) k1)
       split at h
       ·rename_i r rp b rq;split at h
        ·cases h
        split at h
        ·cases h
        ·exact regular h
       ·rename_i r rp b c rq zz;split at h
        ·cases h
        ·exact regular h
       ·exact regular h
     ·cases h
   ·cases h
end
structure OI(Φ:Fm)(W:Addr->Prop)(o:Ow):Prop where
 w:o.W=W
 d:∀a,Φ.d0=some a->o.dr=some a
structure SO(Φ:Fm)(Γ:Gm)(W:Addr->Prop)(o:Ow)(H:Hp)(ρ':ai)(S':Sx)(σ':L2.St)(H':Hp):Prop where
 ex:∃o',OI Φ W o'/\ER Φ Γ o' ρ' S' σ' H'/\∀b,o'.A b->o.A b\/H b=none
 ext:aU o.A H H'
 al:∀b x,H b=some x->∃y,H' b=some y
structure RO(Φ:Fm)(W:Addr->Prop)(fF:Bool)(d:Dt)(S':Sx)(v:V)(H':Hp):Prop where
 val:RV Φ.K W H' v d
 ent:aU (λb=>Φ.d0=some b) Φ.H0 H'
 drw:∀a,Φ.d0=some a->∃ns:List Int,S'=some ns/\H' a=some (.lst (ns.map V.int))
 kC:fF=true->∀ds,d= .lst ds->∃a xs,v= .ref a/\Φ.H0 a=none/\H' a=some (.lst xs)/\ao Φ.K (λb=>W b\/b=a) H' xs ds
def bC(Φ:Fm)(Γ:Gm)(W:Addr->Prop)(fF:Bool)(o:Ow)(H:Hp)(D:Ends)(p:Fl×ai×Sx):Prop:=match p.1 with
 |.next=>∀σ' H',SO Φ Γ W o H p.2.1 p.2.2 σ' H'->D.nx σ' H'
 |.brk=>∀σ' H',SO Φ Γ W o H p.2.1 p.2.2 σ' H'->D.bk σ' H'
 |.cnt=>∀σ' H',SO Φ Γ W o H p.2.1 p.2.2 σ' H'->D.ct σ' H'
 |.ret d=>∀v H',RO Φ W fF d p.2.2 v H'->D.rt v H'
inductive j4(Φ:Fm)(Γ:Gm)(F:FT)(W:Addr->Prop)(fF:Bool)(t:T)(D:Ends)(σ:L2.St)(H:Hp):Prop
 |mk (o:Ow) (ρ:ai) (S:Sx) (i:OI Φ W o) (e:ER Φ Γ o ρ S σ H) (m:mR Φ.Ek (ex F t ρ S) (bC Φ Γ W fF o H D)):j4 Φ Γ F W fF t D σ H
inductive j5(Φ:Fm)(Γ:Gm)(F:FT)(W:Addr->Prop)(fF:Bool)(t:Ts)(D:Ends)(σ:L2.St)(H:Hp):Prop
 |mk (o:Ow) (ρ:ai) (S:Sx) (i:OI Φ W o) (e:ER Φ Γ o ρ S σ H) (m:mR Φ.Ek (aP F t ρ S) (bC Φ Γ W fF o H D)):j5 Φ Γ F W fF t D σ H
theorem bt{X:Cx}{e:Stmt}{t t':TS}(h:PS X e t)(hi:∀D σ H,t' D σ H->t D σ H):PS X e t':=λpins s σ H D I q=>h pins s σ H D I (hi D σ H q)
theorem v8{X:Cx}{e:List Stmt}{t t':TS}(h:sT X e t)(hi:∀D σ H,t' D σ H->t D σ H):sT X e t':=λpins s σ H D I q=>h pins s σ H D I (hi D σ H q)
section
variable{X:Cx}{Φ:Fm}{Γ:Gm}{F:FT}{g:G}{W:Addr->Prop}{fF:Bool}{o:Ow}{ρ:ai}{S:Sx}{σ:L2.St}{H H':Hp}
theorem ER.dA(er:ER Φ Γ o ρ S σ H){H1:Hp}(e:aU o.d H H1):aU o.A H H1:=e.mono er.da
theorem ER.Eu{S1:Sx}{ρ1:ai}{σ1:L2.St}{H1:Hp}(aA:ER Φ Γ o ρ1 S1 σ1 H1)(e:aU o.d H H1):∀b x,H b=some x->∃y,H1 b=some y:=λb x h=>e.al h λz=>aA.al b (aA.da b z)
theorem SO.fg{S':Sx}{ρ':ai}{σ':L2.St}(oi:OI Φ W o)(er:ER Φ Γ o ρ' S' σ' H')(e:aU o.d H H'):SO Φ Γ W o H ρ' S' σ' H':=⟨⟨o,oi,er,λb z=>.inl z⟩,e.mono er.da,er.Eu e⟩
theorem SO.go{o':Ow}{H1 H2:Hp}{ρ2:ai}{S2:Sx}{σ2:L2.St}(e:aU o.A H H1)(hA:∀b,o'.A b->o.A b\/H b=none)(ym:∀b x,H b=some x->∃y,H1 b=some y)(h:SO Φ Γ W o' H1 ρ2 S2 σ2 H2):SO Φ Γ W o H ρ2 S2 σ2 H2:=by
 obtain⟨⟨o2,G3,eO,Ct⟩,e2,a2⟩:=h;refine⟨⟨o2,G3,eO,λb z=>?_⟩,⟨λb x h n=>?_,λb xs h=>e2.tp _ _ (e.tp _ _ h)⟩,λb x h=>?_⟩
 ·rcases Ct b z with q|q
  ·exact hA b q
  ·refine .inr ?_;cases hb:H b with
   |none=>rfl
   |some x=>obtain⟨y,hy⟩:=ym b x hb;rw[q]at hy;cases hy
 ·refine e2.kp _ _ (e.kp _ _ h n) λz=>?_
  rcases hA b z with q|q
  ·exact n q
  ·rw[h]at q;cases q
 ·obtain⟨y,hy⟩:=ym b x h;exact a2 b y hy
theorem jB{fr:Nat->Bool}{c:C}{d:Dt}{v:V}{H1:Hp}(h:ba c d=true)(eo:EO Φ.K fr o c H d v H1):RV Φ.K o.A H1 v d:=by
 unfold ba at h;rw[Uy]at h;rcases h with h|h
 ·exact eo.dS (TH h)
 ·exact eo.val.rh h
theorem E9{i:Nat}{c:C}{st:Stmt}(hp:plainS Γ i=true)(h:PS X st (nq (cw Φ Γ F g.fr c) (eR i))):PS X st (j4 Φ Γ F W fF (.asg i c)):=bt h λD σ H q=>by obtain⟨o,ρ,S,oi,er,q⟩:=q;rw[pX]at q;rw[ae]at q;refine⟨o,ρ,S,er,ag q λp _ q v H1 eo aA=>?_⟩;obtain⟨gs,q⟩:=aK q;exact q _ _ (SO.fg oi (aA.set hp (jB gs eo)) eo.ext)
theorem Iz{i:Nat}{c:C}{st:Stmt}(hp:plainS Γ i=true)(hf:fresh g.fr c=true)(h:PS X st (nq (cw Φ Γ F g.fr c) (eR i))):PS X st (j4 Φ Γ F W fF (.asgM i c)):=bt h λD σ H q=>by
 obtain⟨o,ρ,S,oi,er,q⟩:=q;rw[mI]at q;rw[ae]at q;refine⟨o,ρ,S,er,ag q λp _ q v H1 eo aA=>?_⟩;obtain⟨gs,q⟩:=aK q;have hv:RV Φ.K o.A H1 v p.1:=by
  by_cases hd:∃ds,p.1= .lst ds
  ·obtain⟨ds,hd⟩:=hd;obtain⟨a,xs,rfl,h1,h2,h3,h4⟩:=eo.kC hf ds hd;have na:¬o.A a:=λz=>by obtain⟨x,hx⟩:=er.al a z;rw[h1]at hx;cases hx
   rw[hd]at gs ⊢;refine RV.iQ h2 na ?_;unfold kv at gs;rcases US.mp gs with z|z
   ·exact(h4 (TH z)).weak λb w=>.inl w
   ·exact h3.gj z
  ·refine jB ?_ eo;unfold kv at gs;unfold ba;cases hq:p.1 with
   |lst ds=>exact absurd ⟨ds,hq⟩ hd
   |_=>rw[hq]at gs;exact gs
 exact q _ _ (SO.fg oi (aA.set hp hv) eo.ext)
theorem ER.own{S1:Sx}{H1:Hp}{fr:Nat->Bool}{c:C}{d:Dt}{v:V}{i:Nat}(oi:OI Φ W o)(er:ER Φ Γ o ρ S σ H)(aA:ER Φ Γ o ρ S1 σ H1)(hm:gi Γ i=true)(hδ:Γ.δ≠some i)(hf:fresh fr c=true)(hl:kv c d=true)(eo:EO Φ.K fr o c H d v H1):
  ∃o',OI Φ W o'/\ER Φ Γ o' (ρ.set i (some d)) S1 (σ.set i (some v)) H1/\∀b,o'.A b->o.A b\/H b=none:=by
 by_cases hd:∃ds,d= .lst ds
 ·obtain⟨ds,rfl⟩:=hd;obtain⟨a,xs,rfl,h1,h2,h3,h4⟩:=eo.kC hf ds rfl;have h4:ao Φ.K (λb=>o.A b\/b=a) H1 xs ds:=by
   unfold kv at hl;rcases US.mp hl with l|l
   ·exact h4 (TH l)
   ·exact h3.gj l
  have nA:¬o.A a:=λz=>by obtain⟨y,hy⟩:=er.al a z;rw[h1]at hy;cases hy
  have h0:Φ.H0 a=none:=by
   cases q:Φ.H0 a with
   |none=>rfl
   |some x=>
    by_cases xu:Φ.d0=some a
    ·exact absurd (er.da a (oi.d a xu)) nA
    ·rw[er.ent.kp a x q xu]at h1;cases h1
  have av:∀b,(o.A b\/b=a)->o.A b\/H b=none:=λb z=>z.elim .inl λe=>.inr (by rw[e];exact h1)
  have dA:∀b,o.d b->(o.A b\/b=a):=λb z=>.inl (er.da b z)
  refine⟨⟨o.W,λb=>o.A b\/b=a,o.dr⟩,⟨oi.w,oi.d⟩,⟨?_,λb z=>.inl (er.wa b z),λb z=>.inl (er.da b z),λb z=>?_,λj e he=>?_,Dk.set er.dk rfl,λj j' b e e' m m' k1 k2 k3 k4=>?_,aA.drw,aA.drn,λj b hj hb=>?_,aA.dr0,aA.ent⟩,av⟩
  ·rw[VP,VP];exact er.len
  ·rcases z with z|z
   ·exact aA.al b z
   ·rw[z];exact⟨_,h2⟩
  ·by_cases hj:j=i
   ·subst hj;rw[VE]at he;simp only[W1]at he;split at he
    ·rename_i cU;cases he;refine⟨.ref a,by rw[UD (by rw[er.len];exact cU)],?_⟩;rw[W0 hm];exact⟨a,xs,rfl,h2,.inr rfl,λz=>nA (er.wa a z),λz=>nA (er.da a z),h0,h4⟩
    ·cases he
   ·rw[T7 (WH hj)]at he;obtain⟨w,k1,k2⟩:=er.val j e he;refine⟨w,by rw[T7 (WH hj)];exact k1,?_⟩;by_cases hmj:gi Γ j=true
    ·rw[W0 hmj]at k2 ⊢;cases e with
     |lst es=>obtain⟨b,ys,e1,e2,e3,e4,e5,e6,e7⟩:=k2;exact⟨b,ys,e1,eo.ext.kp _ _ e2 e5,.inl e3,e4,e5,e6,(e7.eh av).mono eo.ext dA λ_ z=>z⟩
     |iL=>exact k2.elim
     |_=>exact(RV.eh av k2).mono eo.ext dA λ_ z=>z
    ·rw[WZ hmj]at k2 ⊢;exact(k2.eh av).mono eo.ext dA λ_ z=>z
  ·
   have other:∀{j:Nat}{e:List Dt}{b:Addr},j≠i->gi Γ j=true->(ρ.set i (some (.lst ds)))[j]?=some (some (.lst e))->(σ.set i (some (.ref a)))[j]?=some (some (.ref b))->b≠a/\ρ[j]?=some (some (.lst e))/\σ[j]?=some (some (.ref b)):=λ {j e b} hj m k1 k3=>by rw[T7 (WH hj)]at k1 k3;obtain⟨w,n1,n2⟩:=er.val j _ k1;rw[W0 m]at n2;obtain⟨b',ys,e1,e2,_⟩:=n2;rw[k3]at n1;cases n1;cases e1;refine⟨λz=>?_,k1,k3⟩;rw[z,h1]at e2;cases e2
   by_cases hj:j=i
   ·by_cases xA:j'=i
    ·rw[hj,xA]
    ·obtain⟨n,_,_⟩:=other xA m' k2 k4;subst hj;have cU:j<σ.length:=by have:=(TJ.mp k3).1;rw[VP]at this;exact this
     rw[UD cU]at k3;cases k3;exact absurd rfl n
   ·obtain⟨n,p1,p2⟩:=other hj m k1 k3;by_cases xA:j'=i
    ·subst xA;have cU:j'<σ.length:=by have:=(TJ.mp k4).1;rw[VP]at this;exact this
     rw[UD cU]at k4;cases k4;exact absurd rfl n
    ·obtain⟨_,p3,p4⟩:=other xA m' k2 k4;exact er.inj j j' b e e' m m' p1 p3 p2 p4
  ·rw[T7 (λz=>hδ (by rw[z];exact hj))];exact aA.drs j b hj hb
 ·
  have nl:∀e,d≠ .lst e:=λe z=>hd ⟨e,z⟩
  have hv:RV Φ.K o.A H1 v d:=by
   unfold kv at hl;rcases US.mp hl with l|l
   ·exact eo.dS (TH l)
   ·cases d with
    |lst ds=>exact absurd rfl (nl ds)
    |_=>exact eo.val.rh l
  refine⟨o,oi,⟨?_,aA.wa,aA.da,aA.al,λj e he=>?_,Dk.set aA.dk hv.nd,λj j' b e e' m m' k1 k2 k3 k4=>?_,aA.drw,aA.drn,λj b hj hb=>?_,aA.dr0,aA.ent⟩,λb z=>.inl z⟩
  ·rw[VP,VP];exact er.len
  ·by_cases hj:j=i
   ·subst hj;rw[VE]at he;simp only[W1]at he;split at he
    ·rename_i cU;cases he;refine⟨v,by rw[UD (by rw[er.len];exact cU)],?_⟩;rw[W0 hm];cases d with
     |lst ds=>exact absurd rfl (nl ds)
     |iL=>cases hv.nd
     |_=>exact hv
    ·cases he
   ·rw[T7 (WH hj)]at he;obtain⟨w,k1,k2⟩:=aA.val j e he;exact⟨w,by rw[T7 (WH hj)];exact k1,k2⟩
  ·have other:∀{j:Nat}{e:List Dt},(ρ.set i (some d))[j]?=some (some (.lst e))->j≠i:=λ {j e} k1 z=>by
    subst z;rw[VE]at k1;simp only[W1]at k1;split at k1
    ·cases k1;exact nl e rfl
    ·cases k1
   have n1:=other k1;have n2:=other k2;rw[T7 (WH n1)]at k1 k3;rw[T7 (WH n2)]at k2 k4;exact aA.inj j j' b e e' m m' k1 k2 k3 k4
  ·rw[T7 (λz=>hδ (by rw[z];exact hj))];exact aA.drs j b hj hb
theorem Iy{i:Nat}{c:C}{st:Stmt}(hm:gi Γ i=true)(hδ:Γ.δ≠some i)(hf:fresh g.fr c=true)(h:PS X st (nq (cw Φ Γ F g.fr c) (eR i))):PS X st (j4 Φ Γ F W fF (.asgM i c)):=bt h λD σ H q=>by obtain⟨o,ρ,S,oi,er,q⟩:=q;rw[mI]at q;rw[ae]at q;refine⟨o,ρ,S,er,ag q λp _ q v H1 eo aA=>?_⟩;obtain⟨gs,q⟩:=aK q;exact q _ _ ⟨ER.own oi er aA hm hδ hf gs eo,er.dA eo.ext,aA.Eu eo.ext⟩
end
section
variable{X:Cx}{Φ:Fm}{Γ:Gm}{F:FT}{g:G}{W:Addr->Prop}{fF:Bool}{o:Ow}{ρ:ai}{S:Sx}{σ:L2.St}{H H':Hp}
theorem pG{Ek:Nat->Prop}{ρ:ai}{i:Nat}{P:List Dt->Prop}(h:mR Ek (l8 ρ i) P):∃ds,ρ[i]?=some (some (.lst ds))/\P ds:=by
 unfold l8 at h;split at h
 ·exact⟨_,by assumption,h⟩
 ·exact h.elim
theorem Bk{a:Addr}{u:HO}:∀b x,H b=some x->∃y,upd H a u b=some y:=λb x h=>by
 by_cases z:b=a
 ·subst z;exact⟨_,aN⟩
 ·exact⟨x,by rw[aJ z];exact h⟩
theorem vH{ρ:ai}{i:Nat}(h:isLE ρ i=true):∃ds,ρ[i]?=some (some (.lst ds)):=by
 unfold isLE at h;split at h
 ·exact⟨_,by assumption⟩
 ·cases h
theorem ER.chg{i:Nat}{a:Addr}{ds es:List Dt}{xs ys:List V}(er:ER Φ Γ o ρ S σ H)(hm:gi Γ i=true)(hr:ρ[i]?=some (some (.lst ds)))(hs:σ[i]?=some (some (.ref a)))(hx:H a=some (.lst xs))(hy:ao Φ.K o.A H ys es):
  ER Φ Γ o (ρ.set i (some (.lst es))) S σ (upd H a (.lst ys))/\aU o.A H (upd H a (.lst ys))/\∀b x,H b=some x->∃y,upd H a (.lst ys) b=some y:=by
 obtain⟨v,h1,h2⟩:=er.val i _ hr;rw[W0 hm]at h2;rw[hs]at h1;cases h1;obtain⟨b,zs,e1,e2,e3,e4,e5,e6,e7⟩:=h2;cases e1;have up:aU (λb=>b=a) H (upd H a (.lst ys)):=⟨λb o h n=>by rw[aJ n];exact h,Mx.mT hx⟩;have sub:∀b,b=a->o.A b:=λb z=>by rw[z];exact e3
 refine⟨⟨by rw[VP];exact er.len,er.wa,er.da,λb hb=>?_,λj d hd=>?_,Dk.set er.dk rfl,λj j' b d d' m m' k1 k2 k3 k4=>?_,λb hb=>?_,er.drn,er.drs,er.dr0,?_⟩,up.mono sub,Bk⟩
 ·obtain⟨x,hx⟩:=er.al b hb;exact Bk b x hx
 ·by_cases hj:j=i
  ·subst hj;rw[VE]at hd;simp only[W1]at hd;split at hd
   ·cases hd;refine⟨.ref a,hs,?_⟩;rw[W0 hm];exact⟨a,ys,rfl,aN,e3,e4,e5,e6,hy.mono up sub λ_ z=>z⟩
   ·cases hd
  ·rw[T7 (WH hj)]at hd;obtain⟨w,k1,k2⟩:=er.val j d hd;refine⟨w,k1,?_⟩;by_cases hmj:gi Γ j=true
   ·rw[W0 hmj]at k2 ⊢;cases d with
    |lst dl=>obtain⟨b,SR,n1,n2,n3,n4,n5,n6,n7⟩:=k2;refine⟨b,SR,n1,up.kp _ _ n2 (λz=>?_),n3,n4,n5,n6,n7.mono up sub λ_ z=>z⟩;subst n1 z;exact hj (er.inj j i b dl ds hmj hm hd hr k1 hs)
    |iL=>exact k2.elim
    |_=>exact RV.mono up sub (λ_ z=>z) k2
   ·rw[WZ hmj]at k2 ⊢;exact k2.mono up sub λ_ z=>z
 ·have same:∀{j:Nat}{d:List Dt},(ρ.set i (some (.lst es)))[j]?=some (some (.lst d))->∃d',ρ[j]?=some (some (.lst d')):=λ {j d} q=>by
   by_cases hj:j=i
   ·subst hj;exact⟨ds,hr⟩
   ·rw[T7 (WH hj)]at q;exact⟨d,q⟩
  obtain⟨d1,q1⟩:=same k1;obtain⟨d2,q2⟩:=same k2;exact er.inj j j' b d1 d2 m m' q1 q2 k3 k4
 ·obtain⟨ns,n1,n2⟩:=er.drw b hb;exact⟨ns,n1,up.kp _ _ n2 λz=>e5 (by rw[<-z];exact hb)⟩
 ·refine⟨λb x h n=>up.kp _ _ (er.ent.kp b x h n) λz=>?_,λb xs h=>up.tp _ _ (er.ent.tp b xs h)⟩;subst z;rw[h]at e6;cases e6
theorem mB{i:Nat}{ds:List Dt}(er:ER Φ Γ o ρ S σ H)(hm:gi Γ i=true)(hr:ρ[i]?=some (some (.lst ds))):∃a xs,σ[i]?=some (some (.ref a))/\H a=some (.lst xs)/\ao Φ.K o.A H xs ds:=by obtain⟨v,h1,h2⟩:=er.val i _ hr;rw[W0 hm]at h2;obtain⟨a,xs,e1,e2,e3,e4,e5,e6,e7⟩:=h2;subst e1;exact⟨a,xs,h1,e2,e7⟩
theorem L8{i:Nat}{c:C}{st:Stmt}(hm:gi Γ i=true)(h:PS X st (wG (QL X.K "list" wo (qh i) (E5 (cw Φ Γ F g.fr c) LV)))):PS X st (j4 Φ Γ F W fF (.app i c)):=bt h λD σ H q=>by obtain⟨o,ρ,S,oi,er,q⟩:=q;rw[wj]at q;obtain⟨gl,q⟩:=aK q;obtain⟨ds,hr⟩:=vH gl;obtain⟨a,xs,h1,h2,h3⟩:=mB er hm hr;rw[ae]at q;refine⟨.ref a,h1,.inl ⟨rfl,_,dF.of h2⟩,o,ρ,S,er,ag q λp _ q v H1 eo aA=>?_⟩;obtain⟨gs,q⟩:=aK q;rw[ae]at q;obtain⟨xi,e1,q⟩:=pG q;rw[hr]at e1;cases e1;obtain⟨gl,q⟩:=aK q;obtain⟨a',BV,zN,zO,JV⟩:=mB aA hm hr;rw[h1]at zN;cases zN;have nT:=fu;have EI:=Xa;have S8:lim=1000000:=rfl;have ME:=TH gl;refine⟨a,BV,v,rfl,rfl,zO,by rw[JV.length];lia,?_⟩;obtain⟨k1,k2,k3⟩:=aA.chg hm hr h1 zO (JV.append (ao.cons (jB gs eo) ao.nil));exact q _ _ (SO.go (er.dA eo.ext) (λb z=>.inl z) (aA.Eu eo.ext) ⟨⟨o,oi,k1,λb z=>.inl z⟩,k2,k3⟩)
theorem Ma{i:Nat}{st:Stmt}(hm:gi Γ i=true)(h:PS X st (wG (LP X.K "list" AV (qh i)))):PS X st (j4 Φ Γ F W fF (.clr i)):=bt h λD σ H q=>by obtain⟨o,ρ,S,oi,er,q⟩:=q;rw[DO]at q;rw[ae]at q;obtain⟨ds,hr,q⟩:=pG q;obtain⟨a,xs,h1,h2,h3⟩:=mB er hm hr;obtain⟨k1,k2,k3⟩:=er.chg hm hr h1 h2 (ao.nil (K:=Φ.K) (A:=o.A));exact⟨.ref a,h1,.inl ⟨rfl,_,dF.of h2⟩,a,xs,rfl,rfl,h2,q _ _ ⟨⟨o,oi,k1,λb z=>.inl z⟩,k2,k3⟩⟩
theorem IE{i:Nat}{k v:C}{st:Stmt}(hm:gi Γ i=true)(h:PS X st (nq (cw Φ Γ F g.fr v) (JQ (qh i) (cw Φ Γ F g.fr k) EY))):PS X st (j4 Φ Γ F W fF (.ya i k v)):=bt h λD σ H q=>by
 obtain⟨o,ρ,S,oi,er,q⟩:=q;rw[rQ]at q;obtain⟨gl,q⟩:=aK q;obtain⟨ds,hr⟩:=vH gl;obtain⟨a,xs,h1,h2,h3⟩:=mB er hm hr;rw[ae]at q;refine⟨o,ρ,S,er,ag q λp _ q x H1 eo aA=>?_⟩;rw[ae]at q;refine⟨.ref a,h1,o,ρ,p.2,aA,ag q λp2 _ q y H2 eo2 eO=>?_⟩;obtain⟨gs,q⟩:=aK q;rw[ae]at q;obtain⟨xi,e1,q⟩:=pG q;rw[hr]at e1;cases e1;obtain⟨a',BV,zN,zO,JV⟩:=mB eO hm hr;rw[h1]at zN;cases zN;cases hd:p2.1 with
 |int n=>
  rw[hd]at q eo2;simp only at q;cases hj:pB ds.length n with
  |none=>rw[hj]at q;exact q.elim
  |some j=>
   rw[hj]at q;have hx:RV Φ.K o.A H2 x p.1:=by
    unfold ba at gs;rw[Uy]at gs;obtain⟨k1,k2,k3⟩:=eo.keep eo2.ext er.iZ;rcases gs with gs|gs
    ·exact k2 (TH gs)
    ·exact k1.rh gs
   refine⟨a,BV,n,j,rfl,eo2.val.int_inv,zO,by rw[JV.length];exact hj,?_⟩;obtain⟨k1,k2,k3⟩:=eO.chg hm hr h1 zO (JV.set j hx);exact q _ _ (SO.go (er.dA (eo.ext.trans eo2.ext)) (λb z=>.inl z) (eO.Eu (eo.ext.trans eo2.ext)) ⟨⟨o,oi,k1,λb z=>.inl z⟩,k2,k3⟩)
 |_=>rw[hd]at q;exact q.elim
theorem Mc{c:C}{st:Stmt}(h:PS X st (wG (cw Φ Γ F g.fr c))):PS X st (j4 Φ Γ F W fF (.FP c)):=bt h λD σ H q=>by obtain⟨o,ρ,S,oi,er,q⟩:=q;rw[pY]at q;rw[ae]at q;exact⟨o,ρ,S,er,ag q λp _ q v H1 eo aA=>q _ _ (SO.fg oi aA eo.ext)⟩
theorem Br{is:List Nat}{c:C}{st:Stmt}(hK:Φ.K=X.K)(hp:∀i∈is,plainS Γ i=true)(h:PS X st (nq (cw Φ Γ F g.fr c) (Mx.vt X.K is.length (sk is)))):PS X st (j4 Φ Γ F W fF (.asgT is c)):=bt h λD σ H q=>by obtain⟨o,ρ,S,oi,er,q⟩:=q;rw[jw]at q;rw[ae]at q;refine⟨o,ρ,S,er,ag q λp _ q v H1 eo aA=>?_⟩;obtain⟨gs,q⟩:=aK q;rw[ae]at q;obtain⟨ρ1,hρ,q⟩:=gN (se _ _ _) q;rw[<-hK];exact D2 aA hp (jB gs eo) hρ λσ1 eO _=>q _ _ (SO.fg oi eO eo.ext)
theorem ER.h0{a:Addr}(oi:OI Φ W o)(er:ER Φ Γ o ρ S σ H)(h:H a=none):Φ.H0 a=none:=by
 cases q:Φ.H0 a with
 |none=>rfl
 |some x=>
  by_cases xu:Φ.d0=some a
  ·obtain⟨y,hy⟩:=er.al a (er.da a (oi.d a xu));rw[h]at hy;cases hy
  ·rw[er.ent.kp a x q xu]at h;cases h
theorem Fb{c:C}{st:Stmt}(hf:fF=true->fresh g.fr c=true)(h:PS X st (Im (cw Φ Γ F g.fr c))):PS X st (j4 Φ Γ F W fF (.ret c)):=bt h λD σ H q=>by
 obtain⟨o,ρ,S,oi,er,q⟩:=q;rw[kY]at q;rw[ae]at q;refine⟨o,ρ,S,er,ag q λp Kh q v H1 eo aA=>?_⟩;have hw:∀b,W b->o.wd b:=λb z=>.inl (by rw[oi.w];exact z)
 refine q _ _ ⟨eo.val.weak hw,aA.ent,λa ha=>aA.drw a (oi.d a ha),λhfF ds ed=>?_⟩;obtain⟨a,xs,h1,h2,h3,h4,_⟩:=eo.kC (hf hfF) ds ed;exact⟨a,xs,h1,er.h0 oi h2,h3,h4.weak λb z=>z.imp (hw b) id⟩
theorem IC{i:Nat}{st:Stmt}(hm:gi Γ i=true)(hκ:Γ.κ≠some i)(h:PS X st (Im (qh i))):PS X st (j4 Φ Γ F W fF (.ret (.mvr i))):=bt h λD σ H q=>by
 obtain⟨o,ρ,S,oi,er,q⟩:=q;rw[kY,pW]at q;rw[ae,ae]at q;obtain⟨d,hd,q⟩:=pe q;obtain⟨v,k1,k2⟩:=er.val i d hd;rw[W0 hm]at k2;have hw:∀b,W b->o.wd b:=λb z=>.inl (by rw[oi.w];exact z)
 have Sd:∀b,W b->o.A b:=λb z=>er.wa b (by rw[oi.w];exact z)
 refine⟨v,k1,q _ _ ⟨(k2.val (er.nd hd hκ) er.wa er.da).weak hw,er.ent,λa ha=>er.drw a (oi.d a ha),λhfF ds ed=>?_⟩⟩;simp only at ed;subst ed;obtain⟨a,xs,e1,e2,e3,e4,e5,e6,e7⟩:=k2;exact⟨a,xs,e1,e6,e2,e7.weak λb z=>z.elim (Sd b) λy=>by rw[y];exact e3⟩
theorem ID{st:Stmt}(h:PS X st E7):PS X st (j4 Φ Γ F W fF .retN):=bt h λD σ H q=>by obtain⟨o,ρ,S,oi,er,q⟩:=q;exact q _ _ ⟨RV.pJ,er.ent,λa ha=>er.drw a (oi.d a ha),λ_ ds ed=>by cases ed⟩
theorem IA{st:Stmt}(h:PS X st Bd):PS X st (j4 Φ Γ F W fF .pas):=bt h λD σ H q=>by obtain⟨o,ρ,S,oi,er,q⟩:=q;exact q _ _ (SO.fg oi er aU.refl)
theorem L9{st:Stmt}(h:PS X st Bc):PS X st (j4 Φ Γ F W fF .brk):=bt h λD σ H q=>by obtain⟨o,ρ,S,oi,er,q⟩:=q;exact q _ _ (SO.fg oi er aU.refl)
theorem Mb{st:Stmt}(h:PS X st E6):PS X st (j4 Φ Γ F W fF .cnt):=bt h λD σ H q=>by obtain⟨o,ρ,S,oi,er,q⟩:=q;exact q _ _ (SO.fg oi er aU.refl)
theorem bC.go{o':Ow}{H1:Hp}{D D':Ends}{p:Fl×ai×Sx}(e:aU o.A H H1)(hA:∀b,o'.A b->o.A b\/H b=none)(ym:∀b x,H b=some x->∃y,H1 b=some y)
  (hn:∀σ' H',D.nx σ' H'->D'.nx σ' H') (hb:∀σ' H',D.bk σ' H'->D'.bk σ' H') (hc:∀σ' H',D.ct σ' H'->D'.ct σ' H') (hr:∀v H',D.rt v H'->D'.rt v H') (h:bC Φ Γ W fF o H D p):bC Φ Γ W fF o' H1 D' p:=by
 unfold bC at h ⊢;cases hp:p.1 with
 |next=>rw[hp]at h;exact λσ' H' so=>hn _ _ (h σ' H' (SO.go e hA ym so))
 |brk=>rw[hp]at h;exact λσ' H' so=>hb _ _ (h σ' H' (SO.go e hA ym so))
 |cnt=>rw[hp]at h;exact λσ' H' so=>hc _ _ (h σ' H' (SO.go e hA ym so))
 |ret d=>rw[hp]at h;exact λv H' ro=>hr _ _ (h v H' ro)
theorem Bw:sT X [] (j5 Φ Γ F W fF .nil):=v8 DC λD σ H q=>by obtain⟨o,ρ,S,oi,er,q⟩:=q;exact q _ _ (SO.fg oi er aU.refl)
theorem Ec{st:Stmt}{qf:List Stmt}{t:T}{ts:Ts}(h1:PS X st (j4 Φ Γ F W fF t))(h2:sT X qf (j5 Φ Γ F W fF ts)):sT X (st::qf) (j5 Φ Γ F W fF (.cons t ts)):=v8 (AI h1 h2) λD σ H q=>by
 obtain⟨o,ρ,S,oi,er,q⟩:=q;rw[bN]at q;rw[ae]at q;refine⟨o,ρ,S,oi,er,ag q λp _ q=>?_⟩;unfold bC;cases hp:p.1 with
 |next=>rw[hp]at q;intro σ1 H1 so;obtain⟨⟨o1,OL,aA,NS⟩,e1,a1⟩:=so;exact⟨o1,p.2.1,p.2.2,OL,aA,ag q λp2 _ q=>bC.go e1 NS a1 (λ_ _ z=>z) (λ_ _ z=>z) (λ_ _ z=>z) (λ_ _ z=>z) q⟩
 |brk=>rw[hp]at q;exact q
 |cnt=>rw[hp]at q;exact q
 |ret d=>rw[hp]at q;exact q
theorem Mf{t:C}{a b:Ts}{st:Stmt}(h:PS X st (LU (fV Φ Γ F t) (j5 Φ Γ F W fF a) (j5 Φ Γ F W fF b))):PS X st (j4 Φ Γ F W fF (.ifs t a b)):=bt h λD σ H q=>by
 obtain⟨o,ρ,S,oi,er,q⟩:=q;rw[pZ]at q;rw[ae]at q;refine⟨o,ρ,S,er,ag q λp _ q H1 e1 aA=>?_⟩;have go:∀{ts:Ts},mR Φ.Ek (aP F ts ρ p.2) (bC Φ Γ W fF o H D)->j5 Φ Γ F W fF ts D σ H1:=λq=>⟨o,ρ,p.2,oi,aA,ag q λp2 _ q=>bC.go (er.dA e1) (λb z=>.inl z) (aA.Eu e1) (λ_ _ z=>z) (λ_ _ z=>z) (λ_ _ z=>z) (λ_ _ z=>z) q⟩
 cases hp:p.1 with
 |true=>rw[hp]at q;exact Gq (go q)
 |false=>rw[hp]at q;exact Gp (go q)
theorem Md{tg:Tg}{it:kJ}{b:Ts}{st:Stmt}(hK:Φ.K=X.K)(hp:∀i∈aT tg,plainS Γ i=true)(h:PS X st (Il (mP Φ Γ F it) (D3 X.K tg) (j5 Φ Γ F W fF b))):PS X st (j4 Φ Γ F W fF (.fr tg it b)):=bt h λD σ H q=>by
 obtain⟨o,ρ,S,oi,er,q⟩:=q;rw[gU]at q;rw[ae]at q;refine⟨o,ρ,S,er,ag q λp _ q J H1 io aA=>?_⟩;obtain⟨gs,q⟩:=aK q;have wk:Wk Φ.K o.A o.A J H1 p.1:=(US.mp gs).elim (λz=>io.w0 (TH z)) io.w2;refine⟨λi m σ2 H2=>m=p.1.length-i/\i<=p.1.length/\∃o2 ρ2 S2,OI Φ W o2/\ER Φ Γ o2 ρ2 S2 σ2 H2/\aU o.A H1 H2/\(∀b,o2.A b->o.A b\/H1 b=none)/\(∀b x,H1 b=some x->∃y,H2 b=some y)/\mR Φ.Ek (forL tg (aP F b) (p.1.drop i) ρ2 S2) (bC Φ Γ W fF o H D),
  ⟨_,rfl,WG _,o,ρ,p.2,oi,aA,aU.refl,λb z=>.inl z,λb x hx=>⟨x,hx⟩,q⟩,?_⟩
 rintro i m σ2 H2 ⟨rfl,hi,o2,ρ2,S2,G3,eO,e2,Ct,Mq,q⟩;have eH:aU o.A H H2:=(er.dA io.ext).trans e2;have aH:∀b x,H b=some x->∃y,H2 b=some y:=λb x hx=>by obtain⟨y,hy⟩:=aA.Eu io.ext b x hx;exact Mq b y hy
 have A1:∀b,o2.A b->o.A b\/H b=none:=λb z=>(Ct b z).imp id λq=>by
  cases hb:H b with
  |none=>rfl
  |some x=>obtain⟨y,hy⟩:=aA.Eu io.ext b x hb;rw[q]at hy;cases hy
 by_cases cU:i<p.1.length
 ·refine .inr ⟨wk.go i H2 cU e2,?_⟩;have hd:∃d,p.1[i]?=some d:=⟨p.1[i],by simp[cU]⟩;obtain⟨d0,xu⟩:=hd;have JJ:p.1.drop i=d0::p.1.drop (i+1):=by rw[Vp cU];congr 1;exact(TJ.mp xu).2
  rw[JJ]at q;unfold forL at q;rw[ae]at q;obtain⟨ρ3,hρ,q⟩:=gN (mL _ _ _) q;rw[ae]at q;refine⟨λσ3 H3=>i+1<=p.1.length/\∃o3 ρ3 S3,OI Φ W o3/\ER Φ Γ o3 ρ3 S3 σ3 H3/\aU o.A H1 H3/\(∀b,o3.A b->o.A b\/H1 b=none)/\(∀b x,H1 b=some x->∃y,H3 b=some y)/\mR Φ.Ek (forL tg (aP F b) (p.1.drop (i+1)) ρ3 S3) (bC Φ Γ W fF o H D),λσ3 H3 z=>⟨p.1.length-(i+1),(by omega),rfl,z⟩,λx H3 y=>?_⟩;obtain⟨s3,d,hd,hx⟩:=wk.yld i x H2 H3 cU e2 y;rw[xu]at hd;cases hd;have tX:=hx o2.A Ct;rw[<-hK];refine uG (eO.grow s3) hp tX hρ λσ4 JL _=>?_
  refine⟨o2,ρ3,S2,G3,JL,ag q λp2 _ q=>?_⟩;have again:∀{σ5:L2.St}{H5:Hp},SO Φ Γ W o2 H3 p2.2.1 p2.2.2 σ5 H5->mR Φ.Ek (forL tg (aP F b) (p.1.drop (i+1)) p2.2.1 p2.2.2) (bC Φ Γ W fF o H D)->i+1<=p.1.length/\∃o3 ρ3 S3,OI Φ W o3/\ER Φ Γ o3 ρ3 S3 σ5 H5/\aU o.A H1 H5/\(∀b,o3.A b->o.A b\/H1 b=none)/\(∀b x,H1 b=some x->∃y,H5 b=some y)/\mR Φ.Ek (forL tg (aP F b) (p.1.drop (i+1)) ρ3 S3) (bC Φ Γ W fF o H D):=λ {σ5 H5} so q=>by have LI:=SO.go (o:=o) (H:=H1) (e2.trans (aU.of_same s3)) Ct (λb x hx=>by obtain⟨y,hy⟩:=Mq b x hx;exact⟨y,s3 _ _ hy⟩) so;obtain⟨⟨o5,K1,BB,JW⟩,e5,a5⟩:=LI;exact⟨cU,o5,_,_,K1,BB,e5,JW,a5,q⟩
  unfold bC;cases kg:p2.1 with
  |next=>rw[kg]at q;exact λσ5 H5 so=>again so q
  |cnt=>rw[kg]at q;exact λσ5 H5 so=>again so q
  |brk=>rw[kg]at q;intro σ5 H5 so;have q:bC Φ Γ W fF o H D (.next,p2.2):=q;unfold bC at q;exact q σ5 H5 (SO.go (eH.trans (aU.of_same s3)) A1 (λb x hx=>by obtain⟨y,hy⟩:=aH b x hx;exact⟨y,s3 _ _ hy⟩) so)
  |ret d=>rw[kg]at q;have q:bC Φ Γ W fF o H D (.ret d,p2.2):=q;exact q
 ·have e:i=p.1.length:=(by omega)
  subst e;rw[List.drop_length]at q;have q:bC Φ Γ W fF o H D (.next,ρ2,S2):=q;unfold bC at q;exact .inl ⟨wk.stop H2 e2,q _ _ ⟨⟨o2,G3,eO,A1⟩,eH,aH⟩⟩
theorem PC{t:C}{b:Ts}{st:Stmt}(h:PS X st (Be (fV Φ Γ F t) (j5 Φ Γ F W fF b))):PS X st (j4 Φ Γ F W fF (.wh t b)):=bt h λD σ H q=>by
 obtain⟨o,ρ,S,oi,er,q⟩:=q;rw[AU]at q;refine⟨λm σ2 H2=>∃o2 ρ2 S2,OI Φ W o2/\ER Φ Γ o2 ρ2 S2 σ2 H2/\aU o.A H H2/\(∀b,o2.A b->o.A b\/H b=none)/\(∀b x,H b=some x->∃y,H2 b=some y)/\mR Φ.Ek (BU (cA F t) (aP F b) m ρ2 S2) (bC Φ Γ W fF o H D),
  ⟨_,o,ρ,S,oi,er,aU.refl,λb z=>.inl z,λb x hx=>⟨x,hx⟩,q⟩,?_⟩
 rintro m σ2 H2 ⟨o2,ρ2,S2,G3,eO,e2,Ct,Mq,q⟩;cases m with
 |zero=>exact q.elim
 |succ m=>
  unfold BU at q;rw[ae]at q;refine⟨o2,ρ2,S2,eO,ag q λp _ q H3 e3 Cm=>?_⟩;have PK:∀b x,H b=some x->∃y,H3 b=some y:=λb x hx=>by obtain⟨y,hy⟩:=Mq b x hx;exact Cm.Eu e3 b y hy
  have Mr:aU o.A H H3:=⟨λb x hx n=>by
   refine e3.kp _ _ (e2.kp _ _ hx n) λz=>?_
   rcases Ct b (eO.da b z)with q|q
   ·exact n q
   ·(rw[hx]at q;cases q),λb xs hx=>e3.tp _ _ (e2.tp _ _ hx)⟩
  cases hp:p.1 with
  |true=>
   rw[hp]at q;simp only[W1]at q;rw[ae]at q;refine Gq ⟨λσ4 H4=>∃o2 ρ2 S2,OI Φ W o2/\ER Φ Γ o2 ρ2 S2 σ4 H4/\aU o.A H H4/\(∀b,o2.A b->o.A b\/H b=none)/\(∀b x,H b=some x->∃y,H4 b=some y)/\mR Φ.Ek (BU (cA F t) (aP F b) m ρ2 S2) (bC Φ Γ W fF o H D),λσ4 H4 z=>⟨m,Wx _,z⟩,o2,ρ2,p.2,G3,Cm,ag q λp2 _ q=>?_⟩;have LI:∀{σ5:L2.St}{H5:Hp},SO Φ Γ W o2 H3 p2.2.1 p2.2.2 σ5 H5->SO Φ Γ W o H p2.2.1 p2.2.2 σ5 H5:=λso=>SO.go Mr Ct PK so
   unfold bC;cases kg:p2.1 with
   |next=>rw[kg]at q;intro σ5 H5 so;obtain⟨⟨o5,K1,BB,JW⟩,e5,a5⟩:=LI so;exact⟨o5,_,_,K1,BB,e5,JW,a5,q⟩
   |cnt=>rw[kg]at q;intro σ5 H5 so;obtain⟨⟨o5,K1,BB,JW⟩,e5,a5⟩:=LI so;exact⟨o5,_,_,K1,BB,e5,JW,a5,q⟩
   |brk=>rw[kg]at q;intro σ5 H5 so;have q:bC Φ Γ W fF o H D (.next,p2.2):=q;unfold bC at q;exact q σ5 H5 (LI so)
   |ret d=>rw[kg]at q;have q:bC Φ Γ W fF o H D (.ret d,p2.2):=q;exact q
  |false=>rw[hp]at q;have q:bC Φ Γ W fF o H D (.next,ρ2,p.2):=q;unfold bC at q;exact Gp (q _ _ ⟨⟨o2,G3,Cm,Ct⟩,Mr,PK⟩)
end
theorem Ik{x y z:Str}{px py pz tp p2:Pos}{b:Expr}{kk k2:Nat}(env:Env)(Sg:x≠y)(hb:∀v p,b≠ .Starred v p)(hz:constantsAlone 8 (.Name z pz)=false):
  swappedStores [.Tuple [.Name x px,.Name y py] kk tp] (.Tuple [.Name z pz,b] k2 p2) env=pure none\/(swappedStores [.Tuple [.Name x px,.Name y py] kk tp] (.Tuple [.Name z pz,b] k2 p2) env=pure (some [x,y])/\env.kindOf x=some .local/\env.kindOf y=some .local):=by
 have c0:[Expr.Name z pz,b].all (constantsAlone 8)=false:=by rw[Vj,hz,Bool.false_and]
 have ep:∀x p,(Expr.Name x p).pos=p:=λ_ _=>rfl
 have dup:([x,y]:List Str).eraseDups.length=2:=by have:(y==x)=false:=WT.mpr (WH Sg);simp[List.eraseDups_cons,this]
 by_cases hB:(env.blockKind==ScopeKind.function)=true
 ·unfold swappedStores;dsimp only;rw[WZ (by simp[bne,hB])];by_cases hX:(env.kindOf x==some NameKind.local)=true
  ·by_cases hY:(env.kindOf y==some NameKind.local&&py.line==px.line)=true
   ·right;refine⟨?_,Ud hX,Ud (TC _ _▸hY).1⟩;refine(WZ ?_).trans ?_
    ·cases b<;>first|exact absurd rfl (hb _ _)|(intro h;cases h)
    simp only[List.head?_cons,Option.map_some,Option.getD_some,Vx,List.filterMap_nil,ep,hX,hY,Bool.true_and,WU,W1];rw[WZ (by rw[dup];show¬((2 != 2)||(2 != 2))=true;decide),WZ (by intro h;cases h),WZ (by rw[c0];decide)]
   ·left;have RF:(env.kindOf y==some NameKind.local&&py.line==px.line)=false:=by simpa using hY
    refine(WZ ?_).trans ?_
    ·cases b<;>first|exact absurd rfl (hb _ _)|(intro h;cases h)
    simp only[List.head?_cons,Option.map_some,Option.getD_some,Vx,List.filterMap_nil,ep,hX,RF,Bool.true_and,WU,W1,UO,WY];rfl
  ·left;have Qd:(env.kindOf x==some NameKind.local)=false:=by simpa using hX
   refine(WZ ?_).trans ?_
   ·cases b<;>first|exact absurd rfl (hb _ _)|(intro h;cases h)
   cases hY:(env.kindOf y==some NameKind.local&&py.line==px.line) with
   |true=>simp only[List.head?_cons,Option.map_some,Option.getD_some,Vx,List.filterMap_nil,ep,Qd,hY,Bool.false_and,W1,UO,WY];rfl
   |false=>simp only[List.head?_cons,Option.map_some,Option.getD_some,Vx,List.filterMap_nil,ep,Qd,hY,Bool.false_and,UO,WY];rfl
 ·left;unfold swappedStores;dsimp only;rw[W0 (by simp[bne,hB])]
def Ja:Expr->Option (Str×Pos)
 |.Name x p=>some (x,p)
 |_=>none
theorem ug{e:Expr}{q:Str×Pos}(h:Ja e=some q):e= .Name q.1 q.2:=by unfold Ja at h;split at h<;>cases h;rfl
def Hh(a b z:Expr):Bool:=match Ja a with
 |some x=>match Ja b with
  |some y=>match Ja z with
   |some w=>x.1 != y.1&& !(constantsAlone 8 (.Name w.1 w.2))
   |none=>false
  |none=>false
 |none=>false
def K8(es:List Expr)(e:Expr):Bool:=match es with
 |[a,b]=>match e with
  |.Tuple vs _ _=>match vs with
   |[z,_]=>Hh a b z
   |_=>false
  |_=>false
 |_=>false
theorem Dm{es vs:List Expr}{k:Nat}{p:Pos}(h:K8 es (.Tuple vs k p)=true):∃x px y py z pz b,es=[.Name x px,.Name y py]/\vs=[.Name z pz,b]/\(x != y&& !(constantsAlone 8 (.Name z pz)))=true:=by
 rcases es with _|⟨a,_|⟨b,_|⟨c,es⟩⟩⟩<;>(try cases h)
 rcases vs with _|⟨z,_|⟨w,_|⟨c,vs⟩⟩⟩<;>(try cases h)
 have h:Hh a b z=true:=h;unfold Hh at h;split at h<;>(try cases h);rename_i x hx;split at h<;>(try cases h);rename_i y hy;split at h<;>(try cases h);rename_i q hq;exact⟨_,_,_,_,_,_,w,by rw[<-ug hx,<-ug hy],by rw[<-ug hq],h⟩
theorem KM{Γ:Gm}{a b:Expr}{is:List Nat}(h:dN Γ [a,b]=some is):∃i j,kn Γ a=some i/\kn Γ b=some j/\is=[i,j]:=by unfold dN at h;obtain⟨i,j1,h2⟩:=Tw.mp h;obtain⟨js,h3,e⟩:=T5.mp h2;unfold dN at h3;obtain⟨j,j2,h4⟩:=Tw.mp h3;obtain⟨Tp,h5,e'⟩:=T5.mp h4;cases h5;exact⟨i,j,j1,j2,by rw[<-e,<-e']⟩
section
variable{X:Cx}{Φ:Fm}{Γ:Gm}{F:FT}{g:G}{W:Addr->Prop}{fF:Bool}
theorem Mg{i j:Nat}{cs:Cs}{st:Stmt}(hi:plainS Γ i=true)(hj:plainS Γ j=true)(h:PS X st (LY i j (mQ Φ Γ F cs))):PS X st (j4 Φ Γ F W fF (.asgT [i,j] (.tup cs))):=bt h λD σ H q=>by
 obtain⟨o,ρ,S,oi,er,q⟩:=q;rw[jw]at q;rw[ae,we,ae]at q;refine⟨o,ρ,S,er,ag q λp _ q vs H1 eo aA=>?_⟩;obtain⟨gl,q⟩:=aK q;have q:mR Φ.Ek (af (ba (.tup cs) (.tup p.1)) ((r8 [i,j] (.tup p.1) ρ).bind λρ1=>.ok (Fl.next,ρ1,p.2))) (bC Φ Γ W fF o H D):=q;obtain⟨gs,q⟩:=aK q;rw[ae]at q;obtain⟨ρ1,hρ,q⟩:=gN (se _ _ _) q;have hv:ao Φ.K o.A H1 vs p.1:=by
  unfold ba at gs;rw[Uy]at gs;rcases gs with gs|gs
  ·exact eo.dS ((Aj (cs:=cs) (c:=.tup cs) (rfl)).2 (TH gs))
  ·exact eo.val.gj (by rw[rh]at gs;exact gs)
 have hρ:gX [i,j] p.1 ρ= .ok ρ1:=hρ;obtain⟨k1,k2⟩:=jD (is:=[i,j]) (Q:=λσ1 H'=>D.nx σ1 H') aA (λk hk=>by simp only[TY,TZ,W8]at hk;rcases hk with rfl|rfl<;>assumption) hv hρ λσ1 eO _=>q _ _ (SO.fg oi eO eo.ext)
 obtain⟨v,r,e1,k1⟩:=k1;obtain⟨w,r2,e2,k1⟩:=k1;obtain⟨e3,k1⟩:=k1;exact⟨v,w,by rw[e1,e2,e3],k1⟩
theorem Me{tg:Tg}{it:kJ}{j:Nat}{c:C}{st:Stmt}(hK:Φ.K=X.K)(hp:∀i∈aT tg,plainS Γ i=true)(hj:plainS Γ j=true)(h:PS X st (Il (mP Φ Γ F it) (D3 X.K tg) (nq (cw Φ Γ F g.fr c) (eR j)))):PS X st (j4 Φ Γ F W fF (.frq tg it j c)):=bt h λD σ H q=>by
 obtain⟨o,ρ,S,oi,er,q⟩:=q;rw[wm]at q;rw[ae]at q;refine⟨o,ρ,S,er,ag q λp _ q J H1 io aA=>?_⟩;obtain⟨gs,q⟩:=aK q;have wk:=io.w1 (TH gs);refine⟨λi m σ2 H2=>m=p.1.length-i/\i<=p.1.length/\∃ρ2 S2,ER Φ Γ o ρ2 S2 σ2 H2/\aU o.d H1 H2/\mR Φ.Ek (forL tg (λρ S=>(ev F c ρ S).bind λx=>af (ba c x.1) (.ok (.next,ρ.set j (some x.1),x.2))) (p.1.drop i) ρ2 S2) (bC Φ Γ W fF o H D),⟨_,rfl,WG _,ρ,p.2,aA,aU.refl,q⟩,?_⟩;rintro i m σ2 H2 ⟨rfl,hi,ρ2,S2,eO,e2,q⟩;by_cases cU:i<p.1.length
 ·refine .inr ⟨wk.go i H2 cU e2,?_⟩;obtain⟨d0,xu⟩:∃d,p.1[i]?=some d:=⟨p.1[i],by simp[cU]⟩;have JJ:p.1.drop i=d0::p.1.drop (i+1):=by rw[Vp cU];congr 1;exact(TJ.mp xu).2
  rw[JJ]at q;unfold forL at q;rw[ae]at q;obtain⟨ρ3,hρ,q⟩:=gN (mL _ _ _) q;rw[ae,ae]at q;refine⟨λσ3 H3=>i+1<=p.1.length/\∃ρ3 S3,ER Φ Γ o ρ3 S3 σ3 H3/\aU o.d H1 H3/\mR Φ.Ek (forL tg (λρ S=>(ev F c ρ S).bind λx=>af (ba c x.1) (.ok (.next,ρ.set j (some x.1),x.2))) (p.1.drop (i+1)) ρ3 S3) (bC Φ Γ W fF o H D),λσ3 H3 z=>⟨p.1.length-(i+1),(),rfl,z⟩,λx H3 y=>?_⟩;obtain⟨s3,d,hd,hx⟩:=wk.yld i x H2 H3 cU e2 y;rw[xu]at hd;cases hd;have tX:=hx o.A λb z=>.inl z
  rw[<-hK];refine uG (eO.grow s3) hp tX hρ λσ4 JL _=>?_
  refine⟨o,ρ3,S2,JL,ag q λp2 _ q v H4 eo BB=>?_⟩;obtain⟨Rk,q⟩:=aK q;exact⟨cU,_,_,BB.set hj (jB Rk eo),(e2.trans (aU.of_same s3)).trans eo.ext,q⟩
 ·have e:i=p.1.length:=()
  subst e;rw[List.drop_length]at q;have q:bC Φ Γ W fF o H D (.next,ρ2,S2):=q;unfold bC at q;refine .inl ⟨wk.stop H2 e2,q _ _ ?_⟩;have eH:=io.ext.trans e2;exact SO.fg oi eO eH
end
def Gk:Expr->Bool
 |.Tuple ..=>true
 |.List ..=>true
 |_=>false
def lV:Expr->Bool
 |.ListComp ..=>true
 |.SetComp ..=>true
 |.DictComp ..=>true
 |_=>false
def FE(n:Nat)(g:G)(Γ:Gm)(i:Nat)(e:Expr):Option T:=match e with
 |.Name y p=>match slot Γ y with
  |some j=>if gi Γ j then none else(cE n g Γ (.Name y p)).bind λc=>some (.asg i c)
  |none=>(cE n g Γ (.Name y p)).bind λc=>some (.asg i c)
 |e=>(cE n g Γ e).bind λc=>some (if fresh g.fr c&&lk c != 0 then .asgM i c else .asg i c)
def FG(n:Nat)(g:G)(Γ:Gm)(fF:Bool)(e:Expr):Option T:=match e with
 |.Name y p=>match slot Γ y with
  |some j=>if gi Γ j then(if Γ.δ==some j||Γ.κ==some j then none else some (.ret (.mvr j))) else(cE n g Γ (.Name y p)).bind λc=>if fF then none else some (.ret c)
  |none=>(cE n g Γ (.Name y p)).bind λc=>if fF then none else some (.ret c)
 |e=>(cE n g Γ e).bind λc=>if !fF||fresh g.fr c then some (.ret c) else none
def FZ(Γ:Gm)(it:Expr)(b:List Stmt):Option (Nat×Expr):=(Ja it).bind λx=>match b with
 |[s]=>match s with
  |.Assign ts e _=>match ts with
   |[t]=>(slot Γ x.1).bind λi=>if gi Γ i&& !lV e then(kn Γ t).map λj=>(j,e) else none
   |_=>none
  |_=>none
 |_=>none
theorem Co{Γ:Gm}{it e:Expr}{b:List Stmt}{j:Nat}(h:FZ Γ it b=some (j,e)):∃y yp p2,gY Γ y=some j/\plainS Γ j=true/\lV e=false/\b=[.Assign [.Name y yp] e p2]:=by
 unfold FZ at h;obtain⟨x,_,h⟩:=Tw.mp h;split at h<;>(try cases h);split at h<;>(try cases h);rename_i ts e' p2;split at h<;>(try cases h);obtain⟨i,h1,h2⟩:=Tw.mp h;split at h2
 ·rename_i hc;obtain⟨j',h3,h4⟩:=T5.mp h2;cases h4;obtain⟨z,zp,ez,k1,k2⟩:=eI h3;cases ez;rw[TC]at hc;exact⟨z,zp,_,k1,k2,by simpa using hc.2,rfl⟩
 ·cases h2
mutual
noncomputable def cS:Nat->G->Gm->Bool->Bool->Stmt->Option T
 |0,_,_,_,_,_=>none
 |n+1,g,Γ,dp,fF,st=>match st with
  |.Assign tgs e _=>match tgs with
   |[.Name x _]=>(gY Γ x).bind λi=>
     if Γ.δ==some i then none
     else if gi Γ i then(if Γ.κ==some i then none else(cE n g Γ e).bind λc=>if fresh g.fr c then some (.asgM i c) else none)
     else FE n g Γ i e
   |[.Tuple es _ _]=>if Gk e then(if K8 es e then(match e with|.Tuple vs _ _=>(dN Γ es).bind λis=>(yl n g Γ vs).bind λcs=>some (.asgT is (.tup cs))|_=>none) else none) else(dN Γ es).bind λis=>(cE n g Γ e).bind λc=>some (.asgT is c)
   |[.Subscript (.Name x _) k _]=>(slot Γ x).bind λi=>if gi Γ i then(cE n g Γ e).bind λv'=>(cE n g Γ k).bind λk'=>if Γ.κ==some i then none else some (.ya i k' v') else none
   |_=>none
  |.Expr ex _=>match ex with
   |.Call (.Attribute (.Name x _) m ap) [a] [] cp=>(slot Γ x).bind λi=>if gi Γ i&&ap.endLine==cp.line then(cE n g Γ a).bind λa'=>
     (if m==("append":Str) then some (.app i a') else none) else none
   |.Call (.Attribute (.Name x _) m ap) [] [] cp=>(slot Γ x).bind λi=>if gi Γ i&&ap.endLine==cp.line&&m==("clear":Str) then some (.clr i) else none
   |e=>if lV e then none else(cE n g Γ e).bind λc=>some (.FP c)
  |.Return (some e) _=>FG n g Γ fF e
  |.Return none _=>some .retN
  |.If t a b _=>(cE n g Γ t).bind λt'=>(Eo n g Γ dp fF a).bind λa'=>(Eo n g Γ dp fF b).bind λb'=>some (.ifs t' a' b')
  |.For tg it b els _=>match els with
   |[]=>(cI n g Γ tg it).bind λkF=>(oO Γ tg).bind λk9=>match FZ Γ it b with
    |some (j,e)=>(cE n g Γ e).bind λc=>some (.frq k9 kF j c)
    |none=>(Eo n g Γ dp fF b).bind λb'=>some (.fr k9 kF b')
   |_=>none
  |.While t b els _=>match els with
   |[]=>(cE n g Γ t).bind λt'=>(Eo n g Γ dp fF b).bind λb'=>some (.wh t' b')
   |_=>none
  |.Raise _ _ _=>some (.rs 0 [])
  |.Break _=>some .brk
  |.Continue _=>some .cnt
  |.Pass _=>some .pas
  |_=>none
noncomputable def Eo:Nat->G->Gm->Bool->Bool->List Stmt->Option Ts
 |0,_,_,_,_,_=>none
 |n+1,g,Γ,dp,fF,qf=>match qf with
  |[]=>some .nil
  |st::qf=>(cS n g Γ dp fF st).bind λt=>(Eo n g Γ dp fF qf).bind λts=>some (.cons t ts)
end
section
variable{g:G}{xv:Nat->Value}{CX:nv}{k:Nat}{F:FT}{X:Cx}{Φ:Fm}{Γ:Gm}{W:Addr->Prop}
theorem mO{e:Expr}(h:lV e=false)(t:Option Expr)(l:Nat)(env:Env):swapsWith e t l env=pure false:=by cases e<;>first|rfl|(cases h)
theorem j3{e:Expr}{t:Expr}(ht:∀x p,t≠ .Name x p)(l:Nat)(env:Env):swapsWith e (some t) l env=pure false:=by cases e<;>first|rfl|(cases t<;>first|rfl|exact absurd rfl (ht _ _))
theorem qH{n:Nat}{elt:Expr}{gens:List Comprehension}{sc:Scope}{gC:Pos}{c:C}(h:cE (n+1) g Γ (.ListComp elt gens sc gC)=some c):sc.kind= .function/\yT sc.names Γ.names (aY Γ sc).1.N Γ.N (aY Γ sc).2=true/\(aY Γ sc).1.N.Nodup/\
  ((∃tg it ifs kF k9 ql e',gens=[⟨tg,it,ifs,0⟩]/\cI n g Γ tg it=some kF/\oO (aY Γ sc).1 tg=some k9/\Cg n g (aY Γ sc).1 ifs=some ql/\cE n g (aY Γ sc).1 elt=some e'/\c= .comp (aY Γ sc).2 kF k9 ql e')\/
   (∃tg it ifs i5 gr cY kF k9 ql qT mS sr e',gens=[⟨tg,it,ifs,0⟩,⟨i5,gr,cY,0⟩]/\cI n g Γ tg it=some kF/\oO (aY Γ sc).1 tg=some k9/\Cg n g (aY Γ sc).1 ifs=some ql/\cI n g (aY Γ sc).1 i5 gr=some qT/\oO (aY Γ sc).1 i5=some mS/\Cg n g (aY Γ sc).1 cY=some sr/\cE n g (aY Γ sc).1 elt=some e'/\
   (∀i∈aT mS,i∉aT k9)/\c= .gw (aY Γ sc).2 kF k9 ql qT mS sr e')):=by
 unfold cE at h;simp only at h;split at h
 ·rename_i hk;split at h
  ·rename_i tg it ifs;obtain⟨kF,h1,h⟩:=Tw.mp h;obtain⟨k9,h2,h⟩:=Tw.mp h;obtain⟨ql,h3,h⟩:=Tw.mp h;obtain⟨e',h4,h⟩:=Tw.mp h;split at h
   ·rename_i hb;cases h;rw[TC]at hb;exact⟨Ud hk,hb.1,TH hb.2,.inl ⟨tg,it,ifs,kF,k9,ql,e',rfl,h1,h2,h3,h4,rfl⟩⟩
   ·cases h
  ·rename_i tg it ifs i5 gr cY;obtain⟨kF,h1,h⟩:=Tw.mp h;obtain⟨k9,h2,h⟩:=Tw.mp h;obtain⟨ql,h3,h⟩:=Tw.mp h;obtain⟨qT,h5,h⟩:=Tw.mp h;obtain⟨mS,h6,h⟩:=Tw.mp h;obtain⟨sr,h7,h⟩:=Tw.mp h;obtain⟨e',h4,h⟩:=Tw.mp h;split at h
   ·rename_i hb;cases h;rw[TC,TC]at hb;refine⟨Ud hk,hb.1.1,TH hb.1.2,.inr ⟨tg,it,ifs,i5,gr,cY,kF,k9,ql,qT,mS,sr,e',rfl,h1,h2,h3,h5,h6,h7,h4,λi hi z=>?_,rfl⟩⟩;have:=Ut.mp hb.2 i hi;simp[z]at this
   ·cases h
  ·cases h
 ·cases h
theorem jv{n i:Nat}{x:Str}{e:Expr}{c:C}{pos' pos:Pos}(gx:GX g Γ X)(hX:HX g xv CX k F Φ X)(hs:gY Γ x=some i)(h:cE n g Γ e=some c):PS X (.Assign [.Name x pos'] e pos) (nq (cw Φ Γ F g.fr c) (eR i)):=by
 have S:=jA (F:=F) n Γ X Φ gx hX;obtain⟨a1,a2,a3⟩:=fE hs;obtain⟨l1,l2⟩:=gx.loc x a1;have hN:X.N.Nodup:=gx.N▸gx.nd;have hi:X.N[i]?=some x:=by rw[gx.N];exact a3
 by_cases hc:lV e=true
 ·cases n with
  |zero=>simp[cE]at h
  |succ n=>
   cases e with
   |ListComp elt gens sc gC=>
    have RB:=(S.e _ _ h).1;obtain⟨hk,hb,kf,J8⟩:=qH h;cases BK:(X.env.blockKind== .function&&X.env.kindOf x==some .local&&pos'.line==(Expr.ListComp elt gens sc gC).pos.line&& !(sc.names.any λ(n,k)=>n==x&&(k== .local||k== .cell))) with
    |false=>exact uw hN hi l1 RB (by show pure (X.env.blockKind== .function&&X.env.kindOf x==some .local&&pos'.line==(Expr.ListComp elt gens sc gC).pos.line&& !(sc.names.any λ(n,k)=>n==x&&(k== .local||k== .cell)))=_;rw[BK]) l2
    |true=>
     have hl:X.env.kindOf x=some .local:=by rw[TC,TC,TC]at BK;exact Ud BK.1.1.2
     have B:=tj gx hk hb;have S1:=jA (F:=F) n Γ X Φ gx hX;have J:=λC s H fp=>jA (F:=F) n (aY Γ sc).1 (iA X sc (aY Γ sc).1.N C s H fp (yt X sc (aY Γ sc).1.N (ny Φ xv) C s H fp)) Φ (fM gx B kf) (tY hX)
     rcases J8 with ⟨tg,it,ifs,kF,k9,ql,e',rfl,h1,h2,h3,h4,rfl⟩|⟨tg,it,ifs,i5,gr,cY,kF,k9,ql,qT,mS,sr,e',rfl,h1,h2,h3,h5,h6,h7,h4,Ke,rfl⟩
     ·refine bt (ko (xb:=yt X sc (aY Γ sc).1.N (ny Φ xv)) (body:=λacc env=>iM elt acc env) (i:=i) gx.calm hN hi hl B (lj hX.st hX.xgx) (S1.i _ _ _ h1).1 (λqv acc env=>sv ..) (λC s H fp=>rY (fM gx B kf) h2) (λC s H fp=>(J C s H fp).ts _ _ h3) (λC s H fp D=>kU ((J C s H fp).e _ _ h4).1) (gH (S1.i _ _ _ h1).2 _) ?_) λD σ H q=>AY hX.K B kf h2 q
      show pure (X.env.blockKind== .function&&X.env.kindOf x==some .local&&pos'.line==(Expr.ListComp elt [⟨tg,it,ifs,0⟩] sc gC).pos.line&& !(sc.names.any λ(n,k)=>n==x&&(k== .local||k== .cell)))=_;rw[BK]
     ·refine bt (ko (xb:=yt X sc (aY Γ sc).1.N (ny Φ xv)) (body:=λacc env=>nextOf (.ListComp elt [⟨tg,it,ifs,0⟩,⟨i5,gr,cY,0⟩] sc gC) 1 gr acc env) (i:=i) gx.calm hN hi hl B (lj hX.st hX.xgx) (S1.i _ _ _ h1).1 (λqv acc env=>sC ..) (λC s H fp=>rY (fM gx B kf) h2) (λC s H fp=>(J C s H fp).ts _ _ h3)
       (λC s H fp D=>vW gx.calm (vV hX.st) ((J C s H fp).i _ _ _ h5).1 (rY (fM gx B kf) h6) ((J C s H fp).ts _ _ h7) (kU ((J C s H fp).e _ _ h4).1) (gH ((J C s H fp).i _ _ _ h5).2 _)) (gH (S1.i _ _ _ h1).2 _) ?_) λD σ H q=>wx hX.K B kf h2 h6 Ke q
      show pure (X.env.blockKind== .function&&X.env.kindOf x==some .local&&pos'.line==(Expr.ListComp elt [⟨tg,it,ifs,0⟩,⟨i5,gr,cY,0⟩] sc gC).pos.line&& !(sc.names.any λ(n,k)=>n==x&&(k== .local||k== .cell)))=_;rw[BK]
   |SetComp=>cases n<;>cases h
   |DictComp=>cases n<;>cases h
   |_=>cases hc
 ·exact uw hN hi l1 (S.e _ _ h).1 (mO ‹hc› _ _ _) l2
structure Ni(g:G)(F:FT)(n:Nat)(Γ:Gm)(X:Cx)(Φ:Fm)(W:Addr->Prop)(dp fF:Bool):Prop where
 s:∀st t,cS n g Γ dp fF st=some t->PS X st (j4 Φ Γ F W fF t)
 ss:∀qf ts,Eo n g Γ dp fF qf=some ts->sT X qf (j5 Φ Γ F W fF ts)
theorem qo{x:Str}{i:Nat}{p:Pos}(gx:GX g Γ X)(h:slot Γ x=some i):PE X (.Name x p) (qh i):=by obtain⟨v1,v2,v3⟩:=wz h;obtain⟨n1,n2,n3⟩:=fy v2;exact Az (by rw[gx.N];exact v3) (gx.vis x v1) n1 n2
theorem Fq{n i:Nat}{x:Str}{e:Expr}{t:T}{pos' pos:Pos}{fF:Bool}(gx:GX g Γ X)(hX:HX g xv CX k F Φ X)(hs:gY Γ x=some i)(hp:plainS Γ i=true)(h:FE n g Γ i e=some t):PS X (.Assign [.Name x pos'] e pos) (j4 Φ Γ F W fF t):=by
 have HH:∀{e:Expr}{t:T},((cE n g Γ e).bind λc=>some (T.asg i c))=some t->PS X (.Assign [.Name x pos'] e pos) (j4 Φ Γ F W fF t):=λ {e t} h=>by obtain⟨c,h1,h⟩:=Tw.mp h;cases h;exact E9 hp (jv gx hX hs h1)
 unfold FE at h;split at h
 ·rename_i y p;split at h
  ·rename_i j hj;split at h
   ·cases h
   ·exact HH h
  ·exact HH h
 ·obtain⟨c,h1,h⟩:=Tw.mp h;cases h;split
  ·rename_i hf;rw[TC]at hf;exact Iz hp hf.1 (jv gx hX hs h1)
  ·exact E9 hp (jv gx hX hs h1)
theorem HJ{n:Nat}{e:Expr}{t:T}{pos:Pos}{fF:Bool}(gx:GX g Γ X)(hX:HX g xv CX k F Φ X)(h:FG n g Γ fF e=some t):PS X (.Return (some e) pos) (j4 Φ Γ F W fF t):=by
 have S:=jA (F:=F) n Γ X Φ gx hX;have plain:∀{e:Expr}{t:T},((cE n g Γ e).bind λc=>if fF then none else some (T.ret c))=some t->PS X (.Return (some e) pos) (j4 Φ Γ F W fF t):=λ {e t} h=>by
  obtain⟨c,h1,h⟩:=Tw.mp h;split at h
  ·cases h
  ·rename_i hf;cases h;exact Fb (λz=>absurd z hf) (uv (S.e _ _ h1).1)
 unfold FG at h;split at h
 ·rename_i y p;split at h
  ·rename_i j hj;split at h
   ·rename_i hm;split at h
    ·cases h
    ·rename_i hk;cases h;exact IC hm (λz=>hk (by simp[z])) (uv (qo gx hj))
   ·exact plain h
  ·exact plain h
 ·obtain⟨c,h1,h⟩:=Tw.mp h;split at h
  ·rename_i hf;cases h;refine Fb (λz=>?_) (uv (S.e _ _ h1).1);rw[z]at hf;simpa using hf
  ·cases h
theorem A5{dp fF:Bool}(n:Nat):∀(Γ:Gm)(X:Cx)(Φ:Fm),GX g Γ X->HX g xv CX k F Φ X->(dp=false->Φ.d0=none)->PassesOwn (model X.prog X.w) X.A X.env X.xe->Ni g F n Γ X Φ W dp fF:=by
 induction n with
 |zero=>intro Γ X Φ gx hX hd ho;exact⟨λst t h=>by simp[cS]at h,λst t h=>by simp[Eo]at h⟩
 |succ n ih=>
  intro Γ X Φ gx hX hd ho;have I:=ih Γ X Φ gx hX hd ho;have S:=jA (F:=F) n Γ X Φ gx hX;have hK:=hX.K;refine⟨λst t h=>?_,λqf ts h=>?_⟩
  ·unfold cS at h;split at h
   ·split at h
    ·rename_i e pos x xp;obtain⟨i,hs,h⟩:=Tw.mp h;split at h
     ·cases h
     ·rename_i hδ;have hδ':Γ.δ≠some i:=λz=>hδ (by rw[z];exact WU _)
      split at h
      ·rename_i hm;split at h
       ·cases h
       obtain⟨c,h1,h⟩:=Tw.mp h;split at h
       ·rename_i hf;cases h;exact Iy hm hδ' hf (jv gx hX hs h1)
       ·cases h
      ·rename_i hm;refine Fq gx hX hs ?_ h;unfold plainS;rw[TC];exact⟨by simpa using hm,by simpa using hδ'⟩
    ·rename_i e pos tg0 es kk tp;split at h
     ·split at h
      ·rename_i hpar;split at h
       ·rename_i vs k2 p2 _;obtain⟨is,h1,h⟩:=Tw.mp h;obtain⟨cs,h2,h⟩:=Tw.mp h;cases h;obtain⟨x,px,y,py,z,pz,b,ea,eb,MO⟩:=Dm hpar;subst ea eb;rw[TC]at MO;have CI:oO Γ (.Tuple [.Name x px,.Name y py] kk tp)=some (.tp is):=by rw[oO,h1];rfl
        have BG:=S.es _ _ h2;have BK:swapsWithSole [Expr.Tuple [.Name x px,.Name y py] kk tp] (.Tuple [.Name z pz,b] k2 p2) pos.line X.env=pure false:=j3 (e:=.Tuple [.Name z pz,b] k2 p2) (t:=Expr.Tuple [.Name x px,.Name y py] kk tp) (λx p z=>by cases z) pos.line X.env;have hb:∀v p,b≠ .Starred v p:=λv p z=>by have:=BG.2.2 b ∅;rw[z]at this;cases this
        rcases Ik (px:=px) (py:=py) (tp:=tp) (p2:=p2) (kk:=kk) (k2:=k2) X.env ‹MO.1› hb ‹MO.2›with hw|⟨hw,hx,hy⟩
        ·exact Br hK (λi hi=>(dD CI i hi).1) (uu (E1 (fr:=g.fr) BG.1) (E0 gx h1) BK hw)
        ·obtain⟨i,j,j1,j2,e0⟩:=KM h1;subst e0;obtain⟨x',p',e1,s1,q1⟩:=eI j1;obtain⟨y',Tr,e2,s2,q2⟩:=eI j2;cases e1;cases e2;obtain⟨_,_,a3⟩:=fE s1;obtain⟨_,_,b3⟩:=fE s2;refine Mg q1 q2 (Hy gx.calm (gx.N▸gx.nd) (by rw[gx.N];exact a3) (by rw[gx.N];exact b3) (λe=>?_) hx hy BG.1 hw BK);subst e;rw[a3]at b3;cases b3;simp at MO
       ·cases h
      ·cases h
     ·rename_i hdisp;obtain⟨is,h1,h⟩:=Tw.mp h;obtain⟨c,h2,h⟩:=Tw.mp h;cases h;have CI:oO Γ (.Tuple es kk tp)=some (.tp is):=by rw[oO,h1];rfl
      refine Br hK (λi hi=>(dD CI i hi).1) (uu (S.e _ _ h2).1 (E0 gx h1) (show swapsWithSole [Expr.Tuple es kk tp] e pos.line X.env=pure false from j3 (e:=e) (t:=Expr.Tuple es kk tp) (λx p z=>by cases z) pos.line X.env) ?_);cases e<;>first|rfl|(exact absurd rfl hdisp)
    ·rename_i v pos tg0 x xp kx sp;obtain⟨i,hs,h⟩:=Tw.mp h;split at h
     ·rename_i hm;obtain⟨v',h1,h⟩:=Tw.mp h;obtain⟨k',h2,h⟩:=Tw.mp h;have RT:=(S.e _ _ h2).2.2;split at h
      ·cases h
      ·cases h;refine IE hm (uu (S.e _ _ h1).1 (Hs (qo gx hs) (S.e _ _ h2).1 set_list (by intro _;cases kx<;>first|rfl|(cases RT))) (show swapsWithSole [Expr.Subscript (Expr.Name x xp) kx sp] v pos.line X.env=pure false from j3 (e:=v) (t:=Expr.Subscript (Expr.Name x xp) kx sp) (λx p z=>by cases z) pos.line X.env) ?_);cases v<;>rfl
     ·cases h
    ·cases h
   ·split at h
    ·rename_i pos x xp m ap a cp;obtain⟨i,hs,h⟩:=Tw.mp h;split at h
     ·rename_i hm;rw[TC]at hm;obtain⟨a',h1,h9⟩:=Tw.mp h;clear h;have nS:=cX (S.e _ _ h1).2.2 [] X.env;split at h9
      ·rename_i hma;have em:=Ud hma;subst em;cases h9;exact L8 hm.1 (pU (La PySem.F.plainAttrs_list PySem.F.slot_list_append PySem.F.type_list_append og (qo gx hs) (d5 (S.e _ _ h1).1 jV nS) rfl (by rw[nS];rfl) hm.2 nS rfl))
      ·cases h9
     ·cases h
    ·rename_i pos x xp m ap cp;obtain⟨i,hs,h9⟩:=Tw.mp h;clear h;split at h9
     ·rename_i hm;rw[TC,TC]at hm;have em:=Ud hm.2;subst em;cases h9;exact Ma hm.1.1 (pU (Hj PySem.F.plainAttrs_list PySem.F.slot_list_clear PySem.F.type_list_clear Ap (qo gx hs) rfl hm.1.2))
     ·cases h9
    ·split at h
     ·cases h
     ·rename_i hc;obtain⟨c,h1,h⟩:=Tw.mp h;cases h;exact Mc (pU (S.e _ _ h1).1 (mO ‹hc› _ _ _))
   ·exact HJ gx hX h
   ·cases h;exact ID DA
   ·obtain⟨t',h1,h⟩:=Tw.mp h;obtain⟨a',h2,h⟩:=Tw.mp h;obtain⟨b',h3,h⟩:=Tw.mp h;cases h;exact Mf (Lh (S.e _ _ h1).2.1 (I.ss _ _ h2) (I.ss _ _ h3))
   ·split at h
    ·obtain⟨kF,h1,h⟩:=Tw.mp h;obtain⟨k9,h2,h⟩:=Tw.mp h;split at h
     ·rename_i j e hfq;obtain⟨c,h3,h⟩:=Tw.mp h;cases h;obtain⟨y,yp,p2,s1,q1,hc,eb⟩:=Co hfq;subst eb;obtain⟨a1,a2,a3⟩:=fE s1;obtain⟨l3,l4⟩:=gx.loc y a1;exact Me hK (λi hi=>(dD h2 i hi).1) q1 (AG ho gx.calm (S.i _ _ _ h1).1 (rY gx h2) (DD (uw (gx.N▸gx.nd) (by rw[gx.N];exact a3) l3 (S.e _ _ h3).1 (mO hc _ _ _) l4)) (gH (S.i _ _ _ h1).2 _))
     obtain⟨b',h3,h⟩:=Tw.mp h;cases h;exact Md hK (λi hi=>(dD h2 i hi).1) (AG ho gx.calm (S.i _ _ _ h1).1 (rY gx h2) (I.ss _ _ h3) (gH (S.i _ _ _ h1).2 _))
    ·cases h
   ·split at h
    ·obtain⟨t',h1,h⟩:=Tw.mp h;obtain⟨b',h3,h⟩:=Tw.mp h;cases h;exact PC (AH ho (S.e _ _ h1).2.1 (I.ss _ _ h3))
    ·cases h
   ·cases h;exact λpins s σ H D I q=>by obtain⟨o,ρ,S,oi,er,m⟩:=q;exact False.elim m
   ·cases h;exact L9 AF
   ·cases h;exact Mb rJ
   ·cases h;exact IA Dz
   ·cases h
  ·unfold Eo at h;split at h
   ·cases h;exact Bw
   ·obtain⟨t,h1,h⟩:=Tw.mp h;obtain⟨ql,h2,h⟩:=Tw.mp h;cases h;exact Ec (I.s _ _ h1) (I.ss _ _ h2)
end
def FF(n:Nat)(g:G)(Γ:Gm)(dp fF:Bool):List Stmt->Option Ts
 |[]=>some .nil
 |st::qf=>(cS n g Γ dp fF st).bind λt=>(FF n g Γ dp fF qf).bind λts=>some (.cons t ts)
section
variable{g:G}{xv:Nat->Value}{CX:nv}{k:Nat}{F:FT}{X:Cx}{Φ:Fm}{Γ:Gm}{W:Addr->Prop}
theorem GX.eQ{Γ:Gm}{X:Cx}{E:Value->Shared->Prop}(gx:GX g Γ X):GX g Γ (X.eQ E):=⟨gx.N,gx.nd,gx.vis,gx.loc,gx.gl,gx.fre,gx.calm,gx.un,gx.con,gx.bl⟩
theorem mU{X:Cx}{E:Value->Shared->Prop}{E':XK}{e:Value}{s':Shared}(h:oH (X.eQ E) E' e s'):oH X E' e s':=by cases h
theorem Bu{X:Cx}{E:Value->Shared->Prop}{E':XK}{e:Value}{s':Shared}(h:oH X E' e s'):oH (X.eQ E) E' e s':=by cases h
theorem Bv{st:Stmt}{qf:List Stmt}{t:T}{ts:Ts}{fF:Bool}(h1:Nh X st (j4 Φ Γ F W fF t))(h2:oE X qf (j5 Φ Γ F W fF ts)):oE X (st::qf) (j5 Φ Γ F W fF (.cons t ts)):=λs σ H D I q=>xR h1 h2 s σ H D I (by
 obtain⟨o,ρ,S,oi,er,q⟩:=q;rw[bN]at q;rw[ae]at q;refine⟨o,ρ,S,oi,er,ag q λp _ q=>?_⟩;unfold bC;cases hp:p.1 with
 |next=>rw[hp]at q;intro σ1 H1 so;obtain⟨⟨o1,OL,aA,NS⟩,e1,a1⟩:=so;exact⟨o1,p.2.1,p.2.2,OL,aA,ag q λp2 _ q=>bC.go e1 NS a1 (λ_ _ z=>z) (λ_ _ z=>z) (λ_ _ z=>z) (λ_ _ z=>z) q⟩
 |brk=>rw[hp]at q;unfold mR bC at q;exact q
 |cnt=>rw[hp]at q;unfold mR bC at q;exact q
 |ret d=>rw[hp]at q;unfold mR bC at q;exact q)
theorem yP{dp fF:Bool}{n:Nat}(Oe:X.env.scope.names=Γ.names)(gx:GX g Γ X)(hX:HX g xv CX k F Φ X)(hd:dp=false->Φ.d0=none)(own:PassesOwn (model X.prog X.w) X.A X.env X.xe):∀{qf:List Stmt}{ts:Ts},FF n g Γ dp fF qf=some ts->oE X qf (j5 Φ Γ F W fF ts)
 |[],ts,h=>by cases h;exact DB Bw
 |st::qf,ts,h=>by obtain⟨t,h1,h⟩:=Tw.mp h;obtain⟨ql,h2,h⟩:=Tw.mp h;cases h;refine Bv ?_ (yP Oe gx hX hd own h2);exact Hx ((A5 (dp:=dp) (fF:=fF) (W:=W) n Γ X Φ gx hX hd own).s _ _ h1)
theorem rK{X:Cx}{E:Value->Shared->Prop}{st:List Stmt}{t:TS}(h:oE (X.eQ E) st t)(hx:∀e s',E e s'->X.xe e s'):oE X st t:=λs σ H D I hw=>
 Xg (h s σ H D (I.eQ _) hw) (λ_ _ q=>q.g6) λe s' z=>hx e s' z
end
section
variable{P:Program}{w:World}{K:Frag}{mg:Str->Option Value}{base:Heap}{g:G}{xv:Nat->Value}{F:FT}{k:Nat}
structure MG(g:G)(mg:Str->Option Value):Prop where
 con:∀x d,g.cons.lookup x=some d->∃u,qw d=true/\mg x=some u/\RelV (p6 d) u
 bl:∀x∈g.bls,mg x=none
def XG(g:G)(K:Frag)(mg:Str->Option Value)(xv:Nat->Value):Prop:=∀k x ts,g.xs[k]?=some (x,ts)->∃C,xv k= .ref C/\mg x=some (.ref C)/\Nl K mg C ts
def xX(bo:Bool)(args:List Dt)(n ps:Nat):ai:=(if bo then[none] else[])++args.map some++List.replicate (n-ps) none
theorem mJ{bo:Bool}{args:List Dt}{n ps i:Nat}{d:Dt}(h:(xX bo args n ps)[i]?=some (some d)):∃j,args[j]?=some d/\i=j+(if bo then 1 else 0):=by
 unfold xX at h;have tail:∀{i:Nat},(args.map some++List.replicate (n-ps) (none:Option Dt))[i]?=some (some d)->args[i]?=some d:=λ {i} h=>by
  by_cases hi:i<args.length
  ·rw[Uz ‹hi›,T9]at h;cases e:args[i]? with
   |none=>rw[e]at h;cases h
   |some a=>rw[e]at h;cases h;rfl
  ·rw[UA ‹hi›,VD]at h;split at h<;>cases h
 cases bo with
 |false=>simp only[UO,WY,V4]at h;exact⟨i,tail h,rfl⟩
 |true=>
  simp only[W1,T4]at h;cases i with
  |zero=>cases h
  |succ i=>have h:(args.map some++List.replicate (n-ps) (none:Option Dt))[i]?=some (some d):=h;exact⟨i,tail h,rfl⟩
theorem ot{N:List Str}{vs:List V}{i:Nat}{v:V}(h:vs[i]?=some v):(start N vs)[i]?=some (some v):=by unfold L2.start;have hi:=(TJ.mp h).1;rw[Uz ‹hi›,T9,h];rfl
theorem zm{M:List Bool}{δ:Option Nat}{names:List (Str×NameKind)}{N:List Str}{np:Nat}{bo:Bool}{vs Bm:List V}{H:Hp}{W:Addr->Prop}{dr:Option Addr}{args:List Dt}{S:Sx}{Ek:Nat->Prop}{κ:Option Nat}{P:Program}{w:World}
  (hM:∀i,i<np->M[i]?≠some true) (hδ:bo=true->δ=some 0) (Tc:np<=N.length) (hl:vs.length=np)
  (hd:if bo=true then∃(a:Addr)(ns:List Int),vs= .ref a::Bm/\dr=some a/\W a/\S=some ns/\H a=some (.lst (ns.map V.int)) else vs=Bm/\dr=none/\S=none)
  (ha:ao K W H Bm args) (hw:∀a,W a->∃x,H a=some x):ER ⟨K,H,dr,Ek,P,w⟩ ⟨names,N,M,δ,κ⟩ ⟨W,W,dr⟩ (xX bo args N.length np) S (start N vs) H/\args.length+(if bo then 1 else 0)=np:=by
 have vz:=ha.length;have J3:args.length+(if bo then 1 else 0)=np:=by
  cases bo with
  |false=>
   simp only[UO,WY]at hd ⊢;obtain⟨e,_,_⟩:=hd;subst e
   lia
  |true=>
   simp only[W1]at hd ⊢;obtain⟨a,ns,e,_⟩:=hd;rw[e]at hl;simp at hl
   lia
 refine⟨⟨?_,λa z=>z,λa z=>?_,hw,λi d h=>?_,λi ks vs h=>?_,λi j a d e hm hm' h1 h2 _ _=>?_,λa z=>?_,λz=>?_,λi a hi z=>?_,λa z=>.inl z,aU.refl⟩,J3⟩
 ·unfold L2.start xX;simp only[T6,TU,VO];cases bo<;>simp at J3 ⊢<;>lia
 ·cases bo with
  |false=>simp only[UO,WY]at hd;rw[hd.2.1]at z;cases z
  |true=>simp only[W1]at hd;obtain⟨b,ns,_,e,hb,_⟩:=hd;rw[e]at z;cases z;exact hb
 ·obtain⟨j,hj,rfl⟩:=mJ h;obtain⟨v,h1,h2⟩:=ha.getD hj;have RQ:=(TJ.mp hj).1;have hm:gi ⟨names,N,M,δ,κ⟩ (j+if bo=true then 1 else 0)=false:=by unfold gi;have:=hM (j+if bo=true then 1 else 0) ();simpa using this
  refine⟨v,ot ?_,?_⟩
  ·cases bo with
   |false=>simp only[UO,WY]at hd ⊢;rw[hd.1];exact h1
   |true=>simp only[W1]at hd ⊢;obtain⟨b,ns,e,_⟩:=hd;rw[e];simpa using h1
  ·rw[hm,WZ ∅];exact h2
 ·obtain⟨j,hj,rfl⟩:=mJ h;obtain⟨v,h1,h2⟩:=ha.getD hj;cases h2.nd
 ·obtain⟨j1,hj,rfl⟩:=mJ h1;have RQ:=(TJ.mp hj).1;exfalso;unfold gi at hm;exact hM (j1+if bo=true then 1 else 0) () (Ud hm)
 ·cases bo with
  |false=>simp only[UO,WY]at hd;rw[hd.2.1]at z;cases z
  |true=>simp only[W1]at hd;obtain⟨b,ns,_,e,_,e2,e3⟩:=hd;rw[e]at z;cases z;exact⟨ns,e2,e3⟩
 ·cases bo with
  |false=>simp only[UO,WY]at hd;exact hd.2.2
  |true=>simp only[W1]at hd;obtain⟨b,ns,_,e,_⟩:=hd;rw[e]at z;cases z
 ·cases bo with
  |false=>simp only[UO,WY]at hd;rw[hd.2.1]at z;cases z
  |true=>simp only[W1]at hd;obtain⟨b,ns,e1,e,_⟩:=hd;rw[e]at z;cases z;have hi:δ=some i:=hi;rw[hδ rfl]at hi;cases hi;exact ot (by rw[e1];rfl)
theorem JU{CX:nv}{N ps:List Str}{sc:Scope}{M:List Bool}{δ κ:Option Nat}{qual:Str}{f:Addr}{gk:Value}{A:Around}{outer:List Env}{s:Shared}{H:Hp}{E:XK}(m:MG g mg)(S:fI N ps sc)(hr:i7 k (A.deeper (envOfC qual sc s.heap.objs.size f gk))):
  GX g ⟨sc.names,N,M,δ,κ⟩ (qJ CX P w K mg base N qual sc f gk A outer s H E) where
 N:=rfl
 nd:=S.nd
 vis:=λx h=>by
  have h:Bl (sc.names.lookup x)=true:=h;show Jl sc x;unfold Jl;cases hl:sc.names.lookup x with
  |none=>rw[hl]at h;cases h
  |some kk=>
   rw[hl]at h;cases kk with
   |«local»=>exact .inl rfl
   |cell=>exact .inr (.inl rfl)
   |free=>exact .inr (.inr rfl)
   |globalExplicit=>cases h
   |globalImplicit=>cases h
 loc:=λx h=>by
  have h:Al (sc.names.lookup x)=true:=h;refine⟨?_,.inl rfl⟩;show L2.Loc sc x;unfold L2.Loc;cases hl:sc.names.lookup x with
  |none=>rw[hl]at h;cases h
  |some kk=>
   rw[hl]at h;cases kk with
   |«local»=>exact .inl rfl
   |cell=>exact .inr rfl
   |free=>cases h
   |globalExplicit=>cases h
   |globalImplicit=>cases h
 gl:=λx h=>by
  have h:EC (sc.names.lookup x)=true:=h;show sc.names.lookup x=_;cases hl:sc.names.lookup x with
  |none=>rw[hl]at h;cases h
  |some kk=>
   rw[hl]at h;cases kk with
   |globalImplicit=>rfl
   |«local»=>cases h
   |cell=>cases h
   |free=>cases h
   |globalExplicit=>cases h
 fre:=λx h=>h
 calm:=rfl
 un:=by have:=hr.un;show (A.deeper (envOfC qual sc s.heap.objs.size f gk)).units+150<cLine;lia
 con:=m.con
 bl:=m.bl
theorem nN{name qual:Str}{params:Arguments}{body:List Stmt}{scope:Scope}{dV kV doc pm gk ct oc:Value}{an od:Option Addr}{vU:Array (Option Value)}{f:Addr}{N ps:List Str}{M:List Bool}{δ κ:Option Nat}{bo fF:Bool}{n m:Nat}{ts:Ts}
  (lk:K.lookup f=some ⟨oc,od,.func (PySem.W.fnOf name qual params body scope dV kV doc pm an gk ct),vU⟩) (BE:PySem.W.codeIn K gk qual=true) (S:fI N ps scope) (hm:MG g mg) (CK:XG g K mg xv) (fx:FX g xv (yj P w) P w K mg base m k F)
  (hM:∀i,i<ps.length->M[i]?≠some true) (hδ:bo=true->δ=some 0) (hc:FF n g ⟨scope.names,N,M,δ,κ⟩ bo fF body=some ts):
  jF P w K mg base (yj P w) (k+1) f (PySem.W.fnOf name qual params body scope dV kV doc pm an gk ct) ps (QH K xv (iJ F ⟨ps.length,N.length,bo,ts⟩) ps.length fF bo):=by
 have sP:ps.length<=N.length:=by have:=WW List.length S.pre;rw[VR]at this;lia
 refine FW lk BE S (λvs H Q E h=>h.1) λA outer s H vs Q E hr h=>?_
 obtain⟨hl,W,dr,args,S0,Bm,hd,ha,hw,h⟩:=h;have er:=zm (K:=K) (names:=scope.names) (N:=N) (κ:=κ) (P:=P) (w:=w) (Ek:=λkk=>∀H',aU (λb=>dr=some b) H H'->E (xv kk) none H') hM hδ sP hl hd ha hw;obtain⟨er,ym⟩:=er;generalize hXX:qJ (yj P w) P w K mg base N qual scope f gk A outer s H E=X;generalize hΦ:(⟨K,H,dr,λkk=>∀H',aU (λb=>dr=some b) H H'->E (xv kk) none H',P,w⟩:Fm)=Φ at er;have hΦE:∀v a H',ny Φ xv v a H'->E v none H':=λv a H' z=>by obtain⟨kk,rfl,z1,z2⟩:=z;subst hΦ;exact z1 H' z2
 have SL:∀e s',oH X (ny Φ xv) e s'->X.xe e s':=λe s' z=>by subst hXX;cases z
 have st:i9 X:=by subst hXX;exact Ii
 have gx:GX g ⟨scope.names,N,M,δ,κ⟩ X:=by subst hXX;exact JU (P:=P) (w:=w) (K:=K) (base:=base) (CX:=yj P w) (M:=M) (δ:=δ) (outer:=outer) (H:=H) (E:=E) hm S hr
 have QK:i9 (X.eQ (oH X (ny Φ xv))):=⟨st.pn,st.st⟩;have hX:HX g xv (yj P w) k F Φ (X.eQ (oH X (ny Φ xv))):=by
  refine⟨?_,?_,?_,⟨m,?_⟩,?_,?_,QK,λe s' z=>mU z,?_⟩
  ·subst hΦ hXX;rfl
  ·subst hΦ hXX;rfl
  ·subst hΦ hXX;rfl
  ·subst hXX;exact fx
  ·subst hXX;exact hr
  ·subst hXX;rfl
  ·subst hXX;exact CK
 have own:PassesOwn (model (X.eQ (oH X (ny Φ xv))).prog (X.eQ (oH X (ny Φ xv))).w) (X.eQ (oH X (ny Φ xv))).A (X.eQ (oH X (ny Φ xv))).env (X.eQ (oH X (ny Φ xv))).xe:=Eb (E:=ny Φ xv) QK (λe s' z=>mU z) λe s' z=>Bu z
 have d0:Φ.d0=dr:=by subst hΦ;rfl
 have SS:=yP (dp:=bo) (fF:=fF) (W:=W) (n:=n) (Γ:=⟨scope.names,N,M,δ,κ⟩) (by subst hXX;rfl) gx.eQ hX (λz=>by
  rw[d0];subst z;simp only[UO,WY]at hd;exact hd.2.1) own hc
 refine⟨_,rK SS SL,⟨W,W,dr⟩,_,S0,⟨rfl,λa z=>by rw[d0]at z;exact z⟩,er,?_⟩;subst hΦ;unfold iJ at h;simp only at h;rw[W0 ym]at h;have h:(match (aP F ts (xX bo args N.length ps.length) S0).bind (λp=>match p.1 with
   |.next=>R.ok (Dt.bg,p.2.2)
   |.ret d=>R.ok (d,p.2.2)
   |_=>R.bad) with
  |.ok p=>∀v H',FO K W dr fF H p.1 p.2 v H'->Q v H'
  |.ex kk=>∀H',aU (λb=>dr=some b) H H'->E (xv kk) none H'
  |.bad=>False):=h
 cases he:aP F ts (xX bo args N.length ps.length) S0 with
 |ok p=>
  rw[he]at h;simp only[R.ah]at h;show bC _ _ _ _ _ _ _ p;unfold bC;cases hp:p.1 with
  |next=>rw[hp]at h;intro σ' H' so;obtain⟨o',oi,FS,_⟩:=so.ex;exact h _ _ ⟨FS.ent,RV.pJ,λa z=>FS.drw a (oi.d a z),λ_ ds e=>by cases e⟩
  |ret d=>rw[hp]at h;intro v H' ro;exact h _ _ ⟨ro.ent,ro.val,ro.drw,ro.kC⟩
  |brk=>rw[hp]at h;exact h.elim
  |cnt=>rw[hp]at h;exact h.elim
 |ex kk=>rw[he]at h;exact h
 |bad=>rw[he]at h;exact h.elim
end
structure yv(g:G)(K:Frag)(mg:Str->Option Value)(e:Str×Nat×List Dt×Bool)(idx:Nat)(fn:Fn):Prop where
 ex:∃(fa:Addr)(ps N:List Str)(M:List Bool)(δ κ:Option Nat)(n:Nat)(oc:Value)(od an:Option Addr)(vU:Array (Option Value))(params:Arguments)(body:List Stmt)(scope:Scope)(dV kV doc pm gk ct:Value),
  K.lookup fa=some ⟨oc,od,.func (PySem.W.fnOf e.1 e.1 params body scope dV kV doc pm an gk ct),vU⟩/\PySem.W.codeIn K gk e.1=true/\PySem.W.keepIn K (.ref fa)=true/\mg e.1=some (.ref fa)/\fI N ps scope/\(∀i,i<ps.length->M[i]?≠some true)/\
  (e.2.2.2=true->δ=some 0)/\ps.length=e.2.1/\FF n g ⟨scope.names,N,M,δ,κ⟩ e.2.2.2 (g.fr idx) body=some fn.body/\fn.ps=ps.length/\fn.n=N.length/\fn.bo=e.2.2.2/\
  (∀j,j<=e.2.2.1.length->∃ds,aw ((e.2.2.1.drop j).map p6) ds/\Binds K (PySem.W.fnOf e.1 e.1 params body scope dV kV doc pm an gk ct) ps ds)/\e.2.2.1.all qw=true
def qx(g:G)(K:Frag)(mg:Str->Option Value):Nat->List (Str×Nat×List Dt×Bool)->List Fn->Prop
 |_,[],[]=>True
 |i,e::es,f::fs=>yv g K mg e i f/\qx g K mg (i+1) es fs
 |_,_,_=>False
section
variable{g:G}{K:Frag}{mg:Str->Option Value}
theorem o9{x:Str}:∀{es:List (Str×Nat×List Dt×Bool)}{fs:List Fn}{i j:Nat}{r:Nat×List Dt×Bool},qx g K mg i es fs->tN x es=some (j,r)->∃f,yv g K mg (x,r) (i+j) f/\fs[j]?=some f
 |[],fs,i,j,r,_,h=>by simp[tN]at h
 |e::es,[],i,j,r,h,_=>h.elim
 |e::es,f::fs,i,j,r,ok,h=>by
  obtain⟨o1,o2⟩:=ok;unfold tN at h;split at h
  ·rename_i hx;cases h;have ex:x=e.1:=Ud hx;subst ex;exact⟨f,o1,rfl⟩
  ·obtain⟨p,h1,h2⟩:=T5.mp h;obtain⟨j',r'⟩:=p;cases h2;obtain⟨f',k1,k2⟩:=o9 o2 h1;refine⟨f',?_,k2⟩;have:i+(j'+1)=i+1+j':=()
   rw[this];exact k1
variable{P:Program}{w:World}{base:Heap}{xv:Nat->Value}{fs:List Fn}
theorem mG(hm:MG g mg)(CK:XG g K mg xv)(ok:qx g K mg 0 g.fns fs):∀n,FX g xv (yj P w) P w K mg base n n (au fs n)
 |0=>⟨λx f np gD bo h=>by
   obtain⟨fn,⟨fa,ps,N,M,δ,κ,n,oc,od,an,vU,params,body,scope,dV,kV,doc,pm,gk,ct,h1,h2,h3,h4,h5,h6,h7,h8,h9,NN,NO,NP,NQ,NR⟩,hf⟩:=o9 ok h;refine⟨fa,_,ps,h8,h4,h3,⟨λvs H Q E q=>q.1.trans h8.symm,λA outer s H args us vs Q E _ _ _ _ q=>?_⟩,NQ,NR⟩;obtain⟨_,W,dr,as,S,Bm,_,_,_,q⟩:=q;exact q.elim⟩
 |n+1=>⟨λx f np gD bo h=>by
   have ih:=mG hm CK ok n;obtain⟨fn,⟨fa,ps,N,M,δ,κ,m,oc,od,an,vU,params,body,scope,dV,kV,doc,pm,gk,ct,h1,h2,h3,h4,h5,h6,h7,h8,h9,NN,NO,NP,NQ,NR⟩,hf⟩:=o9 ok h;rw[WE]at h9;refine⟨fa,_,ps,h8,h4,h3,?_,NQ,NR⟩;have:=nN (xv:=xv) (P:=P) (w:=w) (base:=base) h1 h2 h5 hm CK ih h6 h7 h9;have e:(au fs (n+1)) f=iJ (au fs n) ⟨ps.length,N.length,bo,fn.body⟩:=by funext args S;show (match fs[f]? with|some g=>iJ (au fs n) g args S|none=>R.bad)=_;rw[hf];obtain⟨a1,a2,a3,a4⟩:=fn;simp only at NN NO NP;subst NN NO NP;rfl
   have Rq:ps.length=np:=h8;rw[e,<-Rq];exact this⟩
def wA(K:Frag):Sp:=λvs H Q _=>∃(a:Addr)(ns:List Int),vs=[.ref a]/\dF K H a (ns.map V.int)/\ns.length<=63/\∀H',Q (.bl true) H'
theorem len0{P:List Value->Prop}(h:P []):∀us:List Value,us.length=0->P us:=λus e=>Vu e▸h
theorem lenS{n:Nat}{P:List Value->Prop}(h:∀a(us:List Value),us.length=n->P (a::us)):∀us:List Value,us.length=n+1->P us:=λus e=>by
 cases us with
 |nil=>cases e
 |cons a t=>exact h a t (Nat.succ.inj e)
theorem binds0{fd:FuncData}{ps:List Str}(h:∀us:List Value,us.length=ps.length->bindArgs fd ⟨us,[]⟩=pure (ps.zip us)):∀j,j<=([]:List Dt).length->∃ds,aw ((([]:List Dt).drop j).map p6) ds/\Binds K fd ps ds:=λj hj=>by
 have:j=0:=by simpa using hj
 subst this;exact⟨[],.nil,Binds.all h⟩
theorem FA{fd:FuncData}{ps:List Str}{d:Dt}{v:Value}(hv:RelV (p6 d) v)(h0:Binds K fd ps [v])(h1:Binds K fd ps []):∀j,j<=([d]:List Dt).length->∃ds,aw ((([d]:List Dt).drop j).map p6) ds/\Binds K fd ps ds:=λj hj=>by
 have:j=0\/j=1:=by simp at hj;lia
 rcases this with rfl|rfl
 ·exact⟨[v],.cons hv .nil,h0⟩
 ·exact⟨[],.nil,h1⟩
def Sr(names:List (Str×NameKind))(ps:List Str):List Str:=ps++names.filterMap λp=>if Al (some p.2)&& !ps.contains p.1 then some p.1 else none
def IY(N ms:List Str):List Bool:=N.map λx=>ms.contains x
theorem KJ{N ms ps:List Str}(h:((IY N ms).take ps.length).all (λb=> !b)=true):∀i,i<ps.length->(IY N ms)[i]?≠some true:=λi hi e=>by have hm:true∈(IY N ms).take ps.length:=V1.mpr ⟨i,by rw[VF hi];exact e⟩;have:=Ut.mp h true hm;cases this
end
end Rx
end
section
namespace Rx
open PySem.W L2
section
variable{S:Sx}{ρ:ai}
theorem bI{tg:Tg}{body:ai->Sx->RS}{ds:List Dt}(P:List Dt->ai->Prop)(h0:P [] ρ)
  (step:∀pre x post ρ,ds=pre++x::post->P pre ρ->∃ρ1 ρ2,f7 tg x ρ= .ok ρ1/\body ρ1 S= .ok (.next,ρ2,S)/\P (pre++[x]) ρ2):∃ρ',forL tg body ds ρ S= .ok (.next,ρ',S)/\P ds ρ':=by
 have key:∀(post pre:List Dt)(ρ:ai),ds=pre++post->P pre ρ->∃ρ',forL tg body post ρ S= .ok (.next,ρ',S)/\P ds ρ':=by
  intro post
  induction post with
  |nil=>intro pre ρ e h;rw[Ux]at e;subst e;exact⟨ρ,rfl,h⟩
  |cons x post ih=>intro pre ρ e h;obtain⟨ρ1,ρ2,h1,h2,h3⟩:=step pre x post ρ e h;obtain⟨ρ',h4,h5⟩:=ih (pre++[x]) ρ2 (by rw[e];simp) h3;refine⟨ρ',?_,h5⟩;rw[forL,h1,R.ah,h2,R.ah];exact h4
 exact key ds [] ρ rfl h0
theorem gE{tg:Tg}{body:ai->Sx->RS}{ds:List Dt}(P:List Dt->ai->Prop)(T:Dt->Prop)(h0:P [] ρ)
  (step:∀pre x post ρ,ds=pre++x::post->P pre ρ->∃ρ1 ρ2,f7 tg x ρ= .ok ρ1/\((body ρ1 S= .ok (.next,ρ2,S)/\P (pre++[x]) ρ2)\/∃d,body ρ1 S= .ok (.ret d,ρ2,S)/\T d)):
  (∃ρ',forL tg body ds ρ S= .ok (.next,ρ',S)/\P ds ρ')\/∃d ρ',forL tg body ds ρ S= .ok (.ret d,ρ',S)/\T d:=by
 have key:∀(post pre:List Dt)(ρ:ai),ds=pre++post->P pre ρ->(∃ρ',forL tg body post ρ S= .ok (.next,ρ',S)/\P ds ρ')\/∃d ρ',forL tg body post ρ S= .ok (.ret d,ρ',S)/\T d:=by
  intro post
  induction post with
  |nil=>intro pre ρ e h;rw[Ux]at e;subst e;exact .inl ⟨ρ,rfl,h⟩
  |cons x post ih=>
   intro pre ρ e h;obtain⟨ρ1,ρ2,h1,h2|⟨d,h2,h3⟩⟩:=step pre x post ρ e h
   ·rw[forL,h1,R.ah,h2.1,R.ah];exact ih (pre++[x]) ρ2 (by rw[e];simp) h2.2
   ·exact .inr ⟨d,ρ2,by rw[forL,h1,R.ah,h2,R.ah],h3⟩
 exact key ds [] ρ rfl h0
theorem ka{α β:Type}(f:α->β):∀l:List α,(l.flatMap λx=>[f x])=l.map f
 |[]=>rfl
 |x::l=>by rw[Vy,ka f l];rfl
theorem fL{α β:Type}(p:α->Bool)(f:α->β):∀l:List α,(l.flatMap λx=>if p x=true then[f x] else[])=(l.filter p).map f
 |[]=>rfl
 |x::l=>by
  rw[Vy,fL p f l];by_cases h:p x=true
  ·rw[W0 h,List.filter_cons_of_pos h];rfl
  ·rw[WZ h,List.filter_cons_of_neg h];rfl
end
theorem DT{fs:List Fn}{n k:Nat}{g:Fn}{args:List Dt}{S:Sx}(h:fs[k]?=some g):au fs (n+1) k args S=iJ (au fs n) g args S:=by show (match fs[k]? with|some g=>iJ (au fs n) g args S|none=>R.bad)=_;rw[h]
def KQ(d:Dt)(S:Sx):R (Dt×Sx):=match d with|.int i=>.ok (.int (-i),S)|_=>.bad
def QD(d:Dt)(S:Sx):R (Dt×Sx):=match d with|.bl b=>.ok (.bl !b,S)|_=>.bad
def Js(d:Dt)(S:Sx):R (Dt×Sx):=match d with|.bl c=>.ok (.bl c,S)|_=>.bad
def Fo(f:Sx->R (Dt×Sx))(d:Dt)(S:Sx):R (Dt×Sx):=match d with|.bl true=>(f S).bind (λy=>Js y.1 y.2)|.bl false=>.ok (.bl false,S)|_=>.bad
def OO(f:Sx->R (Dt×Sx))(d:Dt)(S:Sx):R (Dt×Sx):=match d with|.bl false=>(f S).bind (λy=>Js y.1 y.2)|.bl true=>.ok (.bl true,S)|_=>.bad
def EN(k:List Dt->Dt)(ds:List Dt)(S:Sx):R (Dt×Sx):=af (decide (ds.length<=lim)) (.ok (k ds,S))
def Oy(o:Option (List Dt))(S:Sx):R (List Dt×Sx):=match o with|some ds=>.ok (ds,S)|none=>.bad
def LH(d e:Dt)(S:Sx):R (Dt×Sx):=match e with|.int i=>(dQ d (some i) none).bind λd=>.ok (d,S)|_=>.bad
def LG(d e:Dt)(S:Sx):R (Dt×Sx):=match e with|.int i=>(dQ d none (some i)).bind λd=>.ok (d,S)|_=>.bad
theorem RX:
  (∀{F:FT}{S:Sx}{ρ:ai}{d:Dt},ev F (.con d) ρ S= .ok (d,S))/\
  (∀{F:FT}{S:Sx}{ρ:ai}{i:Nat},ev F (.var i) ρ S=(dY ρ i).bind λd=>.ok (d,S))/\
  (∀{F:FT}{S:Sx}{ρ:ai}{i:Nat},ev F (.mvr i) ρ S=(dY ρ i).bind λd=>.ok (d,S))/\
  (∀{F:FT}{S:Sx}{ρ:ai}{o:Operator}{a b:C},ev F (.bin o a b) ρ S=(ev F a ρ S).bind λx=>(ev F b ρ x.2).bind λy=>(kI o x.1 y.1).bind λd=>.ok (d,y.2))/\
  (∀{F:FT}{S:Sx}{ρ:ai}{o:CmpOp}{a b:C},ev F (.cmp o a b) ρ S=(ev F a ρ S).bind λx=>(ev F b ρ x.2).bind λy=>(cN o x.1 y.1).bind λd=>.ok (.bl d,y.2))/\
  (∀{F:FT}{S:Sx}{ρ:ai}{a:C},ev F (.neg a) ρ S=(ev F a ρ S).bind λx=>KQ x.1 x.2)/\
  (∀{F:FT}{S:Sx}{ρ:ai}{a:C},ev F (.nt a) ρ S=(ev F a ρ S).bind λx=>QD x.1 x.2)/\
  (∀{F:FT}{S:Sx}{ρ:ai}{a b:C},ev F (.and a b) ρ S=(ev F a ρ S).bind λx=>Fo (ev F b ρ) x.1 x.2)/\
  (∀{F:FT}{S:Sx}{ρ:ai}{a b:C},ev F (.or a b) ρ S=(ev F a ρ S).bind λx=>OO (ev F b ρ) x.1 x.2)/\
  (∀{F:FT}{S:Sx}{ρ:ai}{a b c:C},ev F (.ite a b c) ρ S=(cA F a ρ S).bind λx=>if x.1=true then ev F b ρ x.2 else ev F c ρ x.2)/\
  (∀{F:FT}{S:Sx}{ρ:ai}{a b:C},ev F (.idx a b) ρ S=(ev F a ρ S).bind λx=>(ev F b ρ x.2).bind λy=>(cF x.1 y.1).bind λd=>.ok (d,y.2))/\
  (∀{F:FT}{S:Sx}{ρ:ai}{a b:C},ev F (.sliL a b) ρ S=(ev F a ρ S).bind λx=>(ev F b ρ x.2).bind λy=>LH x.1 y.1 y.2)/\
  (∀{F:FT}{S:Sx}{ρ:ai}{a b:C},ev F (.sliH a b) ρ S=(ev F a ρ S).bind λx=>(ev F b ρ x.2).bind λy=>LG x.1 y.1 y.2)/\
  (∀{F:FT}{S:Sx}{ρ:ai}{f:Nat}{es:Cs}{ds:List Dt},ev F (.call f es ds) ρ S=(gf F es ρ S).bind λx=>(F f (x.1++ds) none).bind λy=>.ok (y.1,x.2))/\
  (∀{F:FT}{S:Sx}{ρ:ai}{u:BI}{es:Cs},ev F (.bi u es) ρ S=(gf F es ρ S).bind λx=>(c9 u x.1).bind λd=>.ok (d,x.2))/\
  (∀{F:FT}{S:Sx}{ρ:ai}{es:Cs},ev F (.tup es) ρ S=(gf F es ρ S).bind λx=>EN .tup x.1 x.2)/\
  (∀{F:FT}{S:Sx}{ρ:ai}{es:Cs},ev F (.lst es) ρ S=(gf F es ρ S).bind λx=>EN .lst x.1 x.2)/\
  (∀{F:FT}{S:Sx}{ρ:ai},gf F .nil ρ S= .ok ([],S))/\
  (∀{F:FT}{S:Sx}{ρ:ai}{a:C}{es:Cs},gf F (.cons a es) ρ S=(ev F a ρ S).bind λx=>(gf F es ρ x.2).bind λy=>.ok (x.1::y.1,y.2))/\
  (∀{F:FT}{S:Sx}{ρ:ai}{o:CmpOp}{a b:C},cA F (.cmp o a b) ρ S=(ev F a ρ S).bind λx=>(ev F b ρ x.2).bind λy=>(cN o x.1 y.1).bind λd=>.ok (d,y.2))/\
  (∀{F:FT}{S:Sx}{ρ:ai}{a b:C},cA F (.and a b) ρ S=(cA F a ρ S).bind λx=>if x.1=true then cA F b ρ x.2 else .ok (false,x.2))/\
  (∀{F:FT}{S:Sx}{ρ:ai}{a b:C},cA F (.or a b) ρ S=(cA F a ρ S).bind λx=>if x.1=true then .ok (true,x.2) else cA F b ρ x.2)/\
  (∀{F:FT}{S:Sx}{ρ:ai}{a:C},cA F (.nt a) ρ S=(cA F a ρ S).bind λx=>.ok (!x.1,x.2))/\
  (∀{F:FT}{S:Sx}{ρ:ai}{f:Nat}{es:Cs}{ds:List Dt},cA F (.call f es ds) ρ S=(gf F es ρ S).bind λx=>(F f (x.1++ds) none).bind λy=>(de y.1).bind λb=>.ok (b,x.2))/\
  (∀{F:FT}{S:Sx}{ρ:ai}{u:BI}{es:Cs},cA F (.bi u es) ρ S=(gf F es ρ S).bind λx=>(c9 u x.1).bind λd=>(de d).bind λb=>.ok (b,x.2))/\
  (∀{F:FT}{S:Sx}{ρ:ai}{i:Nat},cA F (.var i) ρ S=(dY ρ i).bind λd=>(de d).bind λb=>.ok (b,S))/\
  (∀{F:FT}{S:Sx}{ρ:ai}{i:Nat},cA F (.mvr i) ρ S=(dY ρ i).bind λd=>(de d).bind λb=>.ok (b,S))/\
  (∀{F:FT}{S:Sx}{ρ:ai}{a b:C},cA F (.idx a b) ρ S=(ev F a ρ S).bind λx=>(ev F b ρ x.2).bind λy=>(cF x.1 y.1).bind λd=>(de d).bind λb=>.ok (b,y.2))/\
  (∀{F:FT}{S:Sx}{ρ:ai},a6 F .nil ρ S= .ok (true,S))/\
  (∀{F:FT}{S:Sx}{ρ:ai}{a:C},a6 F (.cons a .nil) ρ S=cA F a ρ S)/\
  (∀{F:FT}{S:Sx}{ρ:ai}{a:C},cg F (.seq a) ρ S=(ev F a ρ S).bind λx=>Oy (itemsOf x.1) x.2)/\
  (∀{F:FT}{S:Sx}{ρ:ai}{a:C},cg F (.enum a) ρ S=(ev F a ρ S).bind λx=>Oy ((cM x.1).map (vi 0)) x.2)/\
  (∀{d:Dt}{ρ:ai},dY (some d::ρ) 0= .ok d)/\
  (∀{e:Option Dt}{ρ:ai}{i:Nat},dY (e::ρ) (i+1)=dY ρ i)/\
  (∀{S:Sx}{i:Int},KQ (.int i) S= .ok (.int (-i),S))/\
  (∀{S:Sx}{b:Bool},QD (.bl b) S= .ok (.bl !b,S))/\
  (∀{S:Sx}{f:Sx->R (Dt×Sx)},Fo f (.bl false) S= .ok (.bl false,S))/\
  (∀{S:Sx}{f:Sx->R (Dt×Sx)},Fo f (.bl true) S=(f S).bind λy=>Js y.1 y.2)/\
  (∀{S:Sx}{f:Sx->R (Dt×Sx)},OO f (.bl true) S= .ok (.bl true,S))/\
  (∀{S:Sx}{f:Sx->R (Dt×Sx)},OO f (.bl false) S=(f S).bind λy=>Js y.1 y.2)/\
  (∀{S:Sx}{b:Bool},Js (.bl b) S= .ok (.bl b,S))/\
  (∀{S:Sx}{ds:List Dt},Oy (some ds) S= .ok (ds,S))/\
  (∀{ds:List Dt}{f:List Dt->List Dt},(some ds).map f=some (f ds))/\
  (∀{S:Sx}{k:List Dt->Dt},EN k [] S= .ok (k [],S))/\
  (∀{S:Sx}{k:List Dt->Dt}{a:Dt},EN k [a] S= .ok (k [a],S))/\
  (∀{S:Sx}{k:List Dt->Dt}{a b:Dt},EN k [a,b] S= .ok (k [a,b],S))/\
  (∀{S:Sx}{k:List Dt->Dt}{a b c:Dt},EN k [a,b,c] S= .ok (k [a,b,c],S))/\
  (∀{S:Sx}{k:List Dt->Dt}{a b c d:Dt},EN k [a,b,c,d] S= .ok (k [a,b,c,d],S))/\
  (∀{S:Sx}{k:List Dt->Dt}{a b c d e:Dt},EN k [a,b,c,d,e] S= .ok (k [a,b,c,d,e],S))/\
  (∀{S:Sx}{d:Dt}{i:Int},LH d (.int i) S=(dQ d (some i) none).bind λd=>.ok (d,S))/\
  (∀{S:Sx}{d:Dt}{i:Int},LG d (.int i) S=(dQ d none (some i)).bind λd=>.ok (d,S))/\
  (∀{m n:Int},kI .Add (.int m) (.int n)= .ok (.int (m+n)))/\
  (∀{m n:Int},kI .Sub (.int m) (.int n)= .ok (.int (m-n)))/\
  (∀{m n:Int},cN .Lt (.int m) (.int n)= .ok (decide (m<n)))/\
  (∀{m n:Int},cN .LtE (.int m) (.int n)= .ok (decide (m<=n)))/\
  (∀{m n:Int},cN .Gt (.int m) (.int n)= .ok (decide (n<m)))/\
  (∀{m n:Int},cN .GtE (.int m) (.int n)= .ok (decide (n<=m)))/\
  (∀{m n:Int},cN .Eq (.int m) (.int n)= .ok (m==n))/\
  (∀{m n:Int},cN .NotEq (.int m) (.int n)= .ok (!(m==n)))/\
  (∀{ns:List Int},c9 .len [.bO ns]= .ok (.int ns.length))/\
  (∀{ds:List Dt},c9 .len [.lst ds]= .ok (.int ds.length))/\
  (∀{ds:List Dt},c9 .len [.tup ds]= .ok (.int ds.length))/\
  (∀{ds:List Dt},c9 .tuple [.lst ds]= .ok (.tup ds))/\
  (∀{ds:List Dt},c9 .tuple [.tup ds]= .ok (.tup ds))/\
  (∀{ds:List Dt},c9 .list [.lst ds]= .ok (.lst ds))/\
  (∀{ds:List Dt},c9 .list [.tup ds]= .ok (.lst ds))/\
  (∀{m n:Int},c9 .min2 [.int m,.int n]= .ok (.int (if n<m then n else m)))/\
  (∀{m n:Int},c9 .max2 [.int m,.int n]= .ok (.int (if n>m then n else m)))/\
  (∀{t:Bool},de (.bl t)= .ok t)/\
  (∀{ds:List Dt},de (.lst ds)= .ok !ds.isEmpty)/\
  (∀{ds:List Dt},de (.tup ds)= .ok !ds.isEmpty)/\
  (∀{ds:List Dt},itemsOf (.lst ds)=some ds)/\
  (∀{ds:List Dt},itemsOf (.tup ds)=some ds)/\
  (∀{ds:List Dt},cM (.lst ds)=some ds)/\
  (∀{ds:List Dt},cM (.tup ds)=some ds)/\
  (∀{α β:Type}{x:α}{f:α->R β},(R.ok x).bind f=f x)/\
  (∀{α:Type}{r:R α},af true r=r)/\
  (∀{ds:List Dt},(ds++[]:List Dt)=ds)/\
  (∀{e v:Option Dt}{ρ:ai},(e::ρ).set 0 v=v::ρ)/\
  (∀{e v:Option Dt}{ρ:ai}{i:Nat},(e::ρ).set (i+1) v=e::ρ.set i v)/\
  (∀{d:Dt}{ρ:ai}{i:Nat},f7 (.nm i) d ρ= .ok (ρ.set i (some d)))/\
  (∀{is:List Nat}{ds:List Dt}{ρ:ai},f7 (.tp is) (.tup ds) ρ=gX is ds ρ)/\
  (∀{ρ:ai},gX [] [] ρ= .ok ρ)/\
  (∀{i:Nat}{is:List Nat}{d:Dt}{ds:List Dt}{ρ:ai},gX (i::is) (d::ds) ρ=gX is ds (ρ.set i (some d)))/\
  (∀{d:Dt},cF (.tup [d]) (.int 0)= .ok d)/\
  (∀{d d2:Dt},cF (.tup [d,d2]) (.int 0)= .ok d)/\
  (∀{d d2:Dt},cF (.tup [d,d2]) (.int 1)= .ok d2)/\
  (∀{d d2 d3:Dt},cF (.tup [d,d2,d3]) (.int 0)= .ok d)/\
  (∀{d d2 d3:Dt},cF (.tup [d,d2,d3]) (.int 1)= .ok d2)/\
  (∀{d d2 d3:Dt},cF (.tup [d,d2,d3]) (.int 2)= .ok d3):=by
 repeat' apply And.intro
 all_goals
  intros
  first
  |rfl
  |exact Ux _
  |(rename_i F S ρ a;rw[uy];cases ev F a ρ S with|ok x=>(simp only[R.ah];cases cM x.1<;>rfl)|ex k=>rfl|bad=>rfl)
section
variable{F:FT}{S:Sx}{ρ:ai}
theorem aG{i j:Int}(h:i.natAbs<2^64\/j.natAbs<2^64):kI .Mult (.int i) (.int j)= .ok (.int (i*j)):=by show af (decide (i.natAbs<2^64)||decide (j.natAbs<2^64)) _=_;rw[show (decide (i.natAbs<2^64)||decide (j.natAbs<2^64))=true by simpa using h];rfl
theorem rz{i j:Int}(h:j≠0):kI .Mod (.int i) (.int j)= .ok (.int (i.fmod j)):=by show af (decide (j≠0)) _=_;rw[Uk h];rfl
theorem bE{i j:Int}(h:0<j):kI .Mod (.int i) (.int j)= .ok (.int (i % j)):=by rw[rz (),Int.fmod_eq_emod_of_nonneg i ()]
theorem eT{i j:Int}(h:j≠0)(h2:j.natAbs.log2<9000):kI .FloorDiv (.int i) (.int j)= .ok (.int (i.fdiv j)):=by show af (decide (j≠0)&&decide (j.natAbs.log2<9000)) _=_;rw[Uk h,Uk h2];rfl
theorem Aw{i j:Int}(h:0<j)(h2:j.natAbs.log2<9000):kI .FloorDiv (.int i) (.int j)= .ok (.int (i/j)):=by rw[eT () h2,Int.fdiv_eq_ediv_of_nonneg i ()]
def fin(r:RS):R (Dt×Sx):=r.bind λp=>match p.1 with
 |.next=>.ok (.bg,p.2.2)
 |.ret d=>.ok (d,p.2.2)
 |_=>.bad
def Ts.app:Ts->Ts->Ts
 |.nil,b=>b
 |.cons t a,b=>.cons t (a.app b)
theorem o7:∀{a b:Ts}{ρ:ai}{S:Sx},aP F (a.app b) ρ S=(aP F a ρ S).bind λp=>match p.1 with
  |.next=>aP F b p.2.1 p.2.2
  |f=>.ok (f,p.2)
 |.nil,b,ρ,S=>rfl
 |.cons t a,b,ρ,S=>by
  show aP F (.cons t (a.app b)) ρ S=_;rw[bN,bN];cases ex F t ρ S with
  |ok p=>
   obtain⟨f,ρ1,none⟩:=p;cases f with
   |next=>exact o7
   |brk=>rfl
   |cnt=>rfl
   |ret d=>rfl
  |ex k=>rfl
  |bad=>rfl
section
variable{r:R (Dt×Sx)}{ts:Ts}
theorem cW{t:T}{ρ1:ai}(h:ex F t ρ S= .ok (.next,ρ1,none))(k:fin (aP F ts ρ1 none)=r):fin (aP F (.cons t ts) ρ S)=r:=by rw[bN,h];exact k
theorem hU{t:T}{ρ1:ai}{d:Dt}(h:ex F t ρ S= .ok (.ret d,ρ1,none)):fin (aP F (.cons t ts) ρ S)= .ok (d,none):=by rw[bN,h];rfl
theorem aj{i:Nat}{c:C}{d:Dt}(h:ev F c ρ S= .ok (d,none))(hs:ba c d=true)(k:fin (aP F ts (ρ.set i (some d)) none)=r):fin (aP F (.cons (.asg i c) ts) ρ S)=r:=by refine cW ?_ k;rw[pX,h,R.ah,hs];rfl
theorem et{i:Nat}{c:C}{d:Dt}(h:ev F c ρ S= .ok (d,none))(hs:kv c d=true)(k:fin (aP F ts (ρ.set i (some d)) none)=r):fin (aP F (.cons (.asgM i c) ts) ρ S)=r:=by refine cW ?_ k;rw[mI,h,R.ah,hs];rfl
theorem aq{c:C}{d:Dt}(h:ev F c ρ S= .ok (d,none)):fin (aP F (.cons (.ret c) ts) ρ S)= .ok (d,none):=by refine hU (ρ1:=ρ) ?_;rw[kY,h];rfl
theorem zy{t:C}{a b:Ts}{x:Bool}(h:cA F t ρ S= .ok (x,none))(k:fin (aP F ((if x=true then a else b).app ts) ρ none)=r):fin (aP F (.cons (.ifs t a b) ts) ρ S)=r:=by rw[<-k,o7,bN,pZ,h,R.ah];cases x<;>rfl
theorem dR{t:C}{a b:Ts}(h:cA F t ρ S= .ok (true,none))(k:fin (aP F (a.app ts) ρ none)=r):fin (aP F (.cons (.ifs t a b) ts) ρ S)=r:=zy h (by rw[W0 rfl];exact k)
theorem bu{t:C}{a b:Ts}(h:cA F t ρ S= .ok (false,none))(k:fin (aP F (b.app ts) ρ none)=r):fin (aP F (.cons (.ifs t a b) ts) ρ S)=r:=zy h (by rw[WZ ∅];exact k)
theorem bD{tg:Tg}{it:kJ}{b:Ts}{ds:List Dt}{ρ1:ai}(h:cg F it ρ S= .ok (ds,none))(hl:kG it=0)(hf:forL tg (aP F b) ds ρ none= .ok (.next,ρ1,none))(k:fin (aP F ts ρ1 none)=r):fin (aP F (.cons (.fr tg it b) ts) ρ S)=r:=by refine cW ?_ k;rw[gU,h,R.ah,Uk hl,Bool.true_or];exact hf
end
end
theorem ay{fs:List Fn}{n k ps m:Nat}{body:Ts}{args:List Dt}{r:R (Dt×Sx)}{S:Sx}(h:fs[k]?=some ⟨ps,m,false,body⟩)(hn:1<=n)(hl:args.length=ps)(q:fin (aP (au fs (n-1)) body (args.map some++List.replicate (m-ps) none) S)=r):au fs n k args S=r:=by obtain⟨n,rfl⟩:∃m,n=m+1:=⟨n-1,()⟩;rw[DT h];unfold iJ;simp only[UO,WY,Nat.add_zero,hl,W1,V4];exact q
def uT:Ts:=(.cons (.ifs (.cmp .Lt (.var 1) (.bi .len (.cons (.var 0) .nil))) (.cons (.ret (.idx (.var 0) (.var 1))) .nil) .nil) (.cons (.asg 2 (.bin .Add (.bin .Mult (.var 1) (.con (.int 7919))) (.con (.int 5)))) (.cons (.ifs (.cmp .Gt (.bi .len (.cons (.var 0) .nil)) (.con (.int 0))) (.cons (.asg 2 (.bin .Add (.bin .Add (.bin .Mult (.bin .Mod (.idx (.var 0) (.bin .Mod (.var 1) (.bi .len (.cons (.var 0) .nil)))) (.con (.int 2147483647))) (.con (.int 48271))) (.bin .Mult (.bin .Mult (.var 1) (.var 1)) (.con (.int 7919)))) (.con (.int 11)))) .nil) .nil) (.cons (.ret (.bin .Mod (.bin .Mult (.var 2) (.var 2)) (.con (.int 2147483629)))) .nil))))
theorem vD{ns:List Int}{k:Nat}(h:k<ns.length):cF (.bO ns) (.int k)= .ok (.int ns[k]):=by show wQ (ns.map Dt.int) k=_;unfold wQ;rw[L2.kK (v:=.int ns[k]) (by simp[h])]
def aC(ns:List Int)(k:Nat):Int:=if h:k<ns.length then ns[k] else
 let m:Int:=if h:0<ns.length then ns[k % ns.length]'(Nat.mod_lt _ h) % 2147483647*48271+k*k*7919+11 else k*7919+5
 m*m % 2147483629
theorem u4{fs:List Fn}{ic:Nat}(hc:fs[ic]?=some ⟨2,3,false,uT⟩){n:Nat}(hn:1<=n){ns:List Int}{k:Nat}(hk:k<1000000):au fs n ic [.bO ns,.int k] none= .ok (.int (aC ns k),none):=by
 refine ay hc hn rfl ?_;show fin (aP (au fs (n-1)) uT [some (.bO ns),some (.int k),none] none)=_;by_cases h:k<ns.length
 ·refine dR (by simp only[RX];simp[h]) ?_;exact(aq (d:=.int ns[k]) (by simp only[RX,vD h])).trans (by simp[aC,h])
 ·have b1:(k:Int)*k<=1000000*1000000:=by
   have:k*k<=1000000*1000000:=Wz () ();rw[<-U7]
   lia
  have b0:(0:Int)<=(k:Int)*k:=U4 () ();have m1:=aG (i:=k) (j:=7919) (.inl ());refine bu (by simp only[RX];simp;lia) (aj (d:=.int (k*7919+5)) (by simp only[RX,m1]) rfl ?_);by_cases h2:0<ns.length
  ·have hm:=Nat.mod_lt k h2;have e1:((k:Int) % (ns.length:Int))=((k % ns.length:Nat):Int):=by simp
   generalize hx:ns[k % ns.length]=x;have r1:=Uv x (b:=2147483647) ⋯;have r2:=Uw x (b:=2147483647) ⋯;have m2:=bE (i:=k) (j:=ns.length) ();rw[e1]at m2;have m3:=bE (i:=x) (j:=2147483647) ⋯;have m4:=aG (i:=x % 2147483647) (j:=48271) (.inl ());have m5:=aG (i:=k) (j:=k) (.inl ());have m6:=aG (i:=(k:Int)*k) (j:=7919) (.inl ());have m7:=aG (i:=x % 2147483647*48271+k*k*7919+11) (j:=x % 2147483647*48271+k*k*7919+11) (.inl ());have m8:=bE (i:=(x % 2147483647*48271+k*k*7919+11)*(x % 2147483647*48271+k*k*7919+11)) (j:=2147483629) ⋯;refine dR (by simp only[RX];simp;lia) (aj (d:=.int (x % 2147483647*48271+k*k*7919+11)) ?_ rfl ?_)
   ·simp only[RX,m2,m3,m4,m5,m6,vD hm,hx]
   ·refine(aq (d:=_) (by simp only[RX,m7,m8];rfl)).trans ?_;simp[aC,h,h2,hx]
  ·have z0:decide ((0:Int)<ns.length)=false:=Ug ();have m7:=aG (i:=k*7919+5) (j:=k*7919+5) (.inl ());have m8:=bE (i:=((k:Int)*7919+5)*(k*7919+5)) (j:=2147483629) ⋯;refine bu (by simp only[RX,z0]) ((aq (d:=_) (by simp only[RX,m7,m8];rfl)).trans ?_);simp[aC,h,h2]
section
variable{F:FT}{S:Sx}{ρ ρ1:ai}{ts:Ts}{r:RS}{d:Dt}{ds:List Dt}
theorem nx{t:T}(h:ex F t ρ S= .ok (.next,ρ1,none))(k:aP F ts ρ1 none=r):aP F (.cons t ts) ρ S=r:=by rw[bN,h];exact k
theorem dO{i:Nat}{c:C}(h:ev F c ρ S= .ok (d,none))(hs:ba c d=true)(k:aP F ts (ρ.set i (some d)) none=r):aP F (.cons (.asg i c) ts) ρ S=r:=by refine nx ?_ k;rw[pX,h,R.ah,hs];rfl
theorem mw{c:C}(h:ev F c ρ S= .ok (d,none)):aP F (.cons (.ret c) ts) ρ S= .ok (.ret d,ρ,none):=by rw[bN,kY,h];rfl
theorem ET{t:C}{a b:Ts}{x:Bool}(h:cA F t ρ S= .ok (x,none))(k:aP F ((if x=true then a else b).app ts) ρ none=r):aP F (.cons (.ifs t a b) ts) ρ S=r:=by rw[<-k,o7,bN,pZ,h,R.ah];cases x<;>rfl
theorem pO{t:C}{a b:Ts}(h:cA F t ρ S= .ok (true,none))(k:aP F (a.app ts) ρ none=r):aP F (.cons (.ifs t a b) ts) ρ S=r:=ET h (by rw[W0 rfl];exact k)
theorem gQ{t:C}{a b:Ts}(h:cA F t ρ S= .ok (false,none))(k:aP F (b.app ts) ρ none=r):aP F (.cons (.ifs t a b) ts) ρ S=r:=ET h (by rw[WZ ∅];exact k)
theorem GZ{tg:Tg}{it:kJ}{b:Ts}(h:cg F it ρ S= .ok (ds,none))(hl:kG it=0)(hf:forL tg (aP F b) ds ρ none= .ok (.next,ρ1,none))(k:aP F ts ρ1 none=r):aP F (.cons (.fr tg it b) ts) ρ S=r:=by refine nx ?_ k;rw[gU,h,R.ah,Uk hl,Bool.true_or];exact hf
theorem vG{i:Nat}(hl:ρ[i]?=some (some (.lst ds))):isLE ρ i=true:=by unfold isLE;rw[hl]
theorem vS{i:Nat}(hl:ρ[i]?=some (some (.lst ds))):l8 ρ i= .ok ds:=by unfold l8;rw[hl]
theorem FU{i:Nat}{c:C}(hl:ρ[i]?=some (some (.lst ds)))(h:ev F c ρ S= .ok (d,none))(hs:ba c d=true)(hz:ds.length<=lim):ex F (.app i c) ρ S= .ok (.next,ρ.set i (some (.lst (ds++[d]))),none):=by rw[wj,vG hl,guard_true,h,R.ah,hs,guard_true,vS hl,R.ah,Uk hz];rfl
theorem Cn{i:Nat}{k v:C}{n:Int}{j:Nat}(hl:ρ[i]?=some (some (.lst ds)))(h:ev F v ρ S= .ok (d,none))(h2:ev F k ρ none= .ok (.int n,none))(hs:ba v d=true)(hz:pB ds.length n=some j):ex F (.ya i k v) ρ S= .ok (.next,ρ.set i (some (.lst (ds.set j d))),none):=by rw[rQ,vG hl,guard_true,h,R.ah,h2,R.ah,hs,guard_true,vS hl,R.ah];show (match pB ds.length n with|some j=>R.ok (Fl.next,ρ.set i (some (.lst (ds.set j d))),none)|none=>.bad)=_;rw[hz]
theorem uk{i:Nat}{c:C}(hl:ρ[i]?=some (some (.lst ds)))(h:ev F c ρ S= .ok (d,none))(hs:ba c d=true)(hz:ds.length<=lim)(k:aP F ts (ρ.set i (some (.lst (ds++[d])))) none=r):aP F (.cons (.app i c) ts) ρ S=r:=nx (FU hl h hs hz) k
theorem gK{c:C}(h:ev F c ρ S= .ok (d,none))(hd:itemsOf d=some ds):cg F (.seq c) ρ S= .ok (ds,none):=by show (ev F c ρ S).bind (λx=>match itemsOf x.1 with|some ds=>R.ok (ds,x.2)|none=>.bad)=_;rw[h,R.ah];show (match itemsOf d with|some ds=>R.ok (ds,none)|none=>.bad)=_;rw[hd]
theorem dJ{c:C}{n:Nat}(h:ev F c ρ S= .ok (.int n,none))(hn:n<=lim):cg F (.rng1 c) ρ S= .ok (aM 0 n,none):=by show (ev F c ρ S).bind (λx=>match x.1 with|.int j=>af (decide (j<=lim)&&decide (-lim<=j)) (.ok (aM 0 j.toNat,x.2))|_=>.bad)=_;rw[h,R.ah];show af (decide ((n:Int)<=lim)&&decide (-lim<=(n:Int))) (R.ok (aM 0 (n:Int).toNat,none))=_;rw[show (decide ((n:Int)<=lim)&&decide (-lim<=(n:Int)))=true by have:lim=1000000:=rfl;simp;lia];simp
theorem iN{a b:C}{da db:Dt}{xs ys:List Dt}(ha:ev F a ρ S= .ok (da,none))(hb:ev F b ρ none= .ok (db,none))(h1:cM da=some xs)(h2:cM db=some ys):cg F (.zip a b) ρ S= .ok (cT xs ys,none):=by show (ev F a ρ S).bind (λx=>(ev F b ρ x.2).bind λy=>match cM x.1,cM y.1 with|some xs,some ys=>R.ok (cT xs ys,y.2)|_,_=>.bad)=_;rw[ha,R.ah,hb,R.ah];show (match cM da,cM db with|some xs,some ys=>R.ok (cT xs ys,none)|_,_=>.bad)=_;rw[h1,h2]
def bf(F:FT)(e:C):ai->Sx->R (List Dt×Sx):=λρ1 none=>(ev F e ρ1 none).bind λy=>af (ba e y.1) (.ok ([y.1],y.2))
theorem aO{cap:List (Option Nat)}{it:kJ}{tg:Tg}{cs:Cs}{e:C}{out:List Dt}(h:cg F it ρ S= .ok (ds,none))(hl:ds.length<=lim)(hk:(decide (kG it<=1)||jL F it ρ S)=true)(hc:aE (aB tg (a6 F cs) (bf F e) (fK cap ρ)) ds none= .ok (out,none)):
  ev F (.comp cap it tg cs e) ρ S= .ok (.lst out,none):=by
 rw[rN,h,R.ah,Uk hl,hk,UM,guard_true];show (aE (aB tg (a6 F cs) (bf F e) (fK cap ρ)) ds none).bind _=_;rw[hc];rfl
theorem aI{tg:Tg}{e:C}{y:Dt}(hs:f7 tg d ρ= .ok ρ1)(he:ev F e ρ1 S= .ok (y,none))(hb:ba e y=true):aB tg (a6 F .nil) (bf F e) ρ d S= .ok ([y],none):=by unfold aB bf;rw[hs,R.ah,jY,R.ah];simp only[W1,he,R.ah,hb,guard_true]
theorem turn_if{tg:Tg}{c e:C}{b:Bool}{y:Dt}(hs:f7 tg d ρ= .ok ρ1)(hc:cA F c ρ1 S= .ok (b,S))(he:b=true->ev F e ρ1 S= .ok (y,S)/\ba e y=true):aB tg (a6 F (.cons c .nil)) (bf F e) ρ d S= .ok (if b=true then[y] else[],S):=by
 unfold aB bf;rw[hs,R.ah,kr,hc,R.ah];cases b with
 |false=>rfl
 |true=>simp only[W1,(he rfl).1,R.ah,(he rfl).2,guard_true]
theorem pA{k:Nat}(h:ds[k]?=some d):cF (.tup ds) (.int k)= .ok d/\cF (.lst ds) (.int k)= .ok d:=by
 have:wQ ds k= .ok d:=by unfold wQ;rw[L2.kK h]
 exact⟨this,this⟩
end
theorem wR{ms:List Mx.D}(h:kB ms=true):c9 .sorted [.lst (cP ms)]= .ok (.lst (cP (eZ ms)))/\c9 .sorted [.tup (cP ms)]= .ok (.lst (cP (eZ ms))):=by
 constructor
 ·show (match fW (cP ms)with|some ms=>af (kB ms) (R.ok (Dt.lst (cP (eZ ms))))|none=>.bad)=_;rw[lh];show af (kB ms) _=_;rw[h];rfl
 ·show (match fW (cP ms)with|some ms=>af (kB ms) (R.ok (Dt.lst (cP (eZ ms))))|none=>.bad)=_;rw[lh];show af (kB ms) _=_;rw[h];rfl
theorem FI{ms:List Mx.D}(k:Mx.SK)(hl:ms.length<1000000)(hd:Mx.D.e9 ms<=100)(hk:∀d∈ms,KA k d=true)(hp:∀d∈ms,∀e∈ms,xH d e=true):kB ms=true:=by
 have BH:([Mx.SK.tt,.ts,.ti,.s,.i].any λk=>ms.all (KA k))=true:=by rw[Uu];exact⟨k,by cases k<;>simp,Ut.mpr hk⟩
 unfold kB;rw[BH,Uk hl,Uk hd];simp only[Bool.true_and,Uy,TC];exact .inr (Ut.mpr λd h=>Ut.mpr λe h2=>hp d h e h2)
theorem vc{n:Nat}:∀{ms:List Mx.D},(∀d∈ms,Mx.D.dep d<=n)->Mx.D.e9 ms<=n
 |[],_=>by simp[Mx.D.e9]
 |m::ms,h=>by
  have h1:=h m TN;have h2:=vc λd hd=>h d (TK _ hd)
  simp only[Mx.D.e9]
  lia
theorem fU(ms:List Mx.D):(eZ ms).Perm ms:=List.mergeSort_perm ..
theorem iy{d:Mx.D}{ms:List Mx.D}:d∈eZ ms↔d∈ms:=(fU ms).mem_iff
theorem xG(a b c:Mx.D)(h1:vP a b=true)(h2:vP b c=true):vP a c=true:=by
 unfold vP at *;simp only[UQ]at *;cases h:Mx.D.lt c a with
 |false=>rfl
 |true=>
  exfalso;cases h3:Mx.D.lt a b with
  |true=>rw[Mx.D.lt_trans c a b h h3]at h2;cases h2
  |false=>have:=Mx.D.gM a b h3 h1;subst this;rw[h]at h2;cases h2
theorem xF(a b:Mx.D):(vP a b||vP b a)=true:=by
 unfold vP;cases h:Mx.D.lt b a with
 |false=>rfl
 |true=>
  cases h2:Mx.D.lt a b with
  |false=>rfl
  |true=>have:=Mx.D.lt_trans a b a h2 h;rw[Mx.D.lt_irrefl]at this;cases this
theorem qb(ms:List Mx.D):(eZ ms).Pairwise λa b=>vP a b=true:=List.pairwise_mergeSort xG xF ms
variable{fs:List Fn}
def yL(ic:Nat):Ts:=(.cons (.asg 3 (.bin .Add (.bin .Mult (.bin .Mod (.call ic (.cons (.var 0) (.cons (.var 1) .nil)) []) (.con (.int 2147483647))) (.bin .Add (.con (.int 48271)) (.bin .Mult (.con (.int 2)) (.var 1)))) (.bin .Mult (.con (.int 31)) (.var 1)))) (.cons (.ret (.bin .Mod (.bin .FloorDiv (.bin .Mod (.var 3) (.con (.int 2147483629))) (.con (.int 7))) (.var 2))) .nil))
def b8(ns:List Int)(k many:Nat):Nat:=((((aC ns k % 2147483647)*(48271+2*k)+31*k) % 2147483629/7) % many).toNat
theorem gR{ns:List Int}{k many:Nat}(h:0<many):b8 ns k many<many:=by
 unfold b8;have h1:=Uv (((aC ns k % 2147483647)*(48271+2*k)+31*k) % 2147483629/7) (b:=many) ();have h2:=Uw (((aC ns k % 2147483647)*(48271+2*k)+31*k) % 2147483629/7) (b:=many) ()
 lia
structure uQ(fs:List Fn)(ip:Nat):Prop where
 ex:∃ic,fs[ic]?=some ⟨2,3,false,uT⟩/\fs[ip]?=some ⟨3,4,false,yL ic⟩
theorem Dx{ip:Nat}(hp:uQ fs ip){n:Nat}(hn:2<=n){ns:List Int}{k many:Nat}(hk:k<1000000)(hm:0<many):au fs n ip [.bO ns,.int k,.int many] none= .ok (.int (b8 ns k many),none):=by
 obtain⟨ic,h1,h2⟩:=hp.ex;refine ay h2 () rfl ?_;show fin (aP (au fs (n-1)) (yL ic) [some (.bO ns),some (.int k),some (.int many),none] none)=_;have hc:=u4 h1 (n:=n-1) () (ns:=ns) hk;generalize hx:aC ns k=x at hc;have r1:=Uv x (b:=2147483647) ⋯;have r2:=Uw x (b:=2147483647) ⋯;have m1:=bE (i:=x) (j:=2147483647) ⋯;have m2:=aG (i:=2) (j:=k) (.inl ⋯);have m3:=aG (i:=x % 2147483647) (j:=48271+2*k) (.inl ());have m4:=aG (i:=31) (j:=k) (.inl ⋯);have m5:=bE (i:=x % 2147483647*(48271+2*k)+31*k) (j:=2147483629) ⋯;have m6:=Aw (i:=(x % 2147483647*(48271+2*k)+31*k) % 2147483629) (j:=7) ⋯ ⋯;have m7:=bE (i:=(x % 2147483647*(48271+2*k)+31*k) % 2147483629/7) (j:=many) ();refine aj (d:=.int (x % 2147483647*(48271+2*k)+31*k)) (by simp only[RX,hc,m1,m2,m3,m4]) rfl ?_;refine(aq (d:=_) (by simp only[RX,m5,m6,m7];rfl)).trans ?_;have h1:=Uv (((x % 2147483647)*(48271+2*k)+31*k) % 2147483629/7) (b:=many) ();have e:((b8 ns k many:Nat):Int)=((x % 2147483647)*(48271+2*k)+31*k) % 2147483629/7 % many:=by unfold b8;rw[hx];omega
 rw[e]
theorem d8{n:Nat}{pre post:List Dt}{x:Dt}(h:aM 0 n=pre++x::post):pre.length<n/\x= .int pre.length:=by
 have hl:(aM 0 n).length=n:=by simp[aM]
 have h1:pre.length<n:=by rw[<-hl,h];simp
 refine⟨h1,?_⟩;have e:(aM 0 n)[pre.length]?=some x:=by rw[h];simp
 unfold aM at e;simp[h1]at e;exact e.symm
variable{fs:List Fn}
mutual
noncomputable def sm:Dt->Bool
 |.int _=>true
 |.str _=>true
 |.tup ds=>Pk ds
 |.lst ds=>Pk ds
 |_=>false
noncomputable def Pk:List Dt->Bool
 |[]=>true
 |d::ds=>sm d&&Pk ds
end
theorem qZ{α:Type}:∀l:List α,l=[]\/∃a x,l=a++[x]
 |[]=>.inl rfl
 |x::l=>.inr ⟨(x::l).dropLast,(x::l).getLast ∅,(Vo ∅).symm⟩
variable{fs:List Fn}
theorem qN{α β:Type}{f:α->List β}{k:Nat}:∀{l:List α},(∀x∈l,(f x).length<=k)->(l.flatMap f).length<=l.length*k
 |[],_=>by simp
 |x::l,h=>by
  have h1:=h x TN;have h2:=qN λy hy=>h y (TK _ hy)
  rw[Vy,T6,T8,WD]
  lia
theorem Dd{a b:List Dt}(h:a.length+b.length<=lim):kI .Add (.lst a) (.lst b)= .ok (.lst (a++b)):=by show af (decide (a.length+b.length<=lim)) _=_;rw[Uk h];rfl
variable{fs:List Fn}
def row(it:Mx.D)(c:Int):Mx.D:=.tup [it,.int c]
variable{fs:List Fn}
section
variable{F:FT}{S:Sx}{ρ:ai}
theorem ek(b:BI)(e:C):ev F (.bi b (.cons e .nil)) ρ S=(ev F e ρ S).bind λx=>(c9 b [x.1]).bind λd=>.ok (d,x.2):=by simp only[RX];cases ev F e ρ S<;>rfl
theorem ints_map(l:List Int):intsOf (l.map Dt.int)=some l:=by
 induction l with
 |nil=>rfl
 |cons x l ih=>rw[UB,intsOf,ih];rfl
theorem Fx(l:List Int):c9 .sum [.lst (l.map Dt.int)]= .ok (.int l.sum):=by show (match intsOf (l.map Dt.int)with|some ns=>R.ok (Dt.int ns.sum)|none=>.bad)=_;rw[ints_map]
end
variable{fs:List Fn}
def lD(F:FT)(n:Nat)(gr:kJ)(i5:Tg)(Es:Cs)(e:C):ai->Sx->R (List Dt×Sx):=λρ1 none=>(cg F gr ρ1 none).bind λx2=>af (decide (n*x2.1.length<=lim)&&decide (kG gr=0)) (aE (aB i5 (a6 F Es) (bf F e) ρ1) x2.1 x2.2)
theorem lK{F:FT}{ρ:ai}{S:Sx}{ds:List Dt}{cap:List (Option Nat)}{it gr:kJ}{tg i5:Tg}{cs Es:Cs}{e:C}{out:List Dt}(h:cg F it ρ S= .ok (ds,none))(hl:ds.length<=lim)(hk:(decide (kG it<=1)||jL F it ρ S)=true)(hc:aE (aB tg (a6 F cs) (lD F ds.length gr i5 Es e) (fK cap ρ)) ds none= .ok (out,none)):
  ev F (.gw cap it tg cs gr i5 Es e) ρ S= .ok (.lst out,none):=by
 rw[oo,h,R.ah,Uk hl,hk,UM,guard_true];show (aE (aB tg (a6 F cs) (lD F ds.length gr i5 Es e) (fK cap ρ)) ds none).bind _=_;rw[hc];rfl
theorem Bh{F:FT}{ρ ρ1:ai}{S:Sx}{d:Dt}{ds out:List Dt}{n:Nat}{gr:kJ}{tg i5:Tg}{Es:Cs}{e:C}(hs:f7 tg d ρ= .ok ρ1)(h:cg F gr ρ1 S= .ok (ds,none))(hl:n*ds.length<=lim)(hk:kG gr=0)(hc:aE (aB i5 (a6 F Es) (bf F e) ρ1) ds none= .ok (out,none)):
  aB tg (a6 F .nil) (lD F n gr i5 Es e) ρ d S= .ok (out,none):=by
 unfold aB lD;rw[hs,R.ah,jY,R.ah];simp only[W1,h,R.ah,Uk hl,Uk hk,UM,guard_true,hc]
variable{fs:List Fn}
def tI(l:List Int):Dt:=.tup (l.map Dt.int)
def lI(R:List (List Int)):Dt:=.lst (R.map tI)
section
variable{S:Sx}
theorem bY{f:Dt->Sx->R (List Dt×Sx)}{g:Int->Dt}:∀{l:List Int},(∀x∈l,f (.int x) S= .ok ([g x],S))->aE f (l.map Dt.int) S= .ok (l.map g,S)
 |[],_=>rfl
 |x::l,h=>by rw[UB,aE,h x TN,R.ah,bY λy hy=>h y (TK _ hy)];rfl
theorem cc{α:Type}{t:α->Dt}{f:Dt->Sx->R (List Dt×Sx)}{g:α->List Dt}:∀{l:List α},(∀x∈l,f (t x) S= .ok (g x,S))->aE f (l.map t) S= .ok (l.flatMap g,S)
 |[],_=>rfl
 |x::l,h=>by rw[UB,aE,h x TN,R.ah,cc λy hy=>h y (TK _ hy)];rfl
theorem aR{α:Type}{t:α->Dt}{f:Dt->Sx->R (List Dt×Sx)}{g:α->Dt}{l:List α}(h:∀x∈l,f (t x) S= .ok ([g x],S)):aE f (l.map t) S= .ok (l.map g,S):=by rw[cc (g:=λx=>[g x]) h,ka]
theorem cK(a b:List Int):cT (a.map Dt.int) (b.map Dt.int)=(a.zip b).map λp=>.tup [.int p.1,.int p.2]:=by
 unfold cT
 induction a generalizing b with
 |nil=>rfl
 |cons x a ih=>cases b with|nil=>rfl|cons y b=>simp[ih]
theorem wF(l:List Int):c9 .sum [tI l]= .ok (.int l.sum):=by show (match intsOf (l.map Dt.int)with|some ns=>R.ok (Dt.int ns.sum)|none=>.bad)=_;rw[ints_map]
end
def aa(a b:List Int):Int:=((a.zip b).map λp=>p.1*p.2).sum
abbrev E2(x:Int):Prop:=x.natAbs<2^64
def qF:Ts:=(.cons (.ret (.bi .sum (.cons (.comp [none,none,none] (.zip (.var 0) (.var 1)) (.tp [1,2]) .nil (.bin .Mult (.var 1) (.var 2))) .nil))) .nil)
theorem Dy{ip N:Nat}(hf:fs[ip]?=some ⟨2,2,false,qF⟩)(hN:1<=N){a b:List Int}(hb:∀x∈b,E2 x)(hl:a.length<=1000):au fs N ip [tI a,tI b] none= .ok (.int (aa a b),none):=by
 have cm:lim=1000000:=rfl;refine ay hf hN rfl ?_;show fin (aP (au fs (N-1)) qF [some (tI a),some (tI b)] none)=_;refine aq ?_;have hc:aE (aB (.tp [1,2]) (a6 (au fs (N-1)) .nil) (bf (au fs (N-1)) (.bin .Mult (.var 1) (.var 2))) [none,none,none]) (cT (a.map Dt.int) (b.map Dt.int)) none= .ok ((a.zip b).map λp=>.int (p.1*p.2),none):=by
  rw[cK];refine aR λp hp=>?_
  have m:=aG (i:=p.1) (j:=p.2) (.inr (hb p.2 (V6 hp).2));exact aI (ρ1:=[none,some (.int p.1),some (.int p.2)]) rfl (by simp only[RX,m]) rfl
 rw[ek,aO (ds:=cT (a.map Dt.int) (b.map Dt.int)) (iN rfl rfl rfl rfl) (by rw[cK,TU,VS];lia) rfl hc,R.ah];have e:((a.zip b).map λp=>Dt.int (p.1*p.2))=((a.zip b).map λp=>p.1*p.2).map Dt.int:=by rw[VV];rfl
 rw[e,Fx];rfl
def gI(l:List Int)(p:Nat):Int:=l.getD p 0
def bB(r:List Int)(p:Nat)(b:List Int):List Int:=(r.zip b).map λq=>gI b p*q.1-gI r p*q.2
theorem fN{l:List Int}{p:Nat}(h:p<l.length):cF (tI l) (.int p)= .ok (.int (gI l p)):=by refine(pA (ds:=l.map Dt.int) (k:=p) (d:=.int (gI l p)) ?_).1;rw[T9,Ue h];simp[gI,List.getD,Ue h]
def yG:Ts:=(.cons (.ret (.bi .tuple (.cons (.comp [none,none,none,some 2,some 1,some 0] (.zip (.var 0) (.var 2)) (.tp [1,2]) .nil (.bin .Sub (.bin .Mult (.idx (.var 3) (.var 4)) (.var 1)) (.bin .Mult (.idx (.var 5) (.var 4)) (.var 2)))) .nil))) .nil)
theorem bx{l:List Int}{p:Nat}(h:p<l.length):gI l p∈l:=by simp[gI,List.getD,Ue h]
theorem za{ic N:Nat}(hf:fs[ic]?=some ⟨3,3,false,yG⟩)(hN:1<=N){r b:List Int}{p:Nat}(hr:p<r.length)(hb:p<b.length)(R6:∀x∈r,E2 x)(MC:∀x∈b,E2 x)(hl:r.length<=1000):au fs N ic [tI r,.int p,tI b] none= .ok (tI (bB r p b),none):=by
 have cm:lim=1000000:=rfl;refine ay hf hN rfl ?_;show fin (aP (au fs (N-1)) yG [some (tI r),some (.int p),some (tI b)] none)=_;refine aq ?_;have i1:=fN hr;have i2:=fN hb;have hc:aE (aB (.tp [1,2]) (a6 (au fs (N-1)) .nil) (bf (au fs (N-1)) (.bin .Sub (.bin .Mult (.idx (.var 3) (.var 4)) (.var 1)) (.bin .Mult (.idx (.var 5) (.var 4)) (.var 2)))) [none,none,none,some (tI b),some (.int p),some (tI r)]) (cT (r.map Dt.int) (b.map Dt.int)) none= .ok ((r.zip b).map λq=>.int (gI b p*q.1-gI r p*q.2),none):=by
  rw[cK];refine aR λq hq=>?_
  have m1:=aG (i:=gI b p) (j:=q.1) (.inr (R6 _ (V6 hq).1));have m2:=aG (i:=gI r p) (j:=q.2) (.inr (MC _ (V6 hq).2));exact aI (ρ1:=[none,some (.int q.1),some (.int q.2),some (tI b),some (.int p),some (tI r)]) rfl (by simp only[RX,i1,i2,m1,m2]) rfl
 rw[ek,aO (ds:=cT (r.map Dt.int) (b.map Dt.int)) (iN rfl rfl rfl rfl) (by rw[cK,TU,VS];lia) rfl hc,R.ah];have e:((r.zip b).map λq=>Dt.int (gI b p*q.1-gI r p*q.2))=(bB r p b).map Dt.int:=by unfold bB;rw[VV];rfl
 rw[e];rfl
theorem u6{r b:List Int}(h:r.length=b.length)(p:Nat):(bB r p b).length=r.length:=by
 unfold bB;rw[TU,VS]
 lia
theorem jK{r b:List Int}{p k:Nat}(h:r.length=b.length)(hk:k<r.length):gI (bB r p b) k=gI b p*gI r k-gI r p*gI b k:=by
 have hz:k<(r.zip b).length:=by rw[VS];lia
 unfold bB gI;rw[List.getD,T9,Ue hz,List.getElem_zip];simp[List.getD,Ue hk,Ue (h▸hk:k<b.length)]
theorem y9{r b:List Int}{p:Nat}{B:Nat}(hr:p<r.length)(hb:p<b.length)(h1:∀x∈r,x.natAbs<=B)(h2:∀x∈b,x.natAbs<=B):∀x∈bB r p b,x.natAbs<=2*B*B:=by
 intro x hx;obtain⟨q,hq,rfl⟩:=Us.mp hx;have a1:=Wz (h2 _ (bx hb)) (h1 _ (V6 hq).1);have a2:=Wz (h1 _ (bx hr)) (h2 _ (V6 hq).2);have e1:(gI b p*q.1).natAbs=(gI b p).natAbs*q.1.natAbs:=U6 ..;have e2:(gI r p*q.2).natAbs=(gI r p).natAbs*q.2.natAbs:=U6 ..;have:2*B*B=B*B+B*B:=by rw[Nat.mul_assoc,Nat.two_mul]
 omega
theorem tK{F:FT}{ρ:ai}{S S':Sx}{b:BI}{es:Cs}{v:Bool}(h:ev F (.bi b es) ρ S= .ok (.bl v,S')):cA F (.bi b es) ρ S= .ok (v,S'):=by
 rw[pV]at h;rw[v9];cases h1:gf F es ρ S with
 |ok x=>
  rw[h1]at h;simp only[R.ah]at h ⊢;cases h2:c9 b x.1 with
  |ok d=>rw[h2]at h;simp only[R.ah]at h ⊢;cases h;rfl
  |ex k=>rw[h2]at h;cases h
  |bad=>rw[h2]at h;cases h
 |ex k=>rw[h1]at h;cases h
 |bad=>rw[h1]at h;cases h
theorem Cd(l:List Bool):iD (l.map Dt.bl)=some l:=by
 induction l with
 |nil=>rfl
 |cons x l ih=>rw[UB,iD,ih];rfl
theorem td(l:List Bool):c9 .any [.lst (l.map Dt.bl)]= .ok (.bl (l.any id)):=by show (match iD (l.map Dt.bl)with|some ns=>R.ok (Dt.bl (ns.any id))|none=>.bad)=_;rw[Cd]
theorem lA(i:Int):c9 .abs [.int i]= .ok (.int i.natAbs):=by show R.ok (Dt.int (if i<0 then -i else i))=_;congr 2;split<;>lia
def uU:C:=(.bi .any (.cons (.gw [none,none,none] (.seq (.var 0)) (.nm 1) .nil (.seq (.var 1)) (.nm 2) .nil (.cmp .Gt (.bi .abs (.cons (.var 2) .nil)) (.con (.int 3)))) .nil))
def uV:C:=(.bi .any (.cons (.comp [none,none] (.seq (.var 2)) (.nm 1) .nil (.cmp .Gt (.bi .abs (.cons (.var 1) .nil)) (.con (.int 20)))) .nil))
def B4:Ts:=(.cons (.ifs (.cmp .Gt (.bi .len (.cons (.var 0) .nil)) (.con (.int 16))) (.cons (.rs 0 []) .nil) .nil) (.cons (.ifs (.cmp .Gt (.var 1) (.con (.int 4))) (.cons (.rs 0 []) .nil) .nil) (.cons (.ifs uU (.cons (.rs 0 []) .nil) .nil) (.cons (.ifs uV (.cons (.rs 0 []) .nil) .nil) .nil))))
def wU(M:List (List Int)):Bool:=M.any λr=>r.any λx=>decide (3<x.natAbs)
def wV(r:List Int):Bool:=r.any λx=>decide (20<x.natAbs)
def brk(M:List (List Int))(many:Int)(r:List Int):Bool:=decide (16<M.length)||decide (4<many)||wU M||wV r
def B8:Ts:=(.cons (.fr (.tp [2,3]) (.zip (.var 0) (.var 1)) (.cons (.ifs (.cmp .Gt (.var 2) (.var 3)) (.cons (.ret (.con (.bl false))) .nil) .nil) .nil)) (.cons (.ret (.con (.bl true))) .nil))
def Fv(iu:Nat):Ts:=(.cons (.fr (.nm 2) (.seq (.var 1)) (.cons (.ifs (.call iu (.cons (.var 2) (.cons (.var 0) .nil)) []) (.cons (.ret (.con (.bl true))) .nil) .nil) .nil)) (.cons (.ret (.con (.bl false))) .nil))
variable{fs:List Fn}
def pD(q:Nat×List Int):Dt:=.tup [.int q.1,tI q.2]
def kz:Nat->Nat
 |0=>20
 |p+1=>2*kz p*kz p
theorem uX:∀p,1<=kz p
 |0=>by decide
 |p+1=>by have:=uX p;have h:1*1<=2*kz p*kz p:=Wz () this;simpa [kz]using h
theorem oK(p:Nat):kz p<=kz (p+1):=by have:=uX p;have h:1*kz p<=2*kz p*kz p:=Wz () (TM _);simpa [kz]using h
theorem sY{p q:Nat}(h:p<=q):kz p<=kz q:=by
 induction h with
 |refl=>exact TM _
 |step _ ih=>exact TX ih (oK _)
structure wN(m p:Nat)(PS:List (Nat×List Int))(LS:List (List Int)):Prop where
 len:∀r∈LS,r.length=m+1
 bd:∀r∈LS,∀x∈r,x.natAbs<=kz p
 pl:∀q∈PS,q.1<p/\q.2.length=m+1/\gI q.2 q.1≠0
 pb:∀q∈PS,∀x∈q.2,x.natAbs<=kz p
 zr:∀q∈PS,∀r∈LS,gI r q.1=0
 nd:(PS.map (·.1)).Nodup
 ct:PS.length<=p
theorem wN.next{m p:Nat}{PS:List (Nat×List Int)}{LS:List (List Int)}(h:wN m p PS LS):wN m (p+1) PS LS:=
 ⟨h.len,λr hr x hx=>TX (h.bd r hr x hx) (oK p),λq hq=>⟨by have:=(h.pl q hq).1;lia,(h.pl q hq).2⟩,λq hq x hx=>TX (h.pb q hq x hx) (oK p),h.zr,h.nd,by have:=h.ct;lia⟩
theorem wN.clear{m p:Nat}{PS:List (Nat×List Int)}{LS:List (List Int)}{b:List Int}(h:wN m p PS LS)(hp:p<m)(hb:b∈LS)(hn:gI b p≠0):wN m (p+1) (PS.map (λq=>(q.1,bB q.2 p b))++[(p,b)]) (LS.map λr=>bB r p b):=by
 have lb:=h.len b hb;refine⟨?_,?_,?_,?_,?_,?_,?_⟩
 ·intro r hr;obtain⟨r0,h0,rfl⟩:=Us.mp hr;rw[u6 (by rw[h.len r0 h0,lb]),h.len r0 h0]
 ·intro r hr x hx;obtain⟨r0,h0,rfl⟩:=Us.mp hr;exact y9 (by rw[h.len r0 h0];lia) (by rw[lb];lia) (h.bd r0 h0) (h.bd b hb) x hx
 ·intro q hq;rcases Uc.mp hq with hq|hq
  ·obtain⟨q0,h0,rfl⟩:=Us.mp hq;obtain⟨h1,h2,h3⟩:=h.pl q0 h0;refine⟨by show q0.1<p+1;lia,by show (bB q0.2 p b).length=_;rw[u6 (by rw[h2,lb]),h2],?_⟩;show gI (bB q0.2 p b) q0.1≠0;rw[jK (by rw[h2,lb]) (by rw[h2];lia),h.zr q0 h0 b hb,U5,U9];exact Int.mul_ne_zero hn h3
  ·rw[Ur]at hq;subst hq;exact⟨by show p<p+1;lia,lb,hn⟩
 ·intro q hq x hx;rcases Uc.mp hq with hq|hq
  ·obtain⟨q0,h0,rfl⟩:=Us.mp hq;exact y9 (by rw[(h.pl q0 h0).2.1];lia) (by rw[lb];lia) (h.pb q0 h0) (h.bd b hb) x hx
  ·rw[Ur]at hq;subst hq;exact TX (h.bd b hb x hx) (oK p)
 ·intro q hq r hr;obtain⟨r0,h0,rfl⟩:=Us.mp hr;have l0:=h.len r0 h0;rcases Uc.mp hq with hq|hq
  ·obtain⟨q0,h1,rfl⟩:=Us.mp hq;show gI (bB r0 p b) q0.1=0;rw[jK (by rw[l0,lb]) (by rw[l0];have:=(h.pl q0 h1).1;lia),h.zr q0 h1 r0 h0,h.zr q0 h1 b hb,U5,U5,U9]
  ·rw[Ur]at hq;subst hq;show gI (bB r0 p b) p=0;rw[jK (by rw[l0,lb]) (by rw[l0];lia),U1,U8]
 ·rw[UC,VV,List.nodup_append];refine⟨h.nd,∅,λa ha c hc e=>?_⟩;obtain⟨q,hq,rfl⟩:=Us.mp ha;rw[UB,VW,Ur]at hc;have:=(h.pl q hq).1;have e:q.1=c:=e
  lia
 ·rw[T6,TU];have:=h.ct;simp only[T8,VL]
  lia
def Ei:C:=(.comp [none,none,some 5] (.seq (.var 3)) (.nm 1) (.cons (.cmp .NotEq (.idx (.var 1) (.var 2)) (.con (.int 0))) .nil) (.var 1))
def yN(ic:Nat):C:=(.comp [none,none,none,some 7,some 5] (.seq (.var 4)) (.tp [1,2]) .nil (.tup (.cons (.var 1) (.cons (.call ic (.cons (.var 2) (.cons (.var 4) (.cons (.var 3) .nil))) []) .nil))))
def Ej(ic:Nat):C:=(.comp [none,none,some 7,some 5] (.seq (.var 3)) (.nm 1) .nil (.call ic (.cons (.var 1) (.cons (.var 3) (.cons (.var 2) .nil))) []))
def Eg(ic:Nat):Ts:=(.cons (.asg 6 Ei) (.cons (.ifs (.var 6) (.cons (.asg 7 (.idx (.var 6) (.con (.int 0)))) (.cons (.asg 4 (.bin .Add (yN ic) (.lst (.cons (.tup (.cons (.var 5) (.cons (.var 7) .nil))) .nil)))) (.cons (.asg 3 (Ej ic)) .nil))) .nil) .nil))
def Eh:C:=(.comp [none,none,none] (.zip (.var 0) (.var 2)) (.tp [1,2]) .nil (.bin .Add (.bi .tuple (.cons (.var 1) .nil)) (.tup (.cons (.var 2) .nil))))
def yM:C:=(.bi .any (.cons (.comp [none,none,some 1] (.seq (.var 3)) (.nm 1) .nil (.cmp .NotEq (.idx (.var 1) (.var 2)) (.con (.int 0)))) .nil))
def B6(ic:Nat):Ts:=(.cons (.asg 3 Eh) (.cons (.asg 4 (.lst .nil)) (.cons (.fr (.nm 5) (.rng1 (.var 1)) (Eg ic)) (.cons (.ifs yM (.cons (.ret (.con .bg)) .nil) .nil) (.cons (.ret (.var 4)) .nil)))))
theorem zip_rows(M:List (List Int))(r:List Int):cT (M.map tI) (r.map Dt.int)=(M.zip r).map λq=>.tup [tI q.1,.int q.2]:=by
 unfold cT
 induction M generalizing r with
 |nil=>rfl
 |cons x a ih=>cases r with|nil=>rfl|cons y b=>simp[ih]
theorem bZ(l:List Int):rh (tI l)=true:=by
 show gj (l.map Dt.int)=true
 induction l with
 |nil=>rfl
 |cons x l ih=>rw[UB,gj,ih];rfl
variable{fs:List Fn}
theorem oM{l:List Int}(h:l≠[]):c9 .maxL [.lst (l.map Dt.int)]= .ok (.int (c6 l)):=by
 show (match intsOf (l.map Dt.int)with|some ns=>af (!ns.isEmpty) (R.ok (Dt.int (c6 ns)))|none=>.bad)=_;rw[ints_map];cases l with
 |nil=>exact absurd rfl h
 |cons=>rfl
theorem uY{l:List Int}(h:l≠[]):c9 .minL [.lst (l.map Dt.int)]= .ok (.int (iP l)):=by
 show (match intsOf (l.map Dt.int)with|some ns=>af (!ns.isEmpty) (R.ok (Dt.int (iP ns)))|none=>.bad)=_;rw[ints_map];cases l with
 |nil=>exact absurd rfl h
 |cons=>rfl
def gB:Nat->Nat->Nat
 |0,_=>1
 |1,f=>20+3*f
 |2,f=>6*(20+3*f)
 |3,f=>36*(20+3*f)
 |_,_=>0
def yK:C:=(.bi .maxL (.cons (.gw [none,none,none] (.seq (.var 0)) (.nm 1) .nil (.seq (.var 1)) (.nm 2) .nil (.bi .abs (.cons (.var 2) .nil))) .nil))
def yJ:C:=(.bi .maxL (.cons (.comp [none,none] (.seq (.var 1)) (.nm 1) .nil (.bi .abs (.cons (.var 1) .nil))) .nil))
def yI:Ts:=(.cons (.ifs (.cmp .Eq (.var 2) (.con (.int 0))) (.cons (.ret (.con (.int 1))) .nil) .nil) (.cons (.asg 4 yK) (.cons (.asg 5 yJ) (.cons (.asg 6 (.tup (.cons (.con (.int 1)) (.cons (.bin .Mult (.con (.int 2)) (.var 4)) (.cons (.bin .Mult (.bin .Mult (.con (.int 4)) (.var 4)) (.var 4)) (.cons (.con (.int 0)) .nil)))))) (.cons (.ret (.bin .Mult (.idx (.var 6) (.bin .Sub (.var 2) (.con (.int 1)))) (.bin .Add (.var 5) (.bin .Mult (.var 3) (.var 4))))) .nil)))))
theorem tw{α:Type}(xs:List α){p:Nat}(h:p<=xs.length):cutD xs none (some (p:Int))=xs.take p:=by unfold cutD;rw[HT.mK,HT.wu,Vt,Nat.sub_zero,Nat.min_eq_left h]
theorem lJ{α:Type}(xs:List α){p:Nat}(h:p<=xs.length):cutD xs (some (p:Int)) none=xs.drop p:=by unfold cutD;rw[HT.mK,HT.wu,Nat.min_eq_left h,Wi (by rw[VJ];lia)]
def El:C:=(.gw [none,none,none,some 2,some 4] (.seq (.var 3)) (.nm 1) .nil (.rng1 (.bin .Add (.var 3) (.con (.int 1)))) (.nm 2) .nil (.bin .Add (.bin .Add (.sliH (.var 1) (.var 4)) (.tup (.cons (.var 2) .nil))) (.sliL (.var 1) (.bin .Add (.var 4) (.con (.int 1))))))
def Ca:Ts:=(.cons (.asg 3 (.lst (.cons (.bin .Mult (.tup (.cons (.con (.int 0)) .nil)) (.var 0)) .nil))) (.cons (.fr (.nm 4) (.seq (.var 1)) (.cons (.asg 3 El) .nil)) (.cons (.ret (.var 3)) .nil)))
theorem wq{m:Nat}(x:Int)(h:m<=1000):kI .Mult (.tup [.int x]) (.int m)= .ok (tI (List.replicate m x)):=by
 show af (decide (((m:Int)).natAbs<=lim)&&decide ([Dt.int x].length*((m:Int)).toNat<=lim)) (R.ok (Dt.tup (List.replicate ((m:Int)).toNat [Dt.int x]).flatten))=_;have cm:lim=1000000:=rfl;rw[Uk (),Uk (by simp;lia)];have e:(List.replicate ((m:Int)).toNat [Dt.int x]).flatten=(List.replicate m x).map Dt.int:=by
  rw[Va,List.map_replicate]
  induction m with
  |zero=>rfl
  |succ m ih=>rw[Wc,Vz,ih (),Wc];rfl
 rw[e];rfl
variable{fs:List Fn}
abbrev PH(m:Nat)(q:List Int):Prop:=q.length=m/\∀x∈q,(0:Int)<=x/\x.natAbs<2^200
theorem pT{A B:Nat}:∀{l q:List Int},(∀x∈l,x.natAbs<=A)->(∀x∈q,x.natAbs<=B)->(aa l q).natAbs<=l.length*(A*B)
 |[],q,_,_=>by simp[aa]
 |x::l,[],_,_=>by simp[aa]
 |x::l,y::q,h1,h2=>by
  have ih:=pT (l:=l) (q:=q) (λz hz=>h1 z (TK _ hz)) λz hz=>h2 z (TK _ hz)
  have e:aa (x::l) (y::q)=x*y+aa l q:=rfl;have h3:=Wz (h1 x TN) (h2 y TN);have h4:(x*y).natAbs=x.natAbs*y.natAbs:=U6 ..;have h5:=Int.natAbs_add_le (x*y) (aa l q);rw[e,T8,WD]
  lia
theorem qI{α:Type}(xs:List α)(h:xs≠[]):cutD xs none (some (-1))=xs.dropLast:=by
 unfold cutD;have:xs.length≠0:=λz=>h (Vu z)
 have e:HT.cv xs.length xs.length (some (-1))=xs.length-1:=by
  show (if (-1:Int)<0 then((-1:Int)+(xs.length:Int)).toNat else min (-1:Int).toNat xs.length)=_;rw[W0 ⋯]
  lia
 rw[HT.mK,e,Vt,Nat.sub_zero,List.dropLast_eq_take]
def yH(ip:Nat):Ts:=(.cons (.asgT [5,6] (.bi .dvm (.cons (.bin .Sub (.idx (.var 4) (.neg (.con (.int 1)))) (.call ip (.cons (.sliH (.var 4) (.neg (.con (.int 1)))) (.cons (.var 0) .nil)) [])) (.cons (.idx (.var 4) (.var 3)) .nil)))) (.cons (.ifs (.or (.cmp .NotEq (.var 6) (.con (.int 0))) (.cmp .Lt (.var 5) (.con (.int 0)))) (.cons (.ret (.con .bg)) .nil) .nil) (.cons (.ya 2 (.var 3) (.var 5)) .nil)))
def B5(ip:Nat):Ts:=(.cons (.asgM 2 (.bi .list (.cons (.var 0) .nil))) (.cons (.fr (.tp [3,4]) (.seq (.var 1)) (yH ip)) (.cons (.ret (.bi .tuple (.cons (.mvr 2) .nil))) .nil)))
theorem n8{x:Int}(h:x.natAbs<=kz 4)(h0:x≠0):x.natAbs.log2<9000:=by
 have h1:x.natAbs<2^100:=Wv h ⋯;have h2:x.natAbs.log2<100:=(Nat.log2_lt ()).mpr h1
 lia
def B7(is ig iw ic:Nat):Ts:=(.cons (.asg 3 (.call is (.cons (.var 0) (.cons (.var 1) (.cons (.var 2) .nil))) [])) (.cons (.ifs (.cmp .Is (.var 3) (.con .bg)) (.cons (.ret (.lst .nil)) .nil) .nil) (.cons (.asg 4 (.comp [none,none,none] (.seq (.var 3)) (.tp [1,2]) .nil (.var 1))) (.cons (.asg 5 (.comp [none,none,some 4] (.rng1 (.var 1)) (.nm 1) (.cons (.cmp .NotIn (.var 1) (.var 2)) .nil) (.var 1))) (.cons (.asg 6 (.call ig (.cons (.var 0) (.cons (.var 2) (.cons (.bi .len (.cons (.var 4) .nil)) (.cons (.bi .len (.cons (.var 5) .nil)) .nil)))) [])) (.cons (.asg 7 (.comp [none,none,some 3] (.seq (.call iw (.cons (.var 1) (.cons (.var 5) (.cons (.var 6) .nil))) [])) (.nm 1) .nil (.call ic (.cons (.var 1) (.cons (.var 2) .nil)) []))) (.cons (.ret (.comp [none,none] (.seq (.var 7)) (.nm 1) (.cons (.cmp .IsNot (.var 1) (.con .bg)) .nil) (.var 1))) .nil)))))))
structure yA(fs:List Fn)(ip il is ig iw ic io:Nat):Prop where
 p:fs[ip]?=some ⟨2,2,false,qF⟩
 l:fs[il]?=some ⟨3,3,false,yG⟩
 s:fs[is]?=some ⟨3,8,false,B6 il⟩
 g:fs[ig]?=some ⟨4,7,false,yI⟩
 w:fs[iw]?=some ⟨3,5,false,Ca⟩
 c:fs[ic]?=some ⟨2,7,false,B5 ip⟩
 o:fs[io]?=some ⟨3,8,false,B7 is ig iw ic⟩
theorem oz{α:Type}(p:α->Bool):∀l:List α,(l.filter p).length+(l.filter λx=> !p x).length=l.length
 |[]=>rfl
 |x::l=>by have:=oz p l;rw[List.filter_cons,List.filter_cons];cases p x<;>simp<;>lia
theorem qP{m:Nat}{L:List Nat}(hn:L.Nodup)(hl:∀p∈L,p<m):((List.range m).filter λp=> !decide (p∈L)).length+L.length=m:=by
 have h1:(((List.range m).filter λp=>decide (p∈L))).Perm L:=nh (List.Pairwise.filter _ List.nodup_range) hn λx=>by rw[VY,UE,WX];exact⟨λh=>h.2,λh=>⟨hl x h,h⟩⟩
 have h2:=h1.length_eq;have h3:=oz (λp=>decide (p∈L)) (List.range m);rw[VM]at h3
 lia
theorem Li{m s f g:Nat}(hs:s+f=m)(hm:m<=4)(hg:g<=gB s f):(g+1)^f<=900000:=TX (Nat.pow_le_pow_left (Nat.succ_le_succ hg) f) ((by decide:∀s,s<5->∀f,f<5->s+f<5->(gB s f+1)^f<=900000) s () f () ())
theorem CM(p:Nat)(L:List Nat):cN .NotIn (.int p) (.lst (L.map λ(q:Nat)=>Dt.int q))= .ok (!decide (p∈L)):=by
 have h:∀L:List Nat,mD (L.map λ(q:Nat)=>Dt.int q)=true/\qp (L.map λ(q:Nat)=>Dt.int q)=0/\inD (.int p) (L.map λ(q:Nat)=>Dt.int q)=decide (p∈L):=by
  intro L
  induction L with
  |nil=>exact⟨rfl,rfl,rfl⟩
  |cons q L ih=>
   refine⟨by rw[UB,mD,ih.1];rfl,by rw[UB,qp,ih.2.1];rfl,?_⟩;have e:eJ (.int (q:Int)) (.int (p:Int))=decide (p=q):=by
    simp only[eJ];rw[UN];simp
    lia
   have:=ih.2.2;unfold inD at this ⊢;rw[UB,List.any_cons,this,e,UN];simp
 obtain⟨h1,h2,h3⟩:=h L;show af (pl (.int (p:Int))&&mD (L.map λ(q:Nat)=>Dt.int q)&&decide (qp (L.map λ(q:Nat)=>Dt.int q)<=100)) (R.ok (!inD (.int p) (L.map λ(q:Nat)=>Dt.int q)))=_;rw[h1,h2,h3];rfl
variable{fs:List Fn}
theorem C9(rs:List Mx.D):ofD (.tup rs)= .tup (cP rs):=by simp[ofD]
variable{fs:List Fn}
def dI(q:List Int):Mx.D:=.tup (q.map Mx.D.int)
def Iq:Mx.D->List Int
 |.tup ds=>ds.filterMap λd=>match d with|.int i=>some i|_=>none
 |_=>[]
theorem oA(q:List Int):Iq (dI q)=q:=by
 show (q.map Mx.D.int).filterMap _=q;rw[List.filterMap_map]
 induction q with
 |nil=>rfl
 |cons x q ih=>rw[Vx];simp only[Function.comp];exact WW _ ih
theorem LR(q:List Int):tI q=ofD (dI q):=by unfold dI;rw[C9,my,VV];exact WW Dt.tup (VT λx _=>by simp[ofD])
theorem EL(Q:List (List Int)):lI Q= .lst (cP (Q.map dI)):=by unfold lI;rw[my,VV];congr 1;exact VT λq _=>LR q
theorem pF:∀a b:List Int,nc (a.map Mx.D.int) (b.map Mx.D.int)=true
 |[],_=>by simp[nc]
 |_::_,[]=>by simp[nc]
 |x::a,y::b=>by simp only[UB,nc,xH,Bool.true_and];exact pF a b
def Fu(ik io iv:Nat):Ts:=(.cons (.FP (.call ik (.cons (.var 0) (.cons (.var 1) (.cons (.tup .nil) .nil))) [])) (.cons (.asgM 2 (.lst .nil)) (.cons (.fr (.nm 3) (.seq (.bi .sorted (.cons (.call io (.cons (.var 0) (.cons (.var 1) (.cons (.bin .Mult (.tup (.cons (.con (.int 0)) .nil)) (.bi .len (.cons (.var 0) .nil))) .nil))) []) .nil))) (.cons (.ifs (.and (.cmp .Gt (.bi .sum (.cons (.var 3) .nil)) (.con (.int 0))) (.nt (.call iv (.cons (.var 3) (.cons (.mvr 2) .nil)) []))) (.cons (.app 2 (.var 3)) .nil) .nil) .nil)) (.cons (.ret (.mvr 2)) .nil))))
def Ft(ik io iv ie:Nat):Ts:=(.cons (.FP (.call ik (.cons (.var 0) (.cons (.var 1) (.cons (.var 2) .nil))) [])) (.cons (.asg 3 (.call ie (.cons (.var 0) (.cons (.var 1) .nil)) [])) (.cons (.ret (.bi .sorted (.cons (.comp [none,none,some 3] (.seq (.call io (.cons (.var 0) (.cons (.var 1) (.cons (.var 2) .nil))) [])) (.nm 1) (.cons (.nt (.call iv (.cons (.var 1) (.cons (.var 2) .nil)) [])) .nil) (.var 1)) .nil))) .nil)))
theorem ax(x y:Int)(l q:List Int):aa (x::l) (y::q)=x*y+aa l q:=rfl
theorem bM(q:List Int):aa [] q=0:=rfl
theorem iU(q:List Int):aa q []=0:=by cases q<;>rfl
theorem rF(α β:Int):∀{r b:List Int}(z:List Int),r.length=b.length->aa ((r.zip b).map λq=>α*q.1-β*q.2) z=α*aa r z-β*aa b z
 |[],[],z,_=>by simp[aa]
 |x::r,y::b,[],_=>by simp[aa]
 |x::r,y::b,u::z,h=>by
  have ih:=rF α β (r:=r) (b:=b) z ‹h›;rw[Wo,UB,ax,ax,ax,ih]
  grind
 |[],_::_,_,h=>by simp at h
 |_::_,[],_,h=>by simp at h
theorem gT{r b:List Int}{p:Nat}(z:List Int)(h:r.length=b.length):aa (bB r p b) z=gI b p*aa r z-gI r p*aa b z:=rF _ _ z h
def fG(p:Nat)(S:List (Nat×List Int)×List (List Int)):List (Nat×List Int)×List (List Int):=
 match S.2.filter λq=> !(gI q p==0) with
 |[]=>S
 |b::_=>(S.1.map (λq=>(q.1,bB q.2 p b))++[(p,b)],S.2.map λr=>bB r p b)
def b9(L0:List (List Int)):Nat->List (Nat×List Int)×List (List Int)
 |0=>([],L0)
 |p+1=>fG p (b9 L0 p)
def rowsOf(M:List (List Int))(r:List Int):List (List Int):=(M.zip r).map λq=>q.1++[q.2]
structure Sq(m p:Nat)(L0:List (List Int))(PS:List (Nat×List Int))(LS:List (List Int)):Prop where
 st:wN m p PS LS
 zl:∀r∈LS,∀i,i<p->gI r i=0
 pz:∀q∈PS,∀q'∈PS,q'.1≠q.1->gI q.2 q'.1=0
 ev:∀z,(∀r∈L0,aa r z=0)↔(∀q∈PS,aa q.2 z=0)/\∀r∈LS,aa r z=0
 ln:LS.length=L0.length
 o0:PS=[]->LS=L0
 o1:∀q,PS=[q]->q.2∈L0/\LS=L0.map λr=>bB r q.1 q.2
 o2:∀q1 q2,PS=[q1,q2]->∃r1∈L0,∃r2∈L0,q1.1<q2.1/\gI r1 q1.1≠0/\q2.2=bB r2 q1.1 r1/\q1.2=bB r1 q2.1 q2.2
theorem Sq.next{m p:Nat}{L0:List (List Int)}{PS:List (Nat×List Int)}{LS:List (List Int)}(h:Sq m p L0 PS LS)(hz:∀r∈LS,gI r p=0):Sq m (p+1) L0 PS LS:=
 ⟨h.st.next,λr hr i hi=>by
  by_cases e:i=p
  ·rw[e];exact hz r hr
  ·exact h.zl r hr i (),h.pz,h.ev,h.ln,h.o0,h.o1,h.o2⟩
theorem Sq.clear{m p:Nat}{L0:List (List Int)}{PS:List (Nat×List Int)}{LS:List (List Int)}{b:List Int}(h:Sq m p L0 PS LS)(hp:p<m)(hb:b∈LS)(hn:gI b p≠0):Sq m (p+1) L0 (PS.map (λq=>(q.1,bB q.2 p b))++[(p,b)]) (LS.map λr=>bB r p b):=by
 have lb:=h.st.len b hb;have nS:=h.st.clear hp hb hn;refine⟨nS,?_,?_,?_,by rw[TU,h.ln],λe=>by simp at e,?_,?_⟩
 ·intro r hr i hi;obtain⟨r0,h0,rfl⟩:=Us.mp hr;have l0:=h.st.len r0 h0;rw[jK (by rw[l0,lb]) (by rw[l0];lia)];by_cases e:i=p
  ·rw[e,U1,U8]
  ·rw[h.zl r0 h0 i (),h.zl b hb i (),U5,U5,U9]
 ·intro q hq q' iC dH;rcases Uc.mp hq with hq|hq
  ·obtain⟨q0,h0,rfl⟩:=Us.mp hq;have l0:=(h.st.pl q0 h0).2.1;rcases Uc.mp iC with iC|iC
   ·obtain⟨q1,h1,rfl⟩:=Us.mp iC;have p1:=(h.st.pl q1 h1).1;show gI (bB q0.2 p b) q1.1=0;rw[jK (by rw[l0,lb]) (by rw[l0];lia),h.pz q0 h0 q1 h1 dH,h.st.zr q1 h1 b hb,U5,U5,U9]
   ·rw[Ur]at iC;subst iC;show gI (bB q0.2 p b) p=0;rw[jK (by rw[l0,lb]) (by rw[l0];lia),U1,U8]
  ·rw[Ur]at hq;subst hq;rcases Uc.mp iC with iC|iC
   ·obtain⟨q1,h1,rfl⟩:=Us.mp iC;exact h.st.zr q1 h1 b hb
   ·rw[Ur]at iC;subst iC;exact absurd rfl dH
 ·intro z;rw[h.ev z];constructor
  ·rintro⟨h1,h2⟩;have J7:=h2 b hb;refine⟨λq hq=>?_,λr hr=>?_⟩
   ·rcases Uc.mp hq with hq|hq
    ·obtain⟨q0,h0,rfl⟩:=Us.mp hq;show aa (bB q0.2 p b) z=0;rw[gT z (by rw[(h.st.pl q0 h0).2.1,lb]),h1 q0 h0,J7,U5,U5,U9]
    ·rw[Ur]at hq;subst hq;exact J7
   ·obtain⟨r0,h0,rfl⟩:=Us.mp hr;rw[gT z (by rw[h.st.len r0 h0,lb]),h2 r0 h0,J7,U5,U5,U9]
  ·rintro⟨h1,h2⟩;have J7:aa b z=0:=h1 (p,b) (Uo _ (Ur.mpr rfl));have back:∀r:List Int,r.length=b.length->aa (bB r p b) z=0->aa r z=0:=λr hl hr=>by rw[gT z hl,J7,U5,U9]at hr;exact(Int.mul_eq_zero.mp hr).resolve_left hn
   exact⟨λq hq=>back q.2 (by rw[(h.st.pl q hq).2.1,lb]) (h1 (q.1,bB q.2 p b) (VX _ (Us.mpr ⟨q,hq,rfl⟩))),λr hr=>back r (by rw[h.st.len r hr,lb]) (h2 _ (Us.mpr ⟨r,hr,rfl⟩))⟩
 ·intro q e;cases PS with
  |nil=>have e0:=h.o0 rfl;simp only[VW,V4,Vm,and_true]at e;subst e;rw[e0]at hb;exact⟨hb,by rw[e0]⟩
  |cons q0 PS=>have:=WW List.length e;simp at this
 ·intro q1 q2 e;cases PS with
  |nil=>have:=WW List.length e;simp at this
  |cons q0 PS=>
   cases PS with
   |nil=>obtain⟨k1,k2⟩:=h.o1 q0 rfl;simp only[UB,VW,List.singleton_append,Vm,and_true]at e;obtain⟨e1,e2⟩:=e;subst e1 e2;rw[k2]at hb;obtain⟨r2,h2,rfl⟩:=Us.mp hb;have:=h.st.pl q0 TN;exact⟨q0.2,k1,r2,h2,this.1,this.2.2,rfl,rfl⟩
   |cons q' PS=>have:=WW List.length e;simp at this
theorem Sq.zero{m:Nat}{L0:List (List Int)}(h:wN m 0 [] L0):Sq m 0 L0 [] L0:=⟨h,λ_ _ i hi=>(),∅,λz=>∅,rfl,λ_=>rfl,λ_ e=>(by cases e),λ_ _ e=>(by cases e)⟩
theorem Sq.step{m p:Nat}{L0:List (List Int)}{S:List (Nat×List Int)×List (List Int)}(h:Sq m p L0 S.1 S.2)(hp:p<m):Sq m (p+1) L0 (fG p S).1 (fG p S).2:=by
 unfold fG;cases e:S.2.filter λq=> !(gI q p==0) with
 |nil=>
  refine h.next λr hr=>?_
  have:=List.filter_eq_nil_iff.mp e r hr;simpa using this
 |cons b bs=>
  have:b∈S.2.filter λq=> !(gI q p==0):=by rw[e];exact TN
  have:=VY.mp this;exact h.clear hp this.1 ‹this.2›
theorem Sq.all{m:Nat}{L0:List (List Int)}(h:wN m 0 [] L0):∀p,p<=m->Sq m p L0 (b9 L0 p).1 (b9 L0 p).2
 |0,_=>Sq.zero h
 |p+1,hp=>(Sq.all h p ()).step ()
theorem ju{l x:List Int}(g:Int)(h:l.length=x.length):aa (l++[g]) (x++[-1])=aa l x-g:=by
 induction l generalizing x with
 |nil=>cases x with|nil=>simp[aa]|cons=>simp at h
 |cons a l ih=>cases x with
  |nil=>simp at h
  |cons b x=>
   have:=ih (x:=x) ‹h›;rw[Vn,Vn,ax,ax,this]
   lia
def bQ(M:List (List Int))(r x:List Int):Prop:=∀q∈M.zip r,aa q.1 x=q.2
theorem sg{m:Nat}{M:List (List Int)}{r x:List Int}(hl:∀q∈M,q.length=m)(hx:x.length=m):bQ M r x↔∀z∈rowsOf M r,aa z (x++[-1])=0:=by
 unfold bQ rowsOf;constructor
 ·intro h z hz;obtain⟨q,hq,rfl⟩:=Us.mp hz;rw[ju _ (by rw[hl _ (V6 hq).1,hx]),h q hq,U8]
 ·intro h q hq;have:=h _ (Us.mpr ⟨q,hq,rfl⟩);rw[ju _ (by rw[hl _ (V6 hq).1,hx])]at this
  lia
theorem az(a:Int)(l:List Int)(i:Nat):gI (a::l) (i+1)=gI l i:=by simp[gI]
theorem mF:∀{l:List Int}(z:List Int),(∀i,i<l.length->gI l i=0)->aa l z=0
 |[],z,_=>rfl
 |a::l,[],_=>rfl
 |a::l,u::z,h=>by have h0:a=0:=h 0 ∅;rw[ax,h0,mF z λi hi=>by have:=h (i+1) ‹hi›;rwa [az]at this];simp
def oJ(m:Nat)(LS:List (List Int)):Bool:=(LS.map λq=> !(gI q m==0)).any id
theorem jT{l:List Int}{m:Nat}(h:l.length=m+1):∃a g,l=a++[g]/\a.length=m/\gI l m=g:=by
 have dH:l≠[]:=λe=>by rw[e]at h;simp at h
 obtain⟨a,g,e⟩:=(qZ l).resolve_left dH;refine⟨a,g,e,by rw[e,T6]at h;simpa using h,?_⟩;subst e;have:a.length=m:=by rw[T6]at h;simpa using h
 subst this;simp[gI]
theorem gF{a:List Int}{g:Int}{i:Nat}(h:i<a.length):gI (a++[g]) i=gI a i:=by simp[gI,List.getD,Uz h]
theorem Sq.sol{m:Nat}{M:List (List Int)}{r x:List Int}{PS:List (Nat×List Int)}{LS:List (List Int)}(h:Sq m m (rowsOf M r) PS LS)(hl:∀q∈M,q.length=m)(hx:x.length=m):
  bQ M r x↔oJ m LS=false/\∀q∈PS,aa q.2 (x++[-1])=0:=by
 rw[sg hl hx,h.ev];have key:∀q∈LS,aa q (x++[-1])= - gI q m:=λq hq=>by
  obtain⟨a,g,e,ha,hg⟩:=jT (h.st.len q hq);rw[hg];have hz:=h.zl q hq;subst e;rw[ju g (by rw[ha,hx]),mF x λi hi=>by have:=hz i ();rwa [gF hi]at this]
  lia
 have:(∀q∈LS,aa q (x++[-1])=0)↔oJ m LS=false:=by
  unfold oJ;rw[Vl,Vk];constructor
  ·intro h1 q hq;have:=h1 q hq;rw[key q hq]at this;have:gI q m=0:=()
   simp[this]
  ·intro h1 q hq;rw[key q hq];have:=h1 q hq;simp at this
   lia
 rw[this];exact And.comm
theorem d6{l:List Int}{p:Nat}{x:Int}(h:p<l.length):gI (l.set p x) p=x:=by simp[gI,List.getD,h]
theorem dm{l:List Int}{p i:Nat}{x:Int}(h:i≠p):gI (l.set p x) i=gI l i:=by simp[gI,List.getD,VE,WH h]
theorem jM:∀{a b:List Int},a.length=b.length->(∀i,i<a.length->gI a i=gI b i)->a=b
 |[],[],_,_=>rfl
 |x::a,y::b,h,e=>by have h0:x=y:=e 0 ∅;rw[h0,jM (a:=a) (b:=b) ‹h› λi hi=>by have:=e (i+1) ‹hi›;rwa [az,az]at this]
 |[],_::_,h,_=>by simp at h
 |_::_,[],h,_=>by simp at h
theorem dX{l:List Int}{x:Int}(h:x∈l):∃i,i<l.length/\gI l i=x:=by obtain⟨i,hi,e⟩:=VH h;exact⟨i,hi,by simp[gI,List.getD,hi,e]⟩
theorem jX:∀{l x q:List Int}{p:Nat},x.length=q.length->p<x.length->x.length<=l.length->(∀i,i<x.length->i≠p->gI l i*gI x i=gI l i*gI q i)->aa l x=aa l q+gI l p*(gI x p-gI q p)
 |[],x,q,p,_,h2,h3,_=>by simp at h3;rw[h3]at h2;simp at h2
 |a::l,[],q,p,_,h2,_,_=>by simp at h2
 |a::l,u::x,[],p,h1,_,_,_=>by simp at h1
 |a::l,u::x,v::q,0,h1,h2,h3,h=>by
  have e:aa l x=aa l q:=by
   have:∀{l x q:List Int},x.length=q.length->x.length<=l.length->(∀i,i<x.length->gI l i*gI x i=gI l i*gI q i)->aa l x=aa l q:=by
    intro l x q
    induction l generalizing x q with
    |nil=>intro _ _ _;rfl
    |cons a l ih=>
     intro h1 h2 h;cases x with
     |nil=>cases q with|nil=>rfl|cons=>simp at h1
     |cons u x=>cases q with
      |nil=>simp at h1
      |cons v q=>rw[ax,ax,ih ‹h1› ‹h2› λi hi=>by have:=h (i+1) ‹hi›;rwa [az,az,az]at this];have:=h 0 ∅;have:a*u=a*v:=this;rw[this]
   exact this ‹h1› ‹h3› λi hi=>by have:=h (i+1) ‹hi› ();rwa [az,az,az]at this
  rw[ax,ax,e];show a*u+_=a*v+_+a*(u-v)
  grind
 |a::l,u::x,v::q,p+1,h1,h2,h3,h=>by
  have ih:=jX (l:=l) (x:=x) (q:=q) (p:=p) ‹h1› ‹h2› ‹h3› λi hi dH=>by have:=h (i+1) ‹hi› ();rwa [az,az,az]at this
  have h0:a*u=a*v:=h 0 ∅ ();rw[ax,ax,ih,az,az,az,h0]
  lia
def gG(eq q:List Int):Int:= - aa eq (q++[-1])
def cV(q:List Int):List (Nat×List Int)->List Int->Option (List Int)
 |[],w=>some w
 |z::PS,w=>if (!((gG z.2 q).fmod (gI z.2 z.1)==0))=true\/(gG z.2 q).fdiv (gI z.2 z.1)<0 then none else cV q PS (w.set z.1 ((gG z.2 q).fdiv (gI z.2 z.1)))
theorem gz{q:List Int}:∀{PS:List (Nat×List Int)}{w x:List Int},(PS.map (·.1)).Nodup->(∀z∈PS,z.1<w.length/\gI z.2 z.1≠0)->
  (cV q PS w=some x↔x.length=w.length/\(∀i,i<w.length->i∉PS.map (·.1)->gI x i=gI w i)/\∀z∈PS,gI z.2 z.1*gI x z.1=gG z.2 q/\0<=gI x z.1)
 |[],w,x,_,_=>by
  unfold cV;constructor
  ·intro h;cases h;exact⟨rfl,λ_ _ _=>rfl,∅⟩
  ·rintro⟨h1,h2,_⟩;rw[jM h1 λi hi=>h2 i () ∅]
 |z::PS,w,x,nd,hz=>by
  rw[UB,V5]at nd;obtain⟨z1,z2⟩:=hz z TN;unfold cV;have kc:=Int.mul_fdiv_add_fmod (gG z.2 q) (gI z.2 z.1);generalize hn:(gG z.2 q).fdiv (gI z.2 z.1)=n at kc;generalize hr:(gG z.2 q).fmod (gI z.2 z.1)=rest at kc;have ih:=gz (q:=q) (PS:=PS) (w:=w.set z.1 n) (x:=x) nd.2 λy hy=>by rw[VP];exact hz y (TK _ hy)
  by_cases hb:(!(rest==0))=true\/n<0
  ·rw[W0 hb];constructor
   ·intro h;cases h
   ·rintro⟨_,_,h3⟩;obtain⟨k1,k2⟩:=h3 z TN;rw[<-k1,Int.mul_fmod_right]at hr;rw[<-k1,Int.mul_fdiv_cancel_left _ z2]at hn;rcases hb with hb|hb
    ·rw[<-hr]at hb;simp at hb
    ·lia
  ·rw[WZ hb,ih];have r0:rest=0:=by
    by_cases h:rest=0
    ·exact h
    ·exact absurd (.inl (by simp[h])) hb
   have n0:0<=n:=by have:=λh=>hb (.inr h);lia
   rw[r0,Int.add_zero]at kc;rw[VP];constructor
   ·rintro⟨h1,h2,h3⟩;have xz:gI x z.1=n:=by rw[h2 z.1 z1 nd.1,d6 z1]
    refine⟨h1,λi hi tV=>?_,λy hy=>?_⟩
    ·rw[UB,TY,not_or]at tV;rw[h2 i hi tV.2,dm tV.1]
    ·rcases TY.mp hy with rfl|hy
     ·rw[xz];exact⟨kc,n0⟩
     ·exact h3 y hy
   ·rintro⟨h1,h2,h3⟩;obtain⟨k1,k2⟩:=h3 z TN;have xz:gI x z.1=n:=by rw[<-k1,Int.mul_fdiv_cancel_left _ z2]at hn;exact hn
    refine⟨h1,λi hi tV=>?_,λy hy=>h3 y (TK _ hy)⟩;by_cases e:i=z.1
    ·rw[e,d6 z1,xz]
    ·rw[dm e];exact h2 i hi (by rw[UB,TY,not_or];exact⟨e,tV⟩)
def Bo(g p:Nat)(Q:List (List Int)):List (List Int):=Q.flatMap λq=>(List.range (g+1)).map λ(n:Nat)=>q.set p (n:Int)
def dU(g:Nat):List Nat->List (List Int)->List (List Int)
 |[],Q=>Q
 |p::FR,Q=>dU g FR (Bo g p Q)
theorem gO{g:Nat}:∀{FR:List Nat}{Q:List (List Int)}{q':List Int},q'∈dU g FR Q↔∃q∈Q,q'.length=q.length/\(∀i,i<q.length->i∉FR->gI q' i=gI q i)/\∀i,i∈FR->i<q.length->∃n:Nat,n<=g/\gI q' i=n
 |[],Q,q'=>by
  unfold dU;constructor
  ·intro h;exact⟨q',h,rfl,λ_ _ _=>rfl,∅⟩
  ·rintro⟨q,hq,h1,h2,_⟩;rw[jM h1 λi hi=>h2 i () ∅];exact hq
 |p::FR,Q,q'=>by
  unfold dU;rw[gO];constructor
  ·rintro⟨q1,IX,h1,h2,h3⟩;obtain⟨q,hq,h⟩:=V0.mp IX;obtain⟨n,hn,rfl⟩:=Us.mp h;have hn:=UE.mp hn;rw[VP]at h1 h2 h3;refine⟨q,hq,h1,λi hi tV=>?_,λi hi hl=>?_⟩
   ·rw[TY,not_or]at tV;rw[h2 i hi tV.2,dm tV.1]
   ·by_cases e:i∈FR
    ·exact h3 i e hl
    ·have:i=p:=(TY.mp hi).resolve_right e;subst this;exact⟨n,(),by rw[h2 i hl e,d6 hl]⟩
  ·rintro⟨q,hq,h1,h2,h3⟩;by_cases hp:p<q.length
   ·obtain⟨n,hn,en⟩:=h3 p TN hp;refine⟨q.set p n,V0.mpr ⟨q,hq,Us.mpr ⟨n,UE.mpr (),rfl⟩⟩,by rw[VP];exact h1,?_,?_⟩
    ·rw[VP];intro i hi tV;by_cases e:i=p
     ·rw[e,en,d6 hp]
     ·rw[dm e];exact h2 i hi (by rw[TY,not_or];exact⟨e,tV⟩)
    ·rw[VP];exact λi hi hl=>h3 i (TK _ hi) hl
   ·refine⟨q.set p (0:Nat),V0.mpr ⟨q,hq,Us.mpr ⟨0,UE.mpr (),rfl⟩⟩,by rw[VP];exact h1,?_,?_⟩
    ·rw[VP];intro i hi tV;rw[dm ()];exact h2 i hi (by rw[TY,not_or];exact⟨(),tV⟩)
    ·rw[VP];exact λi hi hl=>h3 i (TK _ hi) hl
def cu(m:Nat)(PS:List (Nat×List Int)):List Nat:=(List.range m).filter λp=> !decide (p∈PS.map (·.1))
def yc(m g:Nat)(PS:List (Nat×List Int)):List (List Int):=(dU g (cu m PS) [List.replicate m 0]).filterMap λq=>cV q PS q
theorem kb{x:List Int}{m:Nat}(h:x.length=m):gI (x++[-1]) m= -1:=by subst h;simp[gI]
theorem jO(m i:Nat):gI (List.replicate m 0) i=0:=by simp only[gI,List.getD,VD];split<;>rfl
theorem Sq.goal{m:Nat}{L0:List (List Int)}{PS:List (Nat×List Int)}{LS:List (List Int)}(h:Sq m m L0 PS LS){x q:List Int}(hx:x.length=m)(hq:q.length=m)(h1:∀i,i<m->i∉PS.map (·.1)->gI x i=gI q i)(h2:∀i,i<m->i∈PS.map (·.1)->gI q i=0):
  ∀z∈PS,aa z.2 (x++[-1])=gI z.2 z.1*gI x z.1-gG z.2 q:=λz hz=>by
 obtain⟨z1,z2,z3⟩:=h.st.pl z hz;have e:=jX (l:=z.2) (x:=x++[-1]) (q:=q++[-1]) (p:=z.1) (by simp[hx,hq]) (by simp[hx];lia) (by simp[hx,z2]) λi hi dH=>by
  have hi:i<m+1:=by simpa [hx]using hi
  by_cases tU:i=m
  ·rw[tU,kb hx,kb hq]
  ·rw[gF (),gF ()];by_cases hp:i∈PS.map (·.1)
   ·obtain⟨z',Si,e⟩:=Us.mp hp;have e:z'.1=i:=e;rw[<-e,h.pz z hz z' Si (by rw[e];exact dH),Vc,Vc]
   ·rw[h1 i () hp]
 rw[e,gF (),gF (),h2 z.1 () (Us.mpr ⟨z,hz,rfl⟩)];unfold gG;rw[U9]
 lia
theorem C1{m g:Nat}{L0:List (List Int)}{PS:List (Nat×List Int)}{LS:List (List Int)}(h:Sq m m L0 PS LS){x:List Int}:
  x∈yc m g PS↔x.length=m/\(∀i,i<m->0<=gI x i)/\(∀z∈PS,aa z.2 (x++[-1])=0)/\∀i∈cu m PS,gI x i<=g:=by
 unfold yc;rw[VZ];have kO:∀i,i∈cu m PS↔i<m/\i∉PS.map (·.1):=λi=>by unfold cu;rw[VY,UE];simp
 constructor
 ·rintro⟨q,hq,hc⟩;obtain⟨q0,h0,h1,h2,h3⟩:=gO.mp hq;rw[Ur]at h0;subst h0;rw[VO]at h1 h2 h3;obtain⟨k1,k2,k3⟩:=(gz h.st.nd λz hz=>⟨by rw[h1];exact(h.st.pl z hz).1,(h.st.pl z hz).2.2⟩).mp hc;rw[h1]at k1 k2;have qz:∀i,i<m->i∈PS.map (·.1)->gI q i=0:=λi hi hp=>by rw[h2 i hi λz=>((kO i).mp z).2 hp,jO]
  refine⟨k1,λi hi=>?_,λz hz=>?_,λi hi=>?_⟩
  ·by_cases hp:i∈PS.map (·.1)
   ·obtain⟨z,hz,rfl⟩:=Us.mp hp;exact(k3 z hz).2
   ·obtain⟨n,_,e⟩:=h3 i ((kO i).mpr ⟨hi,hp⟩) hi;rw[k2 i hi hp,e]
    lia
  ·rw[h.goal k1 h1 k2 qz z hz,(k3 z hz).1,U8]
  ·obtain⟨tU,hp⟩:=(kO i).mp hi;obtain⟨n,hn,e⟩:=h3 i hi tU;rw[k2 i tU hp,e]
   lia
 ·rintro⟨h1,h2,h3,h4⟩
  let q:=(List.range m).map λi=>if i∈PS.map (·.1) then 0 else gI x i
  have lq:q.length=m:=by simp[q]
  have gq:∀i,i<m->gI q i=if i∈PS.map (·.1) then 0 else gI x i:=λi hi=>by simp only[q,gI,List.getD,T9,List.getElem?_range hi];rfl
  have q1:∀i,i<m->i∉PS.map (·.1)->gI x i=gI q i:=λi hi hp=>by rw[gq i hi,WZ hp]
  have q2:∀i,i<m->i∈PS.map (·.1)->gI q i=0:=λi hi hp=>by rw[gq i hi,W0 hp]
  refine⟨q,gO.mpr ⟨_,Ur.mpr rfl,by rw[lq,VO],λi hi tV=>?_,λi hi hl=>?_⟩,(gz h.st.nd λz hz=>⟨by rw[lq];exact(h.st.pl z hz).1,(h.st.pl z hz).2.2⟩).mpr ⟨by rw[lq,h1],λi hi hp=>q1 i () hp,λz hz=>⟨?_,h2 z.1 (h.st.pl z hz).1⟩⟩⟩
  ·rw[VO]at hi;rw[jO];by_cases hp:i∈PS.map (·.1)
   ·exact q2 i hi hp
   ·exact absurd ((kO i).mpr ⟨hi,hp⟩) tV
  ·obtain⟨tU,hp⟩:=(kO i).mp hi;have:=h2 i tU;have:=h4 i hi;exact⟨(gI x i).toNat,(),by rw[<-q1 i tU hp];lia⟩
  ·have:=h3 z hz;rw[h.goal h1 lq q1 q2 z hz]at this
   lia
def bU(a b:List Int):Bool:=(a.zip b).all λq=>decide (q.1<=q.2)
def bT(a:List Int)(F:List (List Int)):Bool:=F.any λf=>bU f a
def aS:List (List Int)->List (List Int)->List (List Int)
 |[],F=>F
 |q::Q,F=>aS Q (if (decide (0<q.sum)&& !bT q F)=true then F++[q] else F)
def cJ(Q:List (List Int)):List (List Int):=(eZ (Q.map dI)).map Iq
def ltI(a b:List Int):Bool:=Mx.D.fO (a.map Mx.D.int) (b.map Mx.D.int)
theorem sE(x y:Int)(a b:List Int):bU (x::a) (y::b)=(decide (x<=y)&&bU a b):=rfl
theorem dw:∀{a b:List Int},a.length=b.length->(bU a b=true↔∀i,i<a.length->gI a i<=gI b i)
 |[],[],_=>⟨λ_ i hi=>by simp at hi,λ_=>rfl⟩
 |x::a,y::b,h=>by
  have ih:=dw (a:=a) (b:=b) ‹h›;rw[sE,TC,WX,ih];constructor
  ·rintro⟨h1,h2⟩ i hi;cases i with
   |zero=>exact h1
   |succ i=>rw[az,az];exact h2 i ‹hi›
  ·intro h;exact⟨h 0 ∅,λi hi=>by have:=h (i+1) ‹hi›;rwa [az,az]at this⟩
 |[],_::_,h=>by simp at h
 |_::_,[],h=>by simp at h
theorem sF(a:List Int):bU a a=true:=(dw rfl).mpr λ_ _=>UZ _
theorem j6{a b c:List Int}(h1:a.length=b.length)(h2:b.length=c.length)(k1:bU a b=true)(k2:bU b c=true):bU a c=true:=
 (dw (h1.trans h2)).mpr λi hi=>Int.le_trans ((dw h1).mp k1 i hi) ((dw h2).mp k2 i ())
theorem me(x y:Int)(a b:List Int):ltI (x::a) (y::b)=if x=y then ltI a b else decide (x<y):=by
 show Mx.D.fO (.int x::a.map Mx.D.int) (.int y::b.map Mx.D.int)=_;rw[Mx.D.eC];by_cases h:x=y
 ·rw[W0 (by rw[h]),W0 h];rfl
 ·rw[WZ (λz=>h (by injection z)),WZ h];simp[Mx.D.lt]
theorem wK:∀{a b:List Int},a.length=b.length->bU a b=true->ltI b a=false
 |[],[],_,_=>by simp[ltI,Mx.D.fO]
 |x::a,y::b,h,u=>by
  rw[sE,TC,WX]at u;rw[me];by_cases e:y=x
  ·rw[W0 e];exact wK ‹h› u.2
  ·rw[WZ e];exact Ug ()
 |[],_::_,h,_=>by simp at h
 |_::_,[],h,_=>by simp at h
theorem kS:∀{a b:List Int},a.length=b.length->ltI a b=false->ltI b a=false->a=b
 |[],[],_,_,_=>rfl
 |x::a,y::b,h,h1,h2=>by
  rw[me]at h1 h2;by_cases e:x=y
  ·rw[W0 e]at h1;rw[W0 e.symm]at h2;rw[e,kS ‹h› h1 h2]
  ·rw[WZ e]at h1;rw[WZ (WH e)]at h2;have:=W7 h1;have:=W7 h2
   lia
 |[],_::_,h,_,_=>by simp at h
 |_::_,[],h,_,_=>by simp at h
theorem k7{Q:List (List Int)}{q:List Int}:q∈cJ Q↔q∈Q:=by
 unfold cJ;rw[Us];constructor
 ·rintro⟨d,hd,rfl⟩;obtain⟨q,hq,rfl⟩:=Us.mp (iy.mp hd);rwa [oA]
 ·intro h;exact⟨dI q,iy.mpr (Us.mpr ⟨q,h,rfl⟩),oA q⟩
theorem iX(Q:List (List Int)):(cJ Q).Pairwise λa b=>ltI b a=false:=by
 unfold cJ;rw[Wa];refine List.Pairwise.imp_of_mem ?_ (qb (Q.map dI));intro a b ha hb h;obtain⟨p,_,rfl⟩:=Us.mp (iy.mp ha);obtain⟨q,_,rfl⟩:=Us.mp (iy.mp hb);rw[oA,oA];have h:(!Mx.D.lt (dI q) (dI p))=true:=h;unfold ltI;have e:Mx.D.lt (dI q) (dI p)=Mx.D.fO (q.map Mx.D.int) (p.map Mx.D.int):=by unfold dI Mx.D.lt;rfl
 rw[e]at h;simpa using h
theorem Dl{a:List Int}{F G:List (List Int)}(h:bT a F=true):bT a (F++G)=true:=by unfold bT at *;rw[List.any_append,h,Bool.true_or]
theorem nZ:∀{Q F:List (List Int)},∃t,aS Q F=F++t
 |[],F=>⟨[],by simp[aS]⟩
 |q::Q,F=>by
  unfold aS;obtain⟨t,e⟩:=nZ (Q:=Q) (F:=if (decide (0<q.sum)&& !bT q F)=true then F++[q] else F);rw[e];split
  ·exact⟨[q]++t,∅⟩
  ·exact⟨t,rfl⟩
theorem nX:∀{Q F:List (List Int)}{f:List Int},f∈aS Q F->f∈F\/(f∈Q/\0<f.sum)
 |[],F,f,h=>.inl h
 |q::Q,F,f,h=>by
  unfold aS at h;rcases nX h with h|⟨h1,h2⟩
  ·split at h
   ·rename_i hc;rcases Uc.mp h with h|h
    ·exact .inl h
    ·rw[Ur]at h;subst h;rw[TC,WX]at hc;exact .inr ⟨TN,hc.1⟩
   ·exact .inl h
  ·exact .inr ⟨TK _ h1,h2⟩
theorem nY:∀{Q F:List (List Int)}{q:List Int},q∈Q->0<q.sum->bT q (aS Q F)=true
 |[],F,q,h,_=>by cases h
 |p::Q,F,q,h,h0=>by
  unfold aS;rcases TY.mp h with rfl|h
  ·obtain⟨t,e⟩:=nZ (Q:=Q) (F:=if (decide (0<q.sum)&& !bT q F)=true then F++[q] else F);rw[e];refine Dl ?_;rw[Uk h0,Bool.true_and];cases ho:bT q F with
   |true=>exact ho
   |false=>show bT q (F++[q])=true;unfold bT;rw[List.any_append];simp[sF]
  ·exact nY h h0
def Mm(a b:List Int):Prop:=ltI a b=true/\bU a b=false/\bU b a=false
theorem GK{a b:List Int}(hl:a.length=b.length)(h1:ltI b a=false)(h2:bU a b=false):Mm a b:=by
 have h3:ltI a b=true:=by
  cases h:ltI a b with
  |true=>rfl
  |false=>have:=kS hl h h1;rw[this,sF]at h2;cases h2
 refine⟨h3,h2,?_⟩;cases h:bU b a with
 |false=>rfl
 |true=>rw[wK hl.symm h]at h3;cases h3
theorem jk{m:Nat}:∀{Q F:List (List Int)},(∀q∈Q,q.length=m)->(∀f∈F,f.length=m)->Q.Pairwise (λa b=>ltI b a=false)->(∀f∈F,∀q∈Q,ltI q f=false)->F.Pairwise Mm->(aS Q F).Pairwise Mm
 |[],F,_,_,_,_,h=>h
 |q::Q,F,hQ,hF,hs,hc,h=>by
  rw[V8]at hs;unfold aS;refine jk (λz hz=>hQ z (TK _ hz)) ?_ hs.2 ?_ ?_
  ·intro f hf;split at hf
   ·rcases Uc.mp hf with hf|hf
    ·exact hF f hf
    ·rw[Ur]at hf;subst hf;exact hQ f TN
   ·exact hF f hf
  ·intro f hf z hz;split at hf
   ·rcases Uc.mp hf with hf|hf
    ·exact hc f hf z (TK _ hz)
    ·rw[Ur]at hf;subst hf;exact hs.1 z hz
   ·exact hc f hf z (TK _ hz)
  ·split
   ·rename_i hq;rw[TC]at hq;have ho:bT q F=false:=by simpa using hq.2
    unfold bT at ho;rw[Vk]at ho;rw[V7];refine⟨h,List.pairwise_singleton ..,λa ha b hb=>?_⟩;rw[Ur]at hb;subst hb;exact GK (by rw[hF a ha,hQ b TN]) (hc a ha b TN) ‹ho a ha›
   ·exact h
theorem xQ(l:List Int):∀m,aa l (List.replicate m 0)=0:=by
 induction l with
 |nil=>intro m;rfl
 |cons a l ih=>
  intro m;cases m with
  |zero=>rfl
  |succ m=>rw[Wc,ax,ih];lia
theorem k8:∀{y:List Int},(∀i,i<y.length->0<=gI y i)->(∃i,i<y.length/\0<gI y i)->0<y.sum
 |[],_,⟨i,hi,_⟩=>by simp at hi
 |a::y,h,⟨i,hi,hp⟩=>by
  have ha:0<=a:=h 0 ∅;have hy:∀i,i<y.length->0<=gI y i:=λi hi=>by have:=h (i+1) ‹hi›;rwa [az]at this
  have ns:∀{y:List Int},(∀i,i<y.length->0<=gI y i)->0<=y.sum:=by
   intro y
   induction y with
   |nil=>intro _;simp
   |cons b y ih=>
    intro h;have:=h 0 ∅;have hb:0<=b:=this;have:=ih λi hi=>by have:=h (i+1) ‹hi›;rwa [az]at this
    rw[We];lia
  rw[We];cases i with
  |zero=>have:0<a:=hp;have:=ns hy;lia
  |succ i=>have:=k8 hy ⟨i,by simpa using hi,by rwa [az]at hp⟩;lia
theorem d7(a b:Int):a<b\/b<=a:=()
def Fk(M:List (List Int)):List Int:=M.flatMap λq=>q.map λx=>(x.natAbs:Int)
def bK(M:List (List Int)):Int:=c6 (Fk M)
def lT(s f:Nat)(top goal:Int):Int:=if s=0 then 1 else([1,2*top,4*top*top,0]:List Int).getD (s-1) 0*(goal+f*top)
theorem eY{M:List (List Int)}{x:List Int}:bQ M (List.replicate M.length 0) x↔∀q∈M,aa q x=0:=by
 unfold bQ
 induction M with
 |nil=>simp
 |cons q M ih=>rw[T8,Wc,Wo];simp only[List.forall_mem_cons];rw[ih]
theorem two{D e u t:Int}(hD:D≠0)(hu:0<=u)(ht:(D.natAbs:Int)<=t)(h:D*u+e*t=0):∃y,0<=y/\y<=u/\D*y+e*D.natAbs=0:=by
 rcases U0 hD with h0|h0
 ·have en:(D.natAbs:Int)= -D:=()
  rw[en]at ht ⊢;have t0:0<t:=()
  have h1:D*u<=0:=Int.mul_nonpos_of_nonpos_of_nonneg () hu;have e0:0<=e:=by
   rcases d7 e 0 with z|z
   ·have:=Int.mul_neg_of_neg_of_pos z t0;lia
   ·exact z
  refine⟨e,e0,?_,by rw[Int.mul_neg,U1 D e];lia⟩;have h2:e*(-D)<=e*t:=U2 ht e0;have h3:u*(-D)= - (D*u):=by rw[Int.mul_neg,U1]
  exact Int.le_of_mul_le_mul_right (a:= -D) () ()
 ·have en:(D.natAbs:Int)=D:=()
  rw[en]at ht ⊢;have t0:0<t:=()
  have h1:0<=D*u:=U4 () hu;have e0:e<=0:=by
   rcases d7 0 e with z|z
   ·have:=Int.mul_pos z t0;lia
   ·exact z
  refine⟨-e,(),?_,by rw[Int.mul_neg,U1 D e];lia⟩;have h2:(-e)*D<=(-e)*t:=U2 ht ();have h3:(-e)*t= - (e*t):=Int.neg_mul ..;have h4:u*D=D*u:=U1 ..;exact Int.le_of_mul_le_mul_right (a:=D) () h0
theorem dC{m i:Nat}{PS:List (Nat×List Int)}:i∈cu m PS↔i<m/\i∉PS.map (·.1):=by unfold cu;rw[VY,UE];simp
theorem pH{l:List Int}{x:Int}(h:x∈l):x<=c6 l:=(cH l (λe=>by rw[e]at h;cases h)).2 x h
theorem Bf{M:List (List Int)}{q:List Int}{z:Int}(hq:q∈M)(hz:z∈q):(z.natAbs:Int)<=bK M:=pH (V0.mpr ⟨q,hq,Us.mpr ⟨z,hz,rfl⟩⟩)
theorem Bg{M:List (List Int)}{t:Int}(h:∀q∈M,∀z∈q,(z.natAbs:Int)<=t)(ht:0<=t):bK M<=t:=by
 unfold bK;by_cases e:Fk M=[]
 ·rw[e];exact ht
 ·obtain⟨q,hq,h'⟩:=V0.mp (cH _ e).1;obtain⟨x,hx,ex⟩:=Us.mp h';rw[<-ex];exact h q hq x hx
theorem KF{l:List Int}(h:l.length=3):∃a b c,l=[a,b,c]:=by
 match l,h with
 |[a,b,c],_=>exact⟨a,b,c,rfl⟩
theorem lO{m p:Nat}{L0:List (List Int)}{PS:List (Nat×List Int)}{LS:List (List Int)}(S:Sq m m L0 PS LS):(cu m PS).length+PS.length=m:=by
 have:=qP (m:=m) (L:=PS.map (·.1)) S.st.nd λp hp=>by obtain⟨q,hq,rfl⟩:=Us.mp hp;exact(S.st.pl q hq).1
 rw[TU]at this;exact this
variable{fs:List Fn}
structure d9(D:Dt)(M:List (List Int)):Prop where
 it:itemsOf D=some (M.map tI)
 sq:cM D=some (M.map tI)
 ln:c9 .len [D]= .ok (.int M.length)
theorem d9.lst(M:List (List Int)):d9 (lI M) M:=⟨rfl,rfl,by show R.ok (Dt.int ((M.map tI).length:Nat))=_;rw[TU]⟩
theorem d9.tup(M:List (List Int)):d9 (.tup (M.map tI)) M:=⟨rfl,rfl,by show R.ok (Dt.int ((M.map tI).length:Nat))=_;rw[TU]⟩
theorem Ep{ik N:Nat}(hf:fs[ik]?=some ⟨3,3,false,B4⟩)(hN:1<=N){D:Dt}{M:List (List Int)}(hD:d9 D M){many:Int}{r:List Int}(hR:M.length<=1000)(RD:∀q∈M,q.length<=100)(hr:r.length<=1000)(hb:brk M many r=false):
  au fs N ik [D,.int many,tI r] none= .ok (.bg,none):=by
 have cm:lim=1000000:=rfl;refine ay hf hN rfl ?_;show fin (aP (au fs (N-1)) B4 [some (D),some (.int many),some (tI r)] none)=_;have ln:=hD.ln;unfold brk at hb;simp only[Bool.or_eq_false_iff,decide_eq_false_iff_not]at hb;obtain⟨⟨⟨h1,h2⟩,h3⟩,h4⟩:=hb;refine bu (by simp only[RX,ln];rw[Ug ()]) ?_;refine bu (by simp only[RX,Ug h2]) ?_;have hA:ev (au fs (N-1)) uU [some (D),some (.int many),some (tI r)] none= .ok (.bl (wU M),none):=by
  have hc:aE (aB (.nm 1) (a6 (au fs (N-1)) .nil) (lD (au fs (N-1)) (M.map tI).length (.seq (.var 1)) (.nm 2) .nil (.cmp .Gt (.bi .abs (.cons (.var 2) .nil)) (.con (.int 3)))) [none,none,none]) (M.map tI) none= .ok (M.flatMap λq=>q.map λx=>.bl (decide ((3:Int)<x.natAbs)),none):=cc λq hq=>by have hl:=RD q hq;refine Bh (ρ1:=[none,some (tI q),none]) (ds:=q.map Dt.int) rfl rfl ?_ rfl (bY λx hx=>aI (ρ1:=[none,some (tI q),some (.int x)]) rfl (by simp only[RX,lA]) rfl);rw[TU,TU];exact TX (Wz hR hl) ⋯
  unfold uU;rw[ek,lK (ds:=M.map tI) (gK (d:=D) rfl hD.it) (by rw[TU];lia) rfl hc,R.ah];have e:(M.flatMap λq=>q.map λx=>Dt.bl (decide ((3:Int)<x.natAbs)))=(M.flatMap λq=>q.map λx=>decide ((3:Int)<x.natAbs)).map Dt.bl:=by rw[VU];congr 1;funext q;rw[VV];rfl
  rw[e,td];show R.ok (Dt.bl _,none)=_;congr 3;unfold wU;rw[List.any_flatMap];congr 1;funext q;rw[Vl];congr 1;funext x;show decide _=decide _;congr 1;exact propext ()
 have hB:ev (au fs (N-1)) uV [some (D),some (.int many),some (tI r)] none= .ok (.bl (wV r),none):=by
  have hc:aE (aB (.nm 1) (a6 (au fs (N-1)) .nil) (bf (au fs (N-1)) (.cmp .Gt (.bi .abs (.cons (.var 1) .nil)) (.con (.int 20)))) [none,none]) (r.map Dt.int) none= .ok (r.map λx=>.bl (decide ((20:Int)<x.natAbs)),none):=bY λx hx=>aI (ρ1:=[none,some (.int x)]) rfl (by simp only[RX,lA]) rfl
  unfold uV;rw[ek,aO (ds:=r.map Dt.int) rfl (by rw[TU];lia) rfl hc,R.ah];have e:(r.map λx=>Dt.bl (decide ((20:Int)<x.natAbs)))=(r.map λx=>decide ((20:Int)<x.natAbs)).map Dt.bl:=by rw[VV];rfl
  rw[e,td];show R.ok (Dt.bl _,none)=_;congr 3;unfold wV;rw[Vl];congr 1;funext x;show decide _=decide _;congr 1;exact propext ()
 have tA:cA (au fs (N-1)) uU [some (D),some (.int many),some (tI r)] none= .ok (wU M,none):=tK hA;have tB:cA (au fs (N-1)) uV [some (D),some (.int many),some (tI r)] none= .ok (wV r,none):=tK hB;rw[h3]at tA;rw[h4]at tB;exact bu tA (bu tB rfl)
theorem LF{ic is N:Nat}(hc:fs[ic]?=some ⟨3,3,false,yG⟩)(hf:fs[is]?=some ⟨3,8,false,B6 ic⟩)(hN:2<=N){D:Dt}{M:List (List Int)}(hD:d9 D M){r:List Int}{m:Nat}(hm:m<=4)(hM:M.length<=16)(hr:r.length<=16)(J0:∀q∈M,q.length=m)(NY:∀q∈M,∀x∈q,x.natAbs<=3)(Oh:∀x∈r,x.natAbs<=20):
  au fs N is [D,.int m,tI r] none= .ok ((if oJ m (b9 (rowsOf M r) m).2=true then .bg else .lst ((b9 (rowsOf M r) m).1.map pD)),none)/\Sq m m (rowsOf M r) (b9 (rowsOf M r) m).1 (b9 (rowsOf M r) m).2:=by
 have cm:lim=1000000:=rfl;have b4:kz 3<2^64:=by decide
 let L0:=rowsOf M r
 have s0:wN m 0 [] L0:=by
  refine⟨λq hq=>?_,λq hq x hx=>?_,∅,∅,∅,∅,∅⟩
  ·obtain⟨z,hz,rfl⟩:=Us.mp hq;rw[T6,J0 _ (V6 hz).1];rfl
  ·obtain⟨z,hz,rfl⟩:=Us.mp hq;show x.natAbs<=20;rcases Uc.mp hx with hx|hx
   ·have:=NY _ (V6 hz).1 x hx;lia
   ·rw[Ur]at hx;subst hx;exact Oh _ (V6 hz).2
 have l0:L0.length<=16:=by show ((M.zip r).map _).length<=16;rw[TU,VS];lia
 have sq:=λp(hp:p<=m)=>Sq.all s0 p hp
 have hF:ev (au fs (N-1)) Eh [some (D),some (.int m),some (tI r),none,none,none,none,none] none= .ok (.lst (L0.map tI),none):=by
  have xt:aE (aB (.tp [1,2]) (a6 (au fs (N-1)) .nil) (bf (au fs (N-1)) (.bin .Add (.bi .tuple (.cons (.var 1) .nil)) (.tup (.cons (.var 2) .nil)))) [none,none,none]) (cT (M.map tI) (r.map Dt.int)) none= .ok ((M.zip r).map λq=>tI (q.1++[q.2]),none):=by
   rw[zip_rows];refine aR λq hq=>?_
   have hl:=J0 _ (V6 hq).1;have ha:kI .Add (tI q.1) (.tup [.int q.2])= .ok (tI (q.1++[q.2])):=by show af (decide ((q.1.map Dt.int).length+1<=lim)) (R.ok (Dt.tup (q.1.map Dt.int++[.int q.2])))=_;rw[Uk (by rw[TU];lia),guard_true];unfold tI;rw[UC];rfl
   have ht:c9 .tuple [tI q.1]= .ok (tI q.1):=rfl;exact aI (ρ1:=[none,some (tI q.1),some (.int q.2)]) rfl (by simp only[RX,ht,ha]) (by unfold ba;rw[bZ,UT])
  have e:((M.zip r).map λq=>tI (q.1++[q.2]))=L0.map tI:=by show _=((M.zip r).map _).map tI;rw[VV];rfl
  rw[e]at xt;exact aO (ds:=cT (M.map tI) (r.map Dt.int)) (iN (da:=D) rfl rfl hD.sq rfl) (by rw[zip_rows,TU,VS];lia) rfl xt
 have loop:=bI (S:=none) (tg:=.nm 5) (body:=aP (au fs (N-1)) (Eg ic)) (ds:=aM 0 m) (ρ:=[some (D),some (.int m),some (tI r),some (.lst (L0.map tI)),some (.lst []),none,none,none])
  (λpre ρ=>∃x5 x6 x7,ρ=[some (D),some (.int m),some (tI r),some (.lst ((b9 L0 pre.length).2.map tI)),some (.lst ((b9 L0 pre.length).1.map pD)),x5,x6,x7]) ⟨none,none,none,rfl⟩ (by
   rintro pre x post ρ e ⟨x5,x6,x7,rfl⟩;obtain⟨h1,rfl⟩:=d8 e;generalize hp:pre.length=p at *;have e1:(pre++[Dt.int p]).length=p+1:=by rw[T6,hp];rfl
   have Pm:=sq p ();have st:=Pm.st;have hl:(b9 L0 p).2.length<=16:=by rw[Pm.ln];exact l0
   have Mv:b9 L0 (p+1)=fG p (b9 L0 p):=rfl;generalize hS:b9 L0 p=S at *;obtain⟨PS,LS⟩:=S;dsimp only at st hl Pm;have hB:kz p<2^64:=Wv (sY ()) b4;have hH:ev (au fs (N-1)) Ei [some (D),some (.int m),some (tI r),some (.lst (LS.map tI)),some (.lst (PS.map pD)),some (.int p),x6,x7] none= .ok (.lst ((LS.filter λq=> !(gI q p==0)).map tI),none):=by
    have xt:aE (aB (.nm 1) (a6 (au fs (N-1)) (.cons (.cmp .NotEq (.idx (.var 1) (.var 2)) (.con (.int 0))) .nil)) (bf (au fs (N-1)) (.var 1)) [none,none,some (.int p)]) (LS.map tI) none= .ok (LS.flatMap λq=>if (!(gI q p==0))=true then[tI q] else[],none):=cc λq hq=>by have hi:=fN (l:=q) (p:=p) (by rw[st.len q hq];lia);exact turn_if (ρ1:=[none,some (tI q),some (.int p)]) rfl (by simp only[RX,hi]) λ_=>⟨by simp only[RX],by unfold ba;rw[bZ,UT]⟩
    rw[fL]at xt;exact aO (ds:=LS.map tI) rfl (by rw[TU];lia) rfl xt
   generalize hv:(LS.filter λq=> !(gI q p==0))=hav at hH;cases hav with
   |nil=>
    refine⟨_,_,rfl,dO (d:=.lst []) hH rfl (gQ rfl rfl),some (.int p),some (.lst []),x7,?_⟩;have e3:fG p (PS,LS)=(PS,LS):=by unfold fG;rw[show (PS,LS).2=LS from rfl,hv]
    rw[e1,Mv,e3];rfl
   |cons b bs=>
    have Qe:b∈LS/\gI b p≠0:=by
     have:b∈LS.filter λq=> !(gI q p==0):=by rw[hv];exact TN
     have:=VY.mp this;exact⟨this.1,by simpa using this.2⟩
    have lb:=st.len b Qe.1;have MC:∀x∈b,E2 x:=λx hx=>Wv (st.bd b Qe.1 x hx) hB
    have hP:ev (au fs (N-1)) (yN ic) [some (D),some (.int m),some (tI r),some (.lst (LS.map tI)),some (.lst (PS.map pD)),some (.int p),some (.lst ((b::bs).map tI)),some (tI b)] none= .ok (.lst ((PS.map λq=>(q.1,bB q.2 p b)).map pD),none):=by
     have xt:aE (aB (.tp [1,2]) (a6 (au fs (N-1)) .nil) (bf (au fs (N-1)) (.tup (.cons (.var 1) (.cons (.call ic (.cons (.var 2) (.cons (.var 4) (.cons (.var 3) .nil))) []) .nil)))) [none,none,none,some (tI b),some (.int p)]) (PS.map pD) none= .ok (PS.map λq=>pD (q.1,bB q.2 p b),none):=aR λq hq=>by have fZ:=(st.pl q hq).2.1;have:=za hc (N:=N-1) () (r:=q.2) (b:=b) (p:=p) () () (λx hx=>Wv (st.pb q hq x hx) hB) MC ();exact aI (ρ1:=[none,some (.int q.1),some (tI q.2),some (tI b),some (.int p)]) rfl (by simp only[RX,this];rfl) (by unfold ba;simp only[pD,rh,gj,bZ,UM,UT])
     have e2:(PS.map λq=>pD (q.1,bB q.2 p b))=(PS.map λq=>(q.1,bB q.2 p b)).map pD:=by rw[VV];rfl
     rw[e2]at xt;exact aO (ds:=PS.map pD) rfl (by rw[TU];have:=st.ct;lia) rfl xt
    have hL:∀y4,ev (au fs (N-1)) (Ej ic) [some (D),some (.int m),some (tI r),some (.lst (LS.map tI)),y4,some (.int p),some (.lst ((b::bs).map tI)),some (tI b)] none= .ok (.lst ((LS.map λq=>bB q p b).map tI),none):=λy4=>by
     have xt:aE (aB (.nm 1) (a6 (au fs (N-1)) .nil) (bf (au fs (N-1)) (.call ic (.cons (.var 1) (.cons (.var 3) (.cons (.var 2) .nil))) [])) [none,none,some (tI b),some (.int p)]) (LS.map tI) none= .ok (LS.map λq=>tI (bB q p b),none):=aR λq hq=>by have fZ:=st.len q hq;have:=za hc (N:=N-1) () (r:=q) (b:=b) (p:=p) () () (λx hx=>Wv (st.bd q hq x hx) hB) MC ();exact aI (ρ1:=[none,some (tI q),some (tI b),some (.int p)]) rfl (by simp only[RX,this]) (by unfold ba;rw[bZ,UT])
     have e2:(LS.map λq=>tI (bB q p b))=(LS.map λq=>bB q p b).map tI:=by rw[VV];rfl
     rw[e2]at xt;exact aO (ds:=LS.map tI) rfl (by rw[TU];lia) rfl xt
    have hAdd:ev (au fs (N-1)) (.bin .Add (yN ic) (.lst (.cons (.tup (.cons (.var 5) (.cons (.var 7) .nil))) .nil))) [some (D),some (.int m),some (tI r),some (.lst (LS.map tI)),some (.lst (PS.map pD)),some (.int p),some (.lst ((b::bs).map tI)),some (tI b)] none= .ok (.lst ((PS.map (λq=>(q.1,bB q.2 p b))++[(p,b)]).map pD),none):=by rw[wb,hP,R.ah];simp only[RX];show (kI .Add (.lst ((PS.map λq=>(q.1,bB q.2 p b)).map pD)) (.lst [pD (p,b)])).bind _=_;show (af (decide (((PS.map λq=>(q.1,bB q.2 p b)).map pD).length+1<=lim)) _).bind _=_;rw[Uk (by rw[TU,TU];have:=st.ct;lia),guard_true,UC];rfl
    refine⟨_,_,rfl,dO (d:=.lst ((b::bs).map tI)) hH rfl (pO rfl (dO (d:=tI b) (by have h0:=(pA (ds:=(b::bs).map tI) (k:=0) (d:=tI b) rfl).2;simp only[RX];exact WW (R.bind · _) h0) (by unfold ba;rw[bZ,UT]) (dO hAdd rfl (dO (hL _) rfl rfl)))),some (.int p),some (.lst ((b::bs).map tI)),some (tI b),?_⟩;have e3:fG p (PS,LS)=(PS.map (λq=>(q.1,bB q.2 p b))++[(p,b)],LS.map λr=>bB r p b):=by unfold fG;rw[show (PS,LS).2=LS from rfl,hv]
    rw[e1,Mv,e3];rfl)
 obtain⟨ρ1,f6,x5,x6,x7,rfl⟩:=loop;have em:(aM 0 m).length=m:=by simp[aM]
 rw[em]at f6;have MW:=sq m (TM _);have st:=MW.st;have hl:(b9 L0 m).2.length<=16:=by rw[MW.ln];exact l0
 refine⟨?_,MW⟩;show _=R.ok ((if oJ m (b9 L0 m).2=true then Dt.bg else Dt.lst ((b9 L0 m).1.map pD)),none);generalize b9 L0 m=S at *;obtain⟨PS,LS⟩:=S;dsimp only at st hl MW;have hA:cA (au fs (N-1)) yM [some (D),some (.int m),some (tI r),some (.lst (LS.map tI)),some (.lst (PS.map pD)),x5,x6,x7] none= .ok ((LS.map λq=> !(gI q m==0)).any id,none):=by
  have xt:aE (aB (.nm 1) (a6 (au fs (N-1)) .nil) (bf (au fs (N-1)) (.cmp .NotEq (.idx (.var 1) (.var 2)) (.con (.int 0)))) [none,none,some (.int m)]) (LS.map tI) none= .ok (LS.map λq=>.bl (!(gI q m==0)),none):=aR λq hq=>by have hi:=fN (l:=q) (p:=m) (by rw[st.len q hq];lia);exact aI (ρ1:=[none,some (tI q),some (.int m)]) rfl (by simp only[RX,hi]) rfl
  refine tK ?_;rw[ek,aO (ds:=LS.map tI) rfl (by rw[TU];lia) rfl xt,R.ah];have e:(LS.map λq=>Dt.bl (!(gI q m==0)))=(LS.map λq=> !(gI q m==0)).map Dt.bl:=by rw[VV];rfl
  rw[e,td];rfl
 have body:∀{x:R (Dt×Sx)},fin (aP (au fs (N-1)) (.cons (.ifs yM (.cons (.ret (.con .bg)) .nil) .nil) (.cons (.ret (.var 4)) .nil)) [some (D),some (.int m),some (tI r),some (.lst (LS.map tI)),some (.lst (PS.map pD)),x5,x6,x7] none)=x->au fs N is [D,.int m,tI r] none=x:=λ {x} h=>by refine ay hf () rfl ?_;show fin (aP (au fs (N-1)) (B6 ic) [some (D),some (.int m),some (tI r),none,none,none,none,none] none)=_;exact aj hF rfl (aj (d:=.lst []) rfl rfl (bD (ds:=aM 0 m) (dJ (n:=m) rfl ()) rfl f6 h))
 have MD:oJ m LS=(LS.map λq=> !(gI q m==0)).any id:=rfl;cases hb:((LS.map λq=> !(gI q m==0)).any id) with
 |true=>rw[hb]at hA MD;dsimp only;rw[MD,W0 rfl];exact body (dR hA (aq rfl))
 |false=>rw[hb]at hA MD;dsimp only;rw[MD,WZ ∅];exact body (bu hA (aq rfl))
variable{fs:List Fn}
def cD(r:List Int):Int:=c6 (r.map λx=>(x.natAbs:Int))
theorem zM(s f:Nat)(t g:Int)(h:s=0):lT s f t g=1:=by unfold lT;rw[W0 h]
theorem JT{ig N:Nat}(hf:fs[ig]?=some ⟨4,7,false,yI⟩)(hN:1<=N){D:Dt}{M:List (List Int)}(hD:d9 D M){r:List Int}{m s f:Nat}(hm:1<=m)(JZ:s≠0->M≠[])(Kn:s≠0->r≠[])(hM:M.length<=16)(hr:r.length<=16)(J0:∀q∈M,q.length=m)(Ta:m<=4)(NY:∀q∈M,∀x∈q,x.natAbs<=3)(Oh:∀x∈r,x.natAbs<=20)(hs:s<=4)(S7:f<=4):
  au fs N ig [D,tI r,.int s,.int f] none= .ok (.int (lT s f (bK M) (cD r)),none):=by
 have cm:lim=1000000:=rfl;by_cases h0:s=0
 ·subst h0;rw[zM _ _ _ _ rfl];refine ay hf hN rfl ?_;show fin (aP (au fs (N-1)) yI [some (D),some (tI r),some (.int 0),some (.int f),none,none,none] none)=_;exact dR rfl (aq rfl)
 have JZ:=JZ h0;have Kn:=Kn h0
 let A:=M.flatMap λq=>q.map λx=>(x.natAbs:Int)
 have P7:A≠[]:=by obtain⟨q,hq⟩:=Vw M JZ;have hl:=J0 q hq;obtain⟨x,hx⟩:=Vw q (by intro z;rw[z]at hl;simp at hl;lia);intro z;have:(x.natAbs:Int)∈A:=V0.mpr ⟨q,hq,Us.mpr ⟨x,hx,rfl⟩⟩;rw[z]at this;cases this
 let G:=r.map λx=>(x.natAbs:Int)
 have P9:G≠[]:=λz=>Kn (List.map_eq_nil_iff.mp z)
 have tA:=cH A P7;have tG:=cH G P9;have bA:0<=c6 A/\c6 A<=3:=by
  obtain⟨q,hq,h⟩:=V0.mp tA.1;obtain⟨x,hx,e⟩:=Us.mp h;have:=NY q hq x hx
  lia
 have bG:0<=c6 G/\c6 G<=20:=by
  obtain⟨x,hx,e⟩:=Us.mp tG.1;have:=Oh x hx
  lia
 have hT:ev (au fs (N-1)) yK [some (D),some (tI r),some (.int s),some (.int f),none,none,none] none= .ok (.int (c6 A),none):=by
  have hc:aE (aB (.nm 1) (a6 (au fs (N-1)) .nil) (lD (au fs (N-1)) (M.map tI).length (.seq (.var 1)) (.nm 2) .nil (.bi .abs (.cons (.var 2) .nil))) [none,none,none]) (M.map tI) none= .ok (M.flatMap λq=>q.map λx=>.int x.natAbs,none):=cc λq hq=>by have hl:=J0 q hq;refine Bh (ρ1:=[none,some (tI q),none]) (ds:=q.map Dt.int) rfl rfl ?_ rfl (bY λx hx=>aI (ρ1:=[none,some (tI q),some (.int x)]) rfl (by simp only[RX,lA]) rfl);rw[TU,TU];exact TX (Wz hM (by lia:q.length<=4)) ⋯
  unfold yK;rw[ek,lK (ds:=M.map tI) (gK (d:=D) rfl hD.it) (by rw[TU];lia) rfl hc,R.ah];have e:(M.flatMap λq=>q.map λx=>Dt.int x.natAbs)=A.map Dt.int:=by show _=(M.flatMap _).map Dt.int;rw[VU];congr 1;funext q;rw[VV];rfl
  rw[e,oM P7];rfl
 have hG:ev (au fs (N-1)) yJ [some (D),some (tI r),some (.int s),some (.int f),some (.int (c6 A)),none,none] none= .ok (.int (c6 G),none):=by
  have hc:aE (aB (.nm 1) (a6 (au fs (N-1)) .nil) (bf (au fs (N-1)) (.bi .abs (.cons (.var 1) .nil))) [none,none]) (r.map Dt.int) none= .ok (r.map λx=>.int x.natAbs,none):=bY λx hx=>aI (ρ1:=[none,some (.int x)]) rfl (by simp only[RX,lA]) rfl
  unfold yJ;rw[ek,aO (ds:=r.map Dt.int) rfl (by rw[TU];lia) rfl hc,R.ah];have e:(r.map λx=>Dt.int x.natAbs)=G.map Dt.int:=by show _=(r.map _).map Dt.int;rw[VV];rfl
  rw[e,oM P9];rfl
 have eA:bK M=c6 A:=rfl;have eG:cD r=c6 G:=rfl;rw[eA,eG];generalize c6 A=top at hT hG bA;generalize c6 G=goal at hG bG;have m1:=aG (i:=2) (j:=top) (.inl ⋯);have m2:=aG (i:=4) (j:=top) (.inl ⋯);have m3:=aG (i:=4*top) (j:=top) (.inr ());have m4:=aG (i:=(f:Int)) (j:=top) (.inr ());have hi:cF (.tup [.int 1,.int (2*top),.int (4*top*top),.int 0]) (.int ((s:Int)-1))= .ok (.int (([1,2*top,4*top*top,0]:List Int).getD (s-1) 0)):=by
  match s,h0,hs with
  |1,_,_=>rfl
  |2,_,_=>rfl
  |3,_,_=>rfl
  |4,_,_=>rfl
 have ft:0<=(f:Int)*top/\(f:Int)*top<=3*f:=⟨U4 () bA.1,by have:=U2 bA.2 (show (0:Int)<=f by lia);lia⟩;have m5:=λmi=>aG (i:=mi) (j:=goal+(f:Int)*top) (.inr ())
 have s0:((s:Int)==0)=false:=WT.mpr ();have eg:lT s f top goal=([1,2*top,4*top*top,0]:List Int).getD (s-1) 0*(goal+f*top):=by unfold lT;rw[WZ h0]
 rw[eg];refine ay hf hN rfl ?_;show fin (aP (au fs (N-1)) yI [some (D),some (tI r),some (.int s),some (.int f),none,none,none] none)=_;refine bu (by simp only[RX,s0]) (aj hT rfl (aj hG rfl (aj (d:=.tup [.int 1,.int (2*top),.int (4*top*top),.int 0]) (by simp only[RX,m1,m2,m3]) rfl (aq ?_))));simp only[RX,hi,m4,m5]
theorem L7{iw N:Nat}(hf:fs[iw]?=some ⟨3,5,false,Ca⟩)(hN:1<=N){m g:Nat}{FR:List Nat}(hm:m<=4)(Rw:∀p∈FR,p<m)(hg:(g+1)^FR.length<=900000):
  au fs N iw [.int m,.lst (FR.map λ(p:Nat)=>Dt.int p),.int g] none= .ok (lI (dU g FR [List.replicate m 0]),none)/\(dU g FR [List.replicate m 0]).length<=900000:=by
 have cm:lim=1000000:=rfl;have loop:=bI (S:=none) (tg:=.nm 4) (body:=aP (au fs (N-1)) (.cons (.asg 3 El) .nil)) (ds:=FR.map λ(p:Nat)=>Dt.int p) (ρ:=[some (.int m),some (.lst (FR.map λ(p:Nat)=>Dt.int p)),some (.int g),some (lI [List.replicate m 0]),none])
  (λpre ρ=>∃Q x4,Q.length<=(g+1)^pre.length/\(∀q∈Q,q.length=m/\∀x∈q,(0:Int)<=x/\x<=(g:Int))/\(∀rest,FR=FR.take pre.length++rest->dU g rest Q=dU g FR [List.replicate m 0])/\ρ=[some (.int m),some (.lst (FR.map λ(p:Nat)=>Dt.int p)),some (.int g),some (lI Q),x4])
  ⟨[List.replicate m 0],none,∅,λq hq=>by rw[Ur]at hq;subst hq;exact⟨∅,λx hx=>by have:=Vv hx;lia⟩,λrest e=>by rw[VL,Wm,V4]at e;rw[<-e],rfl⟩ (by
   rintro pre x post ρ e ⟨Q,x4,hl,hQ,hW,rfl⟩;have hx:x∈FR.map λ(p:Nat)=>Dt.int p:=by rw[e];simp
   obtain⟨p,hp,rfl⟩:=Us.mp hx;have Te:=Rw p hp;have sP:pre.length+1<=FR.length:=by
    have:=WW List.length e;simp at this
    lia
   have Qp:(g+1)^(pre.length+1)<=900000:=TX (Nat.pow_le_pow_right () sP) hg;have S5:Q.length*(g+1)<=(g+1)^(pre.length+1):=by rw[Nat.pow_succ];exact WA _ hl
   have Cu:Q.length<=Q.length*(g+1):=Nat.le_mul_of_pos_right _ ();have hc:aE (aB (.nm 1) (a6 (au fs (N-1)) .nil) (lD (au fs (N-1)) (Q.map tI).length (.rng1 (.bin .Add (.var 3) (.con (.int 1)))) (.nm 2) .nil (.bin .Add (.bin .Add (.sliH (.var 1) (.var 4)) (.tup (.cons (.var 2) .nil))) (.sliL (.var 1) (.bin .Add (.var 4) (.con (.int 1)))))) [none,none,none,some (.int g),some (.int p)]) (Q.map tI) none= .ok (Q.flatMap λq=>(List.range (g+1)).map λ(n:Nat)=>tI (q.set p n),none):=cc λq hq=>by
    have lq:=(hQ q hq).1;refine Bh (ρ1:=[none,some (tI q),none,some (.int g),some (.int p)]) (ds:=aM 0 (g+1)) rfl (dJ (n:=g+1) (by simp only[RX];rfl) ?_) ?_ rfl ?_
    ·have:g+1<=(g+1)^(pre.length+1):=by rw[Nat.pow_succ];exact Wr _ (Nat.pow_pos ())
     lia
    ·rw[TU];simp only[aM,TU,VM]
     lia
    ·have er:aM 0 (g+1)=(List.range (g+1)).map λ(n:Nat)=>Dt.int n:=by unfold aM;exact VT λi _=>by rw[Vb]
     rw[er];refine aR λn hn=>?_
     have c1:dQ (tI q) none (some (p:Int))= .ok (tI (q.take p)):=by show R.ok (Dt.tup (cutD (q.map Dt.int) none (some (p:Int))))=_;rw[tw _ (by rw[TU];lia),<-List.map_take];rfl
     have c2:dQ (tI q) (some ((p:Int)+1)) none= .ok (tI (q.drop (p+1))):=by show R.ok (Dt.tup (cutD (q.map Dt.int) (some (((p+1:Nat)):Int)) none))=_;rw[lJ _ (by rw[TU];lia),<-List.map_drop];rfl
     have a1:kI .Add (tI (q.take p)) (.tup [.int n])= .ok (tI (q.take p++[(n:Int)])):=by show af (decide (((q.take p).map Dt.int).length+1<=lim)) (R.ok (Dt.tup ((q.take p).map Dt.int++[.int n])))=_;rw[Uk (by rw[TU,VR];lia),guard_true];unfold tI;rw[UC];rfl
     have a2:kI .Add (tI (q.take p++[(n:Int)])) (tI (q.drop (p+1)))= .ok (tI (q.set p n)):=by show af (decide (((q.take p++[(n:Int)]).map Dt.int).length+((q.drop (p+1)).map Dt.int).length<=lim)) (R.ok (Dt.tup ((q.take p++[(n:Int)]).map Dt.int++(q.drop (p+1)).map Dt.int)))=_;rw[Uk (by simp only[TU,T6,VR,VJ,T8,VL];lia),guard_true,<-UC,Wd,W0 (),T4];rfl
     exact aI (ρ1:=[none,some (tI q),some (.int n),some (.int g),some (.int p)]) rfl (by simp only[RX,c1,c2,a1,a2]) (by unfold ba;rw[bZ,UT])
   have Kh:=lK (F:=au fs (N-1)) (cap:=[none,none,none,some 2,some 4]) (it:=.seq (.var 3)) (ρ:=[some (.int m),some (.lst (FR.map λ(p:Nat)=>Dt.int p)),some (.int g),some (lI Q),some (.int p)]) (S:=none) (ds:=Q.map tI) rfl (by rw[TU];lia) rfl hc;have e2:(Q.flatMap λq=>(List.range (g+1)).map λ(n:Nat)=>tI (q.set p n))=(Q.flatMap λq=>(List.range (g+1)).map λ(n:Nat)=>q.set p (n:Int)).map tI:=by rw[VU];congr 1;funext q;rw[VV];rfl
   rw[e2]at Kh;refine⟨_,_,rfl,dO Kh rfl rfl,Q.flatMap λq=>(List.range (g+1)).map λ(n:Nat)=>q.set p (n:Int),some (.int p),?_,?_,?_,rfl⟩
   ·have:=qN (f:=λq=>(List.range (g+1)).map λ(n:Nat)=>q.set p (n:Int)) (k:=g+1) (l:=Q) λq _=>by simp
    rw[T6,VQ]
    lia
   ·intro q' iC;obtain⟨q,hq,h⟩:=V0.mp iC;obtain⟨n,hn,rfl⟩:=Us.mp h;have hn:=UE.mp hn;refine⟨by rw[VP];exact(hQ q hq).1,λx hx=>?_⟩;rcases List.mem_or_eq_of_mem_set hx with hx|hx
    ·exact(hQ q hq).2 x hx
    ·lia
   ·intro rest er;have R3:FR[pre.length]?=some p:=by
     have h1:=WW (λl=>l[pre.length]?) e;simp only[T9,UA (TM _),WC,VC]at h1;cases kO:FR[pre.length]? with
     |none=>rw[kO]at h1;cases h1
     |some p'=>
      rw[kO]at h1;have h1:Dt.int (p':Int)=Dt.int (p:Int):=WI h1;have h2:(p':Int)=p:=by injection h1
      exact WW some ()
    rw[T6,VQ]at er;have h2:FR=FR.take pre.length++p::rest:=by rw[Wf,R3,T4]at er;exact er
    exact hW (p::rest) h2)
 obtain⟨ρ1,f6,Q,x4,hl,hQ,hW,rfl⟩:=loop;rw[TU]at hl hW;have eW:=hW [] (by rw[Wh,Ux]);have eW:Q=dU g FR [List.replicate m 0]:=eW;rw[<-eW];refine⟨ay hf hN rfl ?_,()⟩;show fin (aP (au fs (N-1)) Ca [some (.int m),some (.lst (FR.map λ(p:Nat)=>Dt.int p)),some (.int g),none,none] none)=_;have h0:=wq (m:=m) 0 ();exact aj (d:=lI [List.replicate m 0]) (by simp only[RX,h0];rfl) rfl (bD (ds:=FR.map λ(p:Nat)=>Dt.int p) rfl rfl f6 (aq rfl))
theorem Jz{ip ic N:Nat}(hp:fs[ip]?=some ⟨2,2,false,qF⟩)(hf:fs[ic]?=some ⟨2,7,false,B5 ip⟩)(hN:2<=N){m:Nat}{PS:List (Nat×List Int)}{LS:List (List Int)}(hm:m<=4)(st:wN m m PS LS){q:List Int}(hq:PH m q)(hs:∀x∈q,E2 x):
  au fs N ic [tI q,.lst (PS.map pD)] none= .ok (((cV q PS q).elim .bg tI),none):=by
 have cm:lim=1000000:=rfl;have loop:=gE (S:=none) (tg:=.tp [3,4]) (body:=aP (au fs (N-1)) (yH ip)) (ds:=PS.map pD) (ρ:=[some (tI q),some (.lst (PS.map pD)),some (.lst (q.map Dt.int)),none,none,none,none])
  (λpre ρ=>∃w x3 x4 x5 x6,PH m w/\(∀rest,PS=PS.take pre.length++rest->cV q rest w=cV q PS q)/\ρ=[some (tI q),some (.lst (PS.map pD)),some (.lst (w.map Dt.int)),x3,x4,x5,x6]) (λd=>d= .bg/\cV q PS q=none) ⟨q,none,none,none,none,hq,λrest e=>by rw[VL,Wm,V4]at e;rw[<-e],rfl⟩ (by
   rintro pre x post ρ e ⟨w,x3,x4,x5,x6,hw,hC,rfl⟩;obtain⟨z,BM,rfl⟩:∃z,PS[pre.length]?=some z/\pD z=x:=by
    have h1:=WW (λl=>l[pre.length]?) e;simp only[T9,UA (TM _),WC,VC]at h1;cases kO:PS[pre.length]? with
    |none=>rw[kO]at h1;cases h1
    |some z=>rw[kO]at h1;exact⟨z,rfl,WI h1⟩
   have hz:z∈PS:=V2 BM;have Gj:PS=PS.take pre.length++z::PS.drop (pre.length+1):=by
    have cU:=(TJ.mp BM).1
    conv=>lhs;rw[<-Wg pre.length PS]
    rw[Vp cU,(TJ.mp BM).2]
   have IS:=hC _ Gj;have Rr:∀rest,PS=PS.take (pre.length+1)++rest->rest=PS.drop (pre.length+1):=λrest er=>by have:=WW (List.drop (pre.length+1)) er;rw[List.drop_append_of_le_length (by have cU:=(TJ.mp BM).1;rw[VR];lia)]at this;rw[this,List.drop_take,WC,Wm,V4]
   obtain⟨z1,z2,z3⟩:=st.pl z hz;have QS:z.2≠[]:=λh=>by rw[h]at z2;simp at z2
   obtain⟨l,y,ey⟩:∃l y,z.2=l++[y]:=(qZ z.2).resolve_left QS;have hi:cF (tI z.2) (.int (-1))= .ok (.int y):=by show wQ (z.2.map Dt.int) (-1)=_;rw[ey,UC];unfold wQ;have:nB (l.map Dt.int++[y].map Dt.int) (-1)=some (.int y):=Mx.qD _ _;rw[this]
   have hc:dQ (tI z.2) none (some (-1))= .ok (tI l):=by show R.ok (Dt.tup (cutD (z.2.map Dt.int) none (some (-1))))=_;rw[qI _ (by rw[Ne,List.map_eq_nil_iff];exact QS),ey,UC];simp[tI]
   have hl:l.length=m:=by rw[ey,T6]at z2;simpa using z2
   have R4:=Dy (N:=N-1) hp () (a:=l) (b:=q) hs ();have RP:=fN (l:=z.2) (p:=z.1) ();have Cv:=TX (st.pb z hz _ (bx (by lia:z.1<z.2.length))) (sY hm);have MF:c9 .dvm [.int (y-aa l q),.int (gI z.2 z.1)]= .ok (.tup [.int ((y-aa l q).fdiv (gI z.2 z.1)),.int ((y-aa l q).fmod (gI z.2 z.1))]):=by show af (decide (gI z.2 z.1≠0)&&decide ((gI z.2 z.1).natAbs.log2<9000)) _=_;rw[Uk z3,Uk (n8 Cv z3)];rfl
   have kc:=Int.mul_fdiv_add_fmod (y-aa l q) (gI z.2 z.1);have J4:(y-aa l q).natAbs<2^200:=by
    have RH:=sY hm;have b1:∀x∈z.2,x.natAbs<=kz 4:=λx hx=>TX (st.pb z hz x hx) RH
    have b2:=pT (A:=kz 4) (B:=2^64) (l:=l) (q:=q) (λx hx=>b1 x (by rw[ey];exact VX _ hx)) λx hx=>Ws (hs x hx)
    have b3:=b1 y (by rw[ey];simp);have b5:l.length*(kz 4*2^64)<=4*(kz 4*2^64):=WA _ ();have b6:=Int.natAbs_sub_le y (aa l q);have b7:kz 4+4*(kz 4*2^64)<2^200:=by decide
    exact Wv (TX b6 (Nat.add_le_add b3 (TX b2 b5))) b7
   have MH:gG z.2 q=y-aa l q:=by
    unfold gG;rw[ey,ju y (by rw[hl,hq.1])]
    lia
   rw[cV,MH]at IS;generalize Oe:y-aa l q=nm at MF kc J4 IS;generalize nm.fdiv (gI z.2 z.1)=n at MF kc IS;generalize nm.fmod (gI z.2 z.1)=rest at MF kc IS;have nQ:∀{ts:Ts}{r:RS},aP (au fs (N-1)) ts [some (tI q),some (.lst (PS.map pD)),some (.lst (w.map Dt.int)),some (.int z.1),some (tI z.2),some (.int n),some (.int rest)] none=r->
     aP (au fs (N-1)) (.cons (.asgT [5,6] (.bi .dvm (.cons (.bin .Sub (.idx (.var 4) (.neg (.con (.int 1)))) (.call ip (.cons (.sliH (.var 4) (.neg (.con (.int 1)))) (.cons (.var 0) .nil)) [])) (.cons (.idx (.var 4) (.var 3)) .nil)))) ts) [some (tI q),some (.lst (PS.map pD)),some (.lst (w.map Dt.int)),some (.int z.1),some (tI z.2),x5,x6] none=r:=λ {ts r} h=>by
    refine nx (ρ1:=[some (tI q),some (.lst (PS.map pD)),some (.lst (w.map Dt.int)),some (.int z.1),some (tI z.2),some (.int n),some (.int rest)]) ?_ h;have hv:ev (au fs (N-1)) (.bi .dvm (.cons (.bin .Sub (.idx (.var 4) (.neg (.con (.int 1)))) (.call ip (.cons (.sliH (.var 4) (.neg (.con (.int 1)))) (.cons (.var 0) .nil)) [])) (.cons (.idx (.var 4) (.var 3)) .nil))) [some (tI q),some (.lst (PS.map pD)),some (.lst (w.map Dt.int)),some (.int z.1),some (tI z.2),x5,x6] none= .ok (.tup [.int n,.int rest],none):=by simp only[RX,hi,hc,R4,RP,Oe,MF]
    rw[jw,hv];rfl
   refine⟨[some (tI q),some (.lst (PS.map pD)),some (.lst (w.map Dt.int)),some (.int z.1),some (tI z.2),x5,x6],?_⟩;by_cases hb:(!(rest==0))=true\/n<0
   ·refine⟨[some (tI q),some (.lst (PS.map pD)),some (.lst (w.map Dt.int)),some (.int z.1),some (tI z.2),some (.int n),some (.int rest)],rfl,.inr ⟨.bg,nQ (pO ?_ (mw rfl)),rfl,by rw[<-IS,W0 hb]⟩⟩;simp only[RX];rcases hb with h|h
    ·rw[h];rfl
    ·cases (!(rest==0)) with
     |true=>rfl
     |false=>rw[WZ ∅,Uk h]
   ·have h1:(!(rest==0))=false:=by cases h:(!(rest==0))with|true=>exact absurd (.inl h) hb|false=>rfl
    have h2:¬n<0:=λz=>hb (.inr z)
    refine⟨_,rfl,.inl ⟨nQ (gQ (by simp only[RX,h1,Ug h2];rfl) (nx (Cn (ds:=w.map Dt.int) (d:=.int n) (n:=(z.1:Int)) (j:=z.1) rfl rfl rfl rfl ?_) rfl)),w.set z.1 n,some (.int z.1),some (tI z.2),some (.int n),some (.int rest),⟨by rw[VP];exact hw.1,λx hx=>?_⟩,?_,?_⟩⟩
    ·unfold pB;rw[TU,W0 (),W0 (by rw[hw.1];lia)];simp
    ·rcases List.mem_or_eq_of_mem_set hx with hx|hx
     ·exact hw.2 x hx
     ·subst hx;refine⟨(),Wv ?_ J4⟩;have r0:rest=0:=by simpa using h1
      have e:nm.natAbs=(gI z.2 z.1).natAbs*x.natAbs:=by rw[<-kc,r0,Int.add_zero,U6]
      rw[e];exact Wr _ (Int.natAbs_pos.mpr z3)
    ·intro rs er;rw[T6,VQ]at er;rw[Rr rs er,<-IS,WZ hb]
    ·rw[List.map_set];rfl)
 have body:∀{x:R (Dt×Sx)},fin (aP (au fs (N-1)) (.cons (.fr (.tp [3,4]) (.seq (.var 1)) (yH ip)) (.cons (.ret (.bi .tuple (.cons (.mvr 2) .nil))) .nil)) [some (tI q),some (.lst (PS.map pD)),some (.lst (q.map Dt.int)),none,none,none,none] none)=x->au fs N ic [tI q,.lst (PS.map pD)] none=x:=λ {x} h=>by refine ay hf () rfl ?_;show fin (aP (au fs (N-1)) (B5 ip) [some (tI q),some (.lst (PS.map pD)),none,none,none,none,none] none)=_;exact et (d:=.lst (q.map Dt.int)) rfl rfl h
 rcases loop with ⟨ρ',h1,w,x3,x4,x5,x6,hw,hC,rfl⟩|⟨d,ρ',h1,rfl,hC⟩
 ·have:=hC [] (by rw[TU,Wh,Ux]);rw[<-this];exact body (bD (ds:=PS.map pD) rfl rfl h1 (aq rfl))
 ·rw[hC];refine body (hU (ρ1:=ρ') ?_);rw[gU];exact h1
theorem L6{iu N:Nat}(hf:fs[iu]?=some ⟨2,4,false,B8⟩)(hN:1<=N)(a b:List Int):au fs N iu [tI a,tI b] none= .ok (.bl (bU a b),none):=by
 have loop:=gE (S:=none) (tg:=.tp [2,3]) (body:=aP (au fs (N-1)) (.cons (.ifs (.cmp .Gt (.var 2) (.var 3)) (.cons (.ret (.con (.bl false))) .nil) .nil) .nil)) (ds:=cT (a.map Dt.int) (b.map Dt.int)) (ρ:=[some (tI a),some (tI b),none,none])
  (λpre ρ=>(∀q∈(a.zip b).take pre.length,q.1<=q.2)/\∃x y,ρ=[some (tI a),some (tI b),x,y]) (λd=>d= .bl false/\bU a b=false) ⟨∅,none,none,rfl⟩ (by
   rintro pre x post ρ e ⟨hle,x2,x3,rfl⟩;rw[cK]at e;obtain⟨q,yq,rfl⟩:∃q,(a.zip b)[pre.length]?=some q/\ .tup [.int q.1,.int q.2]=x:=by
    have h1:=WW (λl=>l[pre.length]?) e;simp only[T9,UA (TM _),WC,VC]at h1;cases kO:(a.zip b)[pre.length]? with
    |none=>rw[kO]at h1;cases h1
    |some z=>rw[kO]at h1;exact⟨z,rfl,WI h1⟩
   refine⟨_,[some (tI a),some (tI b),some (.int q.1),some (.int q.2)],rfl,?_⟩;by_cases h:q.2<q.1
   ·exact .inr ⟨_,pO (by simp only[RX,Uk h]) (mw rfl),rfl,by unfold bU;rw[List.all_eq_false];exact⟨q,V2 yq,by simp;lia⟩⟩
   ·refine .inl ⟨gQ (by simp only[RX,Ug h]) rfl,λz hz=>?_,_,_,rfl⟩;rw[T6,VQ,Wf,yq]at hz;rcases Uc.mp hz with hz|hz
    ·exact hle z hz
    ·have:z=q:=by simpa using hz
     subst this
     lia)
 have it:cg (au fs (N-1)) (.zip (.var 0) (.var 1)) [some (tI a),some (tI b),none,none] none= .ok (cT (a.map Dt.int) (b.map Dt.int),none):=iN rfl rfl rfl rfl;rcases loop with ⟨ρ',h1,hle,x,y,rfl⟩|⟨d,ρ',h1,rfl,hu⟩
 ·have:bU a b=true:=by unfold bU;rw[Ut];intro q hq;refine Uk (hle q ?_);rw[cK,TU,Wh];exact hq
  rw[this];exact ay hf hN rfl (bD it rfl h1 (aq rfl))
 ·rw[hu];refine ay hf hN rfl (hU (ρ1:=ρ') ?_);rw[gU];exact(WW (R.bind · _) it).trans h1
theorem EU{iu io N:Nat}(hu:fs[iu]?=some ⟨2,4,false,B8⟩)(hf:fs[io]?=some ⟨2,3,false,Fv iu⟩)(hN:2<=N)(a:List Int)(M:List (List Int)):au fs N io [tI a,lI M] none= .ok (.bl (bT a M),none):=by
 have loop:=gE (S:=none) (tg:=.nm 2) (body:=aP (au fs (N-1)) (.cons (.ifs (.call iu (.cons (.var 2) (.cons (.var 0) .nil)) []) (.cons (.ret (.con (.bl true))) .nil) .nil) .nil)) (ds:=M.map tI) (ρ:=[some (tI a),some (lI M),none])
  (λpre ρ=>(∀q∈M.take pre.length,bU q a=false)/\∃x,ρ=[some (tI a),some (lI M),x]) (λd=>d= .bl true/\bT a M=true) ⟨∅,none,rfl⟩ (by
   rintro pre x post ρ e ⟨hle,x2,rfl⟩;obtain⟨q,yq,rfl⟩:∃q,M[pre.length]?=some q/\tI q=x:=by
    have h1:=WW (λl=>l[pre.length]?) e;simp only[T9,UA (TM _),WC,VC]at h1;cases kO:M[pre.length]? with
    |none=>rw[kO]at h1;cases h1
    |some z=>rw[kO]at h1;exact⟨z,rfl,WI h1⟩
   refine⟨_,[some (tI a),some (lI M),some (tI q)],rfl,?_⟩;have hv:=L6 hu (N:=N-1) () q a;cases hq:bU q a with
   |true=>rw[hq]at hv;exact .inr ⟨_,pO (by simp only[RX,hv]) (mw rfl),rfl,by unfold bT;rw[Uu];exact⟨q,V2 yq,hq⟩⟩
   |false=>
    rw[hq]at hv;refine .inl ⟨gQ (by simp only[RX,hv]) rfl,λz hz=>?_,_,rfl⟩;rw[T6,VQ,Wf,yq]at hz;rcases Uc.mp hz with hz|hz
    ·exact hle z hz
    ·have:z=q:=by simpa using hz
     subst this;exact hq)
 rcases loop with ⟨ρ',h1,hle,x,rfl⟩|⟨d,ρ',h1,rfl,hu⟩
 ·have:bT a M=false:=by unfold bT;rw[Vk];intro q hq;rw[hle q (by rw[TU,Wh];exact hq)];exact UP
  rw[this];exact ay hf () rfl (bD (ds:=M.map tI) rfl rfl h1 (aq rfl))
 ·rw[hu];refine ay hf () rfl (hU (ρ1:=ρ') ?_);rw[gU];exact h1
variable{fs:List Fn}
structure fH(m:Nat)(M:List (List Int))(r:List Int):Prop where
 m1:1<=m
 m4:m<=4
 ln:M.length<=16
 rl:r.length=M.length
 wd:∀q∈M,q.length=m
 bd:∀q∈M,∀x∈q,x.natAbs<=3
 rb:∀x∈r,x.natAbs<=20
def cQ(m:Nat)(M:List (List Int))(r:List Int):List (Nat×List Int):=(b9 (rowsOf M r) m).1
def kA(m:Nat)(M:List (List Int))(r:List Int):Int:=lT (cQ m M r).length (cu m (cQ m M r)).length (bK M) (cD r)
def dc(m:Nat)(M:List (List Int))(r:List Int):List (List Int):=if oJ m (b9 (rowsOf M r) m).2=true then[] else yc m (kA m M r).toNat (cQ m M r)
theorem zL{s f:Nat}{t g:Int}(hs:s<=4)(t0:0<=t)(t3:t<=3)(g0:0<=g)(SY:g<=20):0<=lT s f t g/\(lT s f t g).toNat<=gB s f:=by
 have ft:0<=(f:Int)*t/\(f:Int)*t<=3*f:=⟨U4 () t0,by have:=U2 t3 (show (0:Int)<=f by lia);lia⟩;have hx:g+(f:Int)*t<=20+3*f:=()
 have ub:∀mi k:Int,mi<=k->0<=k->0<=mi->0<=mi*(g+(f:Int)*t)/\mi*(g+(f:Int)*t)<=k*(20+3*f):=λmi k hk h1 h2=>⟨U4 h2 (),Int.mul_le_mul hk hx () h1⟩
 match s,hs with
 |0,_=>exact⟨show (0:Int)<=1 by decide,TM 1⟩
 |1,_=>
  have:=ub 1 1 () () ();show 0<=1*(g+(f:Int)*t)/\(1*(g+(f:Int)*t)).toNat<=20+3*f
  lia
 |2,_=>
  have:=ub (2*t) 6 () () ();show 0<=2*t*(g+(f:Int)*t)/\(2*t*(g+(f:Int)*t)).toNat<=6*(20+3*f)
  lia
 |3,_=>
  have q:0<=t*t/\t*t<=9:=⟨U4 t0 t0,by have:=Int.mul_le_mul t3 t3 t0 (by decide:(0:Int)<=3);lia⟩;have e3:4*t*t=4*(t*t):=Int.mul_assoc ..;have:=ub (4*t*t) 36 () () ();show 0<=4*t*t*(g+(f:Int)*t)/\(4*t*t*(g+(f:Int)*t)).toNat<=36*(20+3*f)
  lia
 |4,_=>show 0<=(0:Int)*(g+(f:Int)*t)/\((0:Int)*(g+(f:Int)*t)).toNat<=0;rw[Vc];exact⟨UZ _,TM _⟩
theorem uH(M:List (List Int)):0<=bK M:=by
 unfold bK;by_cases e:Fk M=[]
 ·rw[e];exact UZ 0
 ·obtain⟨q,hq,h'⟩:=V0.mp (cH _ e).1;obtain⟨x,hx,ex⟩:=Us.mp h';rw[<-ex]
  lia
theorem kN{r:List Int}(h:∀x∈r,x.natAbs<=20):0<=cD r/\cD r<=20:=by
 unfold cD;by_cases e:(r.map λx=>(x.natAbs:Int))=[]
 ·rw[e];exact⟨UZ 0,⋯⟩
 ·obtain⟨x,hx,ex⟩:=Us.mp (cH _ e).1;rw[<-ex];have:=h x hx
  lia
section
variable{ip il is ig iw ic io:Nat}(H:yA fs ip il is ig iw ic io)
include H
theorem E3{N m:Nat}{D:Dt}{M:List (List Int)}(hD:d9 D M){r:List Int}(hN:4<=N)(E:fH m M r):au fs N io [D,.int m,tI r] none= .ok (lI (dc m M r),none)/\(dc m M r).length<=900000:=by
 have cm:lim=1000000:=rfl;obtain⟨h,sq⟩:=LF H.l H.s (N:=N-1) () hD E.m4 E.ln (by rw[E.rl];exact E.ln) E.wd E.bd E.rb;have st:=sq.st;cases Cv:oJ m (b9 (rowsOf M r) m).2 with
 |true=>
  rw[Cv,W0 rfl]at h;have e:dc m M r=[]:=by unfold dc;rw[Cv,W0 rfl]
  rw[e];refine⟨ay H.o () rfl ?_,∅⟩;show fin (aP (au fs (N-1)) (B7 is ig iw ic) [some D,some (.int m),some (tI r),none,none,none,none,none] none)=_;exact aj (d:=.bg) (by simp only[RX,h]) rfl (dR (by simp only[RX];rfl) (aq rfl))
 |false=>
 rw[Cv,WZ ∅]at h;have eV:dc m M r=yc m (kA m M r).toNat (cQ m M r):=by unfold dc;rw[Cv,WZ ∅]
 have eB:kA m M r=lT (cQ m M r).length (cu m (cQ m M r)).length (bK M) (cD r):=rfl;have ep:cQ m M r=(b9 (rowsOf M r) m).1:=rfl;rw[eV,ep];rw[ep]at eB;have JZ:(b9 (rowsOf M r) m).1≠[]->M≠[]:=λdH e=>by
  obtain⟨z,hz⟩:=Vw _ dH;have e0:∀p,b9 (rowsOf [] r) p=([],[]):=λp=>by
   induction p with
   |zero=>rfl
   |succ p ih=>unfold b9;rw[ih];rfl
  rw[e,e0 m]at hz;cases hz
 generalize (b9 (rowsOf M r) m).1=PS at *;generalize (b9 (rowsOf M r) m).2=LS at *;have nR:∀p∈PS.map (·.1),p<m:=λp hp=>by obtain⟨q,hq,rfl⟩:=Us.mp hp;exact(st.pl q hq).1
 have Qg:=qP st.nd nR;rw[TU]at Qg
 let FR:=(List.range m).filter λp=> !decide (p∈PS.map (·.1))
 have h4:ev (au fs (N-1)) (.comp [none,none,none] (.seq (.var 3)) (.tp [1,2]) .nil (.var 1)) [some D,some (.int m),some (tI r),some (.lst (PS.map pD)),none,none,none,none] none= .ok (.lst ((PS.map (·.1)).map λ(p:Nat)=>Dt.int p),none):=by
  have hc:aE (aB (.tp [1,2]) (a6 (au fs (N-1)) .nil) (bf (au fs (N-1)) (.var 1)) [none,none,none]) (PS.map pD) none= .ok (PS.map λq=>.int q.1,none):=aR λq hq=>aI (ρ1:=[none,some (.int q.1),some (tI q.2)]) rfl rfl rfl
  have e:(PS.map λq=>Dt.int (q.1:Int))=(PS.map (·.1)).map λ(p:Nat)=>Dt.int p:=by rw[VV];rfl
  rw[e]at hc;exact aO (ds:=PS.map pD) rfl (by rw[TU];have:=E.m4;lia) rfl hc
 have h5:ev (au fs (N-1)) (.comp [none,none,some 4] (.rng1 (.var 1)) (.nm 1) (.cons (.cmp .NotIn (.var 1) (.var 2)) .nil) (.var 1)) [some D,some (.int m),some (tI r),some (.lst (PS.map pD)),some (.lst ((PS.map (·.1)).map λ(p:Nat)=>Dt.int p)),none,none,none] none= .ok (.lst (FR.map λ(p:Nat)=>Dt.int p),none):=by
  have er:aM 0 m=(List.range m).map λ(n:Nat)=>Dt.int n:=by unfold aM;exact VT λi _=>by rw[Vb]
  have hc:aE (aB (.nm 1) (a6 (au fs (N-1)) (.cons (.cmp .NotIn (.var 1) (.var 2)) .nil)) (bf (au fs (N-1)) (.var 1)) [none,none,some (.lst ((PS.map (·.1)).map λ(p:Nat)=>Dt.int p))]) (aM 0 m) none= .ok ((List.range m).flatMap λp=>if (!decide (p∈PS.map (·.1)))=true then[Dt.int p] else[],none):=by
   rw[er];refine cc λp hp=>?_
   have MJ:=CM p (PS.map (·.1));exact turn_if (ρ1:=[none,some (.int p),some (.lst ((PS.map (·.1)).map λ(p:Nat)=>Dt.int p))]) rfl (by rw[rL];show (cN .NotIn (.int p) _).bind _=_;rw[MJ];rfl) λ_=>⟨rfl,rfl⟩
  rw[fL]at hc;exact aO (ds:=aM 0 m) (dJ (n:=m) rfl (by have:=E.m4;lia)) (by simp[aM];have:=E.m4;lia) rfl hc
 have kO:FR.length+PS.length=m:=Qg;have m4:=E.m4;have dH:PS.length≠0->M≠[]:=λz=>JZ λe=>z (by rw[e];rfl)
 have RN:=JT H.g (N:=N-1) () hD E.m1 dH (λz e=>dH z (Vu (by rw[<-E.rl,e];rfl))) E.ln (by rw[E.rl];exact E.ln) E.wd E.m4 E.bd E.rb (s:=PS.length) (f:=FR.length) () ();have MH:=zL (s:=PS.length) (f:=FR.length) () (uH M) (Bg (λq hq z hz=>by have:=E.bd q hq z hz;lia) ⋯) (kN E.rb).1 (kN E.rb).2;have Q9:cu m PS=FR:=rfl;rw[Q9]at eB;obtain⟨g,eg⟩:∃g:Nat,(kA m M r).toNat=g:=⟨_,rfl⟩;have Re:lT PS.length FR.length (bK M) (cD r)=(g:Int):=by rw[<-eB];rw[<-eB]at MH;lia
 have hg:au fs (N-1) ig [D,tI r,.int PS.length,.int FR.length] none= .ok (.int g,none):=by rw[<-Re];exact RN
 have Qh:g<=gB PS.length FR.length:=by rw[<-eg,eB];exact MH.2
 rw[eg];have Qp:=Li (m:=m) () E.m4 Qh;obtain⟨hq,Cu⟩:=L7 H.w (N:=N-1) () (FR:=FR) E.m4 (λp hp=>UE.mp (VY.mp hp).1) Qp;have hQ:∀q∈dU g FR [List.replicate m 0],q.length=m/\∀x∈q,(0:Int)<=x/\x<=(g:Int):=λq iC=>by
  obtain⟨q0,k0,k1,k2,k3⟩:=gO.mp iC;rw[Ur]at k0;subst k0;rw[VO]at k1 k2 k3;refine⟨k1,λx hx=>?_⟩;obtain⟨i,hi,rfl⟩:=dX hx;by_cases hf:i∈FR
  ·obtain⟨n,hn,e⟩:=k3 i hf ()
   lia
  ·rw[k2 i () hf,jO]
   lia
 have eL:yc m g PS=(dU g FR [List.replicate m 0]).filterMap λq=>cV q PS q:=rfl
 rw[eL];generalize dU g FR [List.replicate m 0]=Q at hq Cu hQ;have SZ:g<2^64:=Wv Qh (by
  have hs:PS.length<=4:=()
  have hf:FR.length<=4:=()
  generalize PS.length=s at hs;generalize FR.length=f at hf
  match s,hs with
  |0,_=>simp only[gB];lia
  |1,_=>simp only[gB];lia
  |2,_=>simp only[gB];lia
  |3,_=>simp only[gB];lia
  |4,_=>simp only[gB];lia)
 let cf:List Int->Dt:=λq=>(cV q PS q).elim .bg tI
 have PV:∀q∈Q,au fs (N-1) ic [tI q,.lst (PS.map pD)] none= .ok (cf q,none)/\(cf q= .bg\/∃q',cf q=tI q'):=λq iC=>by
  have IX:=hQ q iC;refine⟨Jz H.p H.c (N:=N-1) () E.m4 st (q:=q) ⟨IX.1,λx hx=>⟨(IX.2 x hx).1,by have:=IX.2 x hx;lia⟩⟩ (λx hx=>by have:=IX.2 x hx;show x.natAbs<_;lia),?_⟩;show (cV q PS q).elim Dt.bg tI= .bg\/∃q',(cV q PS q).elim Dt.bg tI=tI q';cases cV q PS q with
  |none=>exact .inl rfl
  |some x=>exact .inr ⟨x,rfl⟩
 have zR:ev (au fs (N-1)) (.call iw (.cons (.var 1) (.cons (.var 5) (.cons (.var 6) .nil))) []) [some D,some (.int m),some (tI r),some (.lst (PS.map pD)),some (.lst ((PS.map (·.1)).map λ(p:Nat)=>Dt.int p)),some (.lst (FR.map λ(p:Nat)=>Dt.int p)),some (.int g),none] none= .ok (lI Q,none):=by simp only[RX,hq]
 have h7:ev (au fs (N-1)) (.comp [none,none,some 3] (.seq (.call iw (.cons (.var 1) (.cons (.var 5) (.cons (.var 6) .nil))) [])) (.nm 1) .nil (.call ic (.cons (.var 1) (.cons (.var 2) .nil)) [])) [some D,some (.int m),some (tI r),some (.lst (PS.map pD)),some (.lst ((PS.map (·.1)).map λ(p:Nat)=>Dt.int p)),some (.lst (FR.map λ(p:Nat)=>Dt.int p)),some (.int g),none] none= .ok (.lst (Q.map cf),none):=by
  have hc:aE (aB (.nm 1) (a6 (au fs (N-1)) .nil) (bf (au fs (N-1)) (.call ic (.cons (.var 1) (.cons (.var 2) .nil)) [])) [none,none,some (.lst (PS.map pD))]) (Q.map tI) none= .ok (Q.map cf,none):=aR λq iC=>by
   obtain⟨k1,k2⟩:=PV q iC;exact aI (ρ1:=[none,some (tI q),some (.lst (PS.map pD))]) rfl (by simp only[RX,k1]) (by
    unfold ba;rcases k2 with e|⟨q',e⟩
    ·rw[e];exact UT _
    ·rw[e,bZ,UT])
  exact aO (ds:=Q.map tI) (gK zR rfl) (by rw[TU];lia) rfl hc
 let keep:List (List Int):=Q.filterMap λq=>cV q PS q
 have h8:ev (au fs (N-1)) (.comp [none,none] (.seq (.var 7)) (.nm 1) (.cons (.cmp .IsNot (.var 1) (.con .bg)) .nil) (.var 1)) [some D,some (.int m),some (tI r),some (.lst (PS.map pD)),some (.lst ((PS.map (·.1)).map λ(p:Nat)=>Dt.int p)),some (.lst (FR.map λ(p:Nat)=>Dt.int p)),some (.int g),some (.lst (Q.map cf))] none= .ok (lI keep,none):=by
  have hc:aE (aB (.nm 1) (a6 (au fs (N-1)) (.cons (.cmp .IsNot (.var 1) (.con .bg)) .nil)) (bf (au fs (N-1)) (.var 1)) [none,none]) (Q.map cf) none= .ok (Q.flatMap λq=>(match cf q with|.tup ds=>[Dt.tup ds]|_=>[]),none):=cc λq iC=>by
   rcases (PV q iC).2 with e|⟨q',e⟩
   ·rw[e];exact turn_if (b:=false) (y:=.bg) (ρ1:=[none,some .bg]) rfl rfl λz=>by cases z
   ·rw[e];exact turn_if (b:=true) (y:=tI q') (ρ1:=[none,some (tI q')]) rfl rfl λz=>⟨rfl,by unfold ba;rw[bZ,UT]⟩
  have e:(Q.flatMap λq=>(match cf q with|.tup ds=>[Dt.tup ds]|_=>[]))=keep.map tI:=by
   have:∀l:List (List Int),(l.flatMap λq=>(match cf q with|.tup ds=>[Dt.tup ds]|_=>[]))=(l.filterMap λq=>cV q PS q).map tI:=by
    intro l
    induction l with
    |nil=>rfl
    |cons q l ih=>
     rw[Vy,Vx,ih];show (match (cV q PS q).elim Dt.bg tI with|.tup ds=>[Dt.tup ds]|_=>[])++_=_;cases cV q PS q with
     |none=>rfl
     |some x=>rfl
   exact this Q
  rw[e]at hc;exact aO (ds:=Q.map cf) rfl (by rw[TU];lia) rfl hc
 refine⟨ay H.o () rfl ?_,TX (List.length_filterMap_le _ _) Cu⟩;show fin (aP (au fs (N-1)) (B7 is ig iw ic) [some D,some (.int m),some (tI r),none,none,none,none,none] none)=_;refine aj (d:=.lst (PS.map pD)) (by simp only[RX,h]) rfl (bu (by simp only[RX];rfl) (aj h4 rfl (aj h5 rfl (aj (d:=.int g) ?_ rfl (aj h7 rfl (aq h8))))));have l4:c9 .len [.lst ((PS.map (·.1)).map λ(p:Nat)=>Dt.int p)]= .ok (.int PS.length):=by show R.ok (Dt.int (((PS.map (·.1)).map λ(p:Nat)=>Dt.int p).length:Nat))=_;rw[TU,TU]
 have l5:c9 .len [.lst (FR.map λ(p:Nat)=>Dt.int p)]= .ok (.int FR.length):=by show R.ok (Dt.int ((FR.map λ(p:Nat)=>Dt.int p).length:Nat))=_;rw[TU]
 simp only[RX,l4,l5,hg]
end
variable{fs:List Fn}
theorem qc{Q:List (List Int)}{m:Nat}(hm:1<=m)(hl:Q.length<=900000)(h:∀q∈Q,q.length=m):c9 .sorted [lI Q]= .ok (lI (cJ Q)):=by
 have hd:∀q:List Int,Mx.D.e9 (q.map Mx.D.int)=0:=λq=>by
  induction q with
  |nil=>rfl
  |cons x q ih=>simp[Mx.D.e9,Mx.D.dep,ih]
 have Q4:kB (Q.map dI)=true:=by
  refine FI .ti (by rw[TU];lia) (vc λd pq=>?_) (λd pq=>?_) λd pq e he=>?_
  ·obtain⟨q,_,rfl⟩:=Us.mp pq;simp[dI,Mx.D.dep,hd]
  ·obtain⟨q,hq,rfl⟩:=Us.mp pq;have:=h q hq;cases q with
   |nil=>simp at this;lia
   |cons x q=>rfl
  ·obtain⟨q,_,rfl⟩:=Us.mp pq;obtain⟨q2,_,rfl⟩:=Us.mp he;simp only[dI,xH];exact pF q q2
 have pm:=fU (Q.map dI);unfold cJ;rw[EL,(wR Q4).1,EL,VV];congr 3;have:∀l:List Mx.D,(∀y∈l,y∈Q.map dI)->l.map (dI ∘ Iq)=l:=by
  intro l
  induction l with
  |nil=>intro _;rfl
  |cons y l ih=>intro h;obtain⟨q,_,rfl⟩:=Us.mp (h y TN);rw[UB,ih λz hz=>h z (TK _ hz)];simp only[Function.comp,oA]
 exact(this _ λy hy=>pm.mem_iff.mp hy).symm
theorem wB(Q:List (List Int)):(cJ Q).length=Q.length:=by unfold cJ;rw[TU,(fU _).length_eq,TU]
def zeros(n:Nat):List Int:=List.replicate n 0
def a9(m:Nat)(M:List (List Int)):List (List Int):=aS (cJ (dc m M (zeros M.length))) []
theorem fH.zero{m:Nat}{M:List (List Int)}{r:List Int}(E:fH m M r):fH m M (zeros M.length):=⟨E.m1,E.m4,E.ln,by simp[zeros],E.wd,E.bd,λx hx=>by rw[Vv hx];decide⟩
theorem fH.brk{m:Nat}{M:List (List Int)}{r:List Int}(E:fH m M r){r':List Int}(h:∀x∈r',x.natAbs<=20):Rx.brk M m r'=false:=by
 have h1:wU M=false:=by
  unfold wU;rw[Vk];intro q hq z;obtain⟨x,hx,hz⟩:=Uu.mp z;have:=TH hz;have:=E.bd q hq x hx
  lia
 have h2:wV r'=false:=by
  unfold wV;rw[Vk];intro x hx z;have:=TH z;have:=h x hx
  lia
 unfold Rx.brk;rw[h1,h2,Ug (by have:=E.ln;lia),Ug (by have:=E.m4;lia)];rfl
theorem fH.QJ{m:Nat}{M:List (List Int)}{r:List Int}(E:fH m M r):wN m 0 [] (rowsOf M r):=by
 refine⟨λq hq=>?_,λq hq x hx=>?_,∅,∅,∅,∅,∅⟩
 ·obtain⟨z,hz,rfl⟩:=Us.mp hq;rw[T6,E.wd _ (V6 hz).1];rfl
 ·obtain⟨z,hz,rfl⟩:=Us.mp hq;show x.natAbs<=20;rcases Uc.mp hx with hx|hx
  ·have:=E.bd _ (V6 hz).1 x hx;lia
  ·rw[Ur]at hx;subst hx;exact E.rb _ (V6 hz).2
theorem fH.sq{m:Nat}{M:List (List Int)}{r:List Int}(E:fH m M r):Sq m m (rowsOf M r) (cQ m M r) (b9 (rowsOf M r) m).2:=Sq.all E.QJ m (TM _)
theorem fH.Q2{m:Nat}{M:List (List Int)}{r:List Int}(E:fH m M r):0<=kA m M r:=by have h:=lO (p:=0) E.sq;exact(zL (by have:=E.m4;lia) (uH M) (Bg (λq hq z hz=>by have:=E.bd q hq z hz;lia) ⋯) (kN E.rb).1 (kN E.rb).2).1
theorem bJ{m:Nat}{M:List (List Int)}{r x:List Int}(E:fH m M r):x∈dc m M r↔x.length=m/\(∀i,i<m->0<=gI x i)/\bQ M r x/\∀i∈cu m (cQ m M r),gI x i<=kA m M r:=by
 have hb:=E.Q2;unfold dc;cases Cv:oJ m (b9 (rowsOf M r) m).2 with
 |true=>
  rw[W0 rfl];constructor
  ·intro h;cases h
  ·rintro⟨h1,_,h3,_⟩;have:=((E.sq.sol E.wd h1).mp h3).1;rw[Cv]at this;cases this
 |false=>
  rw[WZ ∅,C1 E.sq];constructor
  ·rintro⟨h1,h2,h3,h4⟩;exact⟨h1,h2,(E.sq.sol E.wd h1).mpr ⟨Cv,h3⟩,λi hi=>by have:=h4 i hi;lia⟩
  ·rintro⟨h1,h2,h3,h4⟩;exact⟨h1,h2,((E.sq.sol E.wd h1).mp h3).2,λi hi=>by have:=h4 i hi;lia⟩
theorem nO(n:Nat):cD (zeros n)=0:=by
 unfold cD;by_cases e:((zeros n).map λx=>(x.natAbs:Int))=[]
 ·rw[e];rfl
 ·obtain⟨x,hx,ex⟩:=Us.mp (cH _ e).1;rw[<-ex,Vv hx];rfl
theorem kR{m:Nat}{M:List (List Int)}(E:fH m M (zeros M.length)):
  (∀f∈a9 m M,f.length=m/\(∀i,i<m->0<=gI f i)/\(∀q∈M,aa q f=0)/\0<f.sum)/\(a9 m M).Pairwise Mm:=by
 refine⟨λf hf=>?_,jk (m:=m) (λq hq=>((bJ E).mp (k7.mp hq)).1) ∅ (iX _) ∅ List.Pairwise.nil⟩;rcases nX hf with h|⟨h1,h2⟩
 ·cases h
 ·obtain⟨k1,k2,k3,_⟩:=(bJ E).mp (k7.mp h1);exact⟨k1,k2,eY.mp k3,h2⟩
variable{fs:List Fn}
theorem ua(Q Q' F:List (List Int)):aS (Q++Q') F=aS Q' (aS Q F):=by
 induction Q generalizing F with
 |nil=>rfl
 |cons q Q ih=>rw[Vn,aS,aS,ih]
theorem lZ(Q F:List (List Int)):(aS Q F).length<=Q.length+F.length:=by
 induction Q generalizing F with
 |nil=>simp[aS]
 |cons q Q ih=>
  rw[aS,T8];refine TX (ih _) ?_;split
  ·rw[T6,VQ];lia
  ·lia
structure yz(fs:List Fn)(ip il is ig iw ic io ik iu iv ie:Nat):Prop where
 S:yA fs ip il is ig iw ic io
 k:fs[ik]?=some ⟨3,3,false,B4⟩
 u:fs[iu]?=some ⟨2,4,false,B8⟩
 v:fs[iv]?=some ⟨2,3,false,Fv iu⟩
 e:fs[ie]?=some ⟨2,4,false,Fu ik io iv⟩
section
variable{ip il is ig iw ic io ik iu iv ie:Nat}(H:yz fs ip il is ig iw ic io ik iu iv ie)
include H
theorem An{N m:Nat}{D:Dt}{M:List (List Int)}(hD:d9 D M)(hN:6<=N)(E:fH m M (zeros M.length)):au fs N ie [D,.int m] none= .ok (lI (a9 m M),none)/\(a9 m M).length<=900000:=by
 have cm:lim=1000000:=rfl;have hk:=Ep H.k (N:=N-1) () hD (M:=M) (many:=m) (r:=[]) (by have:=E.ln;lia) (λq hq=>by rw[E.wd q hq];have:=E.m4;lia) ∅ (E.brk (r':=[]) ∅);have hk:au fs (N-1) ik [D,.int m,.tup []] none= .ok (.bg,none):=hk;obtain⟨hq,Cu⟩:=E3 H.S (N:=N-1) hD () E;have hQ:∀q∈dc m M (zeros M.length),q.length=m:=λq h=>((bJ E).mp h).1
 have hs:=qc E.m1 Cu hQ;have ln:=hD.ln;have Kn:=wq (m:=M.length) 0 (by have:=E.ln;lia);have l2:(cJ (dc m M (zeros M.length))).length<=900000:=by rw[wB];exact Cu
 have eV:a9 m M=aS (cJ (dc m M (zeros M.length))) []:=rfl;rw[eV];have hq:au fs (N-1) io [D,.int m,tI (List.replicate M.length 0)] none= .ok (lI (dc m M (zeros M.length)),none):=hq;generalize dc m M (zeros M.length)=Q at hq hs l2 hQ;generalize cJ Q=Q' at hs l2;have loop:=bI (S:=none) (tg:=.nm 3) (body:=aP (au fs (N-1)) (.cons (.ifs (.and (.cmp .Gt (.bi .sum (.cons (.var 3) .nil)) (.con (.int 0))) (.nt (.call iv (.cons (.var 3) (.cons (.mvr 2) .nil)) []))) (.cons (.app 2 (.var 3)) .nil) .nil) .nil)) (ds:=Q'.map tI) (ρ:=[some D,some (.int m),some (lI []),none])
  (λpre ρ=>∃x,ρ=[some D,some (.int m),some (lI (aS (Q'.take pre.length) [])),x]) ⟨none,by rw[VL,Wm];rfl⟩ (by
   rintro pre x post ρ e ⟨x3,rfl⟩;obtain⟨q,yq,rfl⟩:∃q,Q'[pre.length]?=some q/\tI q=x:=by
    have h1:=WW (λl=>l[pre.length]?) e;simp only[T9,UA (TM _),WC,VC]at h1;cases kO:Q'[pre.length]? with
    |none=>rw[kO]at h1;cases h1
    |some z=>rw[kO]at h1;exact⟨z,rfl,WI h1⟩
   have sP:pre.length<Q'.length:=(TJ.mp yq).1;have e1:aS (Q'.take (pre++[tI q]).length) []=if (decide (0<q.sum)&& !bT q (aS (Q'.take pre.length) []))=true then aS (Q'.take pre.length) []++[q] else aS (Q'.take pre.length) []:=by rw[T6,VQ,Wf,yq,ua];rfl
   have hF:(aS (Q'.take pre.length) []).length<=900000:=by
    have:=lZ (Q'.take pre.length) [];rw[VR,VL]at this
    lia
   have hv:=EU H.u H.v (N:=N-1) () q (aS (Q'.take pre.length) []);generalize aS (Q'.take pre.length) []=F at *;have Oj:=wF q;by_cases h0:0<q.sum
   ·cases ho:bT q F with
    |true=>rw[ho]at hv e1;exact⟨_,_,rfl,gQ (by simp only[RX,Oj,Uk h0,hv];rfl) rfl,some (tI q),by rw[e1,UR,UL,WZ ∅];rfl⟩
    |false=>rw[ho]at hv e1;refine⟨_,_,rfl,pO (by simp only[RX,Oj,Uk h0,hv];rfl) (uk (ds:=F.map tI) (d:=tI q) rfl rfl (by unfold ba;rw[bZ,UT]) (by rw[TU];lia) rfl),some (tI q),?_⟩;rw[e1,Bool.not_false,UM,Uk h0,W0 rfl];unfold lI;rw[UC];rfl
   ·exact⟨_,_,rfl,gQ (by simp only[RX,Oj,Ug h0];rfl) rfl,some (tI q),by rw[e1,Ug h0,Bool.false_and,WZ ∅];rfl⟩)
 obtain⟨ρ1,f6,x3,rfl⟩:=loop;rw[TU,Wh]at f6;have Ry:=lZ Q' [];rw[VL]at Ry;refine⟨ay H.e () rfl ?_,()⟩;show fin (aP (au fs (N-1)) (Fu ik io iv) [some (D),some (.int m),none,none] none)=_;refine cW (ρ1:=[some (D),some (.int m),none,none]) (by rw[pY];simp only[RX,hk]) (et (d:=.lst []) rfl rfl (bD (ds:=Q'.map tI) (gK (d:=lI Q') ?_ rfl) rfl f6 (aq rfl)));simp only[RX,ln,Kn,hq,hs]
end
variable{fs:List Fn}
theorem jJ{α:Type}{t:α->Dt}{L:List α}{pre post:List Dt}{x:Dt}(e:L.map t=pre++x::post):∃q,L[pre.length]?=some q/\t q=x:=by
 have h1:=WW (λl=>l[pre.length]?) e;simp only[T9,UA (TM _),WC,VC]at h1;cases kO:L[pre.length]? with
 |none=>rw[kO]at h1;cases h1
 |some z=>rw[kO]at h1;exact⟨z,rfl,WI h1⟩
theorem ow{α:Type}{L:List α}{k:Nat}{q:α}(h:L[k]?=some q):L.take (k+1)=L.take k++[q]:=by rw[Wf,h];rfl
theorem oy(l:List Int):fW (l.map Dt.int)=some (l.map Mx.D.int):=by
 induction l with
 |nil=>rfl
 |cons x l ih=>rw[UB,fW,ih];simp[toD]
theorem xh(q:List Int):Mx.D.e9 (q.map Mx.D.int)=0:=by
 induction q with
 |nil=>rfl
 |cons x q ih=>simp[Mx.D.e9,Mx.D.dep,ih]
theorem JR(a b:List Int):cN .GtE (tI a) (tI b)= .ok (!ltI a b):=by
 show (match fW (a.map Dt.int),fW (b.map Dt.int) with
  |some xs,some ys=>af (nc xs ys&&decide (Mx.D.e9 xs<=100)) (R.ok (!Mx.D.fO xs ys))
  |_,_=>.bad)=_
 rw[oy,oy];dsimp only;rw[pF,xh];rfl
theorem Ah(l:List Int):c9 .len [tI l]= .ok (.int l.length):=by show R.ok (Dt.int ((l.map Dt.int).length:Nat))=_;rw[TU]
theorem Ag(M:List (List Int)):c9 .len [lI M]= .ok (.int M.length):=(d9.lst M).ln
theorem lU{M:List (List Int)}{k:Nat}{q:List Int}(h:M[k]?=some q):cF (lI M) (.int k)= .ok (tI q):=(pA (ds:=M.map tI) (k:=k) (d:=tI q) (by rw[T9,h];rfl)).2
theorem pf{l:List Int}{k:Nat}(h:k<l.length):l[k]?=some (gI l k):=by simp[gI,List.getD,h]
def B9:Ts:=(.cons (.ret (.and (.bi (.isi "int") (.cons (.var 0) .nil)) (.nt (.bi (.isi "bool") (.cons (.var 0) .nil))))) .nil)
theorem Iw{iw N:Nat}(hf:fs[iw]?=some ⟨1,1,false,B9⟩)(hN:1<=N)(i:Int):au fs N iw [.int i] none= .ok (.bl true,none):=by refine ay hf hN rfl ?_;show fin (aP (au fs (N-1)) B9 [some (.int i)] none)=_;exact aq rfl
def yO:Ts:=(.cons (.asg 2 (.con (.int 0))) (.cons (.fr (.nm 3) (.rng1 (.bi .len (.cons (.var 0) .nil))) (.cons (.asg 2 (.bin .Add (.var 2) (.bin .Mult (.idx (.var 0) (.var 3)) (.idx (.var 1) (.var 3))))) .nil)) (.cons (.ret (.var 2)) .nil)))
theorem om:∀{a b:List Int}{k:Nat},k<a.length->k<b.length->aa (a.take (k+1)) b=aa (a.take k) b+gI a k*gI b k
 |[],_,_,h,_=>by simp at h
 |_::_,[],_,_,h=>by simp at h
 |x::a,y::b,0,_,_=>by
  show x*y+aa (a.take 0) b=0+x*y;rw[Wm,bM]
  lia
 |x::a,y::b,k+1,h1,h2=>by
  rw[Wl,Wl,ax,ax,om ‹h1› ‹h2›,az,az]
  lia
theorem E8{iw N:Nat}{D:Dt}(hf:fs[iw]?=some ⟨2,4,false,yO⟩)(hN:1<=N){a b:List Int}(ha:∀x∈a,E2 x)(hl:a.length<=b.length)(hz:a.length<=1000)(hD:∀k,k<b.length->cF D (.int k)= .ok (.int (gI b k))):au fs N iw [tI a,D] none= .ok (.int (aa a b),none):=by
 have cm:lim=1000000:=rfl;have loop:=bI (S:=none) (tg:=.nm 3) (body:=aP (au fs (N-1)) (.cons (.asg 2 (.bin .Add (.var 2) (.bin .Mult (.idx (.var 0) (.var 3)) (.idx (.var 1) (.var 3))))) .nil)) (ds:=aM 0 a.length) (ρ:=[some (tI a),some D,some (.int 0),none])
  (λpre ρ=>∃x,ρ=[some (tI a),some D,some (.int (aa (a.take pre.length) b)),x]) ⟨none,rfl⟩ (by
   rintro pre y post ρ e ⟨x,rfl⟩;obtain⟨h1,rfl⟩:=d8 e;have e1:(pre++[Dt.int pre.length]).length=pre.length+1:=by simp
   generalize pre.length=k at *;have i1:=fN (l:=a) (p:=k) h1;have i2:=hD k ();have m:=aG (i:=gI a k) (j:=gI b k) (.inl (ha _ (bx h1)));refine⟨_,_,rfl,dO (d:=.int (aa (a.take k) b+gI a k*gI b k)) (by simp only[RX,i1,i2,m]) rfl rfl,some (.int k),?_⟩;rw[e1,om h1 ()];rfl)
 obtain⟨ρ1,f6,x,rfl⟩:=loop;have em:(aM 0 a.length).length=a.length:=by simp[aM]
 rw[em,Wh]at f6;have ln:=Ah a;refine ay hf hN rfl ?_;show fin (aP (au fs (N-1)) yO [some (tI a),some D,none,none] none)=_;exact aj (d:=.int 0) rfl rfl (bD (ds:=aM 0 a.length) (dJ (n:=a.length) (by simp only[RX,ln]) ()) rfl f6 (aq rfl))
theorem Iv{iw N:Nat}(hf:fs[iw]?=some ⟨2,4,false,yO⟩)(hN:1<=N){a b:List Int}(ha:∀x∈a,E2 x)(hl:a.length<=b.length)(hz:a.length<=1000):au fs N iw [tI a,tI b] none= .ok (.int (aa a b),none):=E8 hf hN ha hl hz λ_ h=>fN h
def Jp(iw:Nat):Ts:=(.cons (.fr (.nm 3) (.rng1 (.bi .len (.cons (.var 0) .nil))) (.cons (.ifs (.cmp .NotEq (.call iw (.cons (.idx (.var 0) (.var 3)) (.cons (.var 1) .nil)) []) (.idx (.var 2) (.var 3))) (.cons (.ret (.con (.bl false))) .nil) .nil) .nil)) (.cons (.ret (.con (.bl true))) .nil))
def yb(M:List (List Int))(r x:List Int):Bool:=(M.zip r).all λq=>aa q.1 x==q.2
theorem sf{M:List (List Int)}{r x:List Int}:yb M r x=true↔bQ M r x:=by unfold yb bQ;rw[Ut];exact⟨λh q hq=>by simpa using h q hq,λh q hq=>by simpa using h q hq⟩
theorem GI{iw is N m:Nat}(hw:fs[iw]?=some ⟨2,4,false,yO⟩)(hf:fs[is]?=some ⟨3,4,false,Jp iw⟩)(hN:2<=N){M:List (List Int)}{r x:List Int}{D:Dt}(hD:∀k(h:k<r.length),cF D (.int k)= .ok (.int (gI r k)))(hr:r.length=M.length)(hM:M.length<=1000)(hb:∀q∈M,∀z∈q,E2 z)(hm:m<=1000)(hl:∀q∈M,q.length=m)(hx:x.length=m):
  au fs N is [lI M,tI x,D] none= .ok (.bl (yb M r x),none):=by
 have cm:lim=1000000:=rfl;have hz:(M.zip r).length=M.length:=by rw[VS];lia
 have loop:=gE (S:=none) (tg:=.nm 3) (body:=aP (au fs (N-1)) (.cons (.ifs (.cmp .NotEq (.call iw (.cons (.idx (.var 0) (.var 3)) (.cons (.var 1) .nil)) []) (.idx (.var 2) (.var 3))) (.cons (.ret (.con (.bl false))) .nil) .nil) .nil)) (ds:=aM 0 M.length) (ρ:=[some (lI M),some (tI x),some D,none])
  (λpre ρ=>(∀q∈(M.zip r).take pre.length,aa q.1 x=q.2)/\∃y,ρ=[some (lI M),some (tI x),some D,y]) (λd=>d= .bl false/\yb M r x=false) ⟨∅,none,rfl⟩ (by
   rintro pre y post ρ e ⟨hle,y3,rfl⟩;obtain⟨h1,rfl⟩:=d8 e;have e1:(pre++[Dt.int pre.length]).length=pre.length+1:=by simp
   generalize pre.length=k at *;obtain⟨q,hq⟩:∃q,M[k]?=some q:=⟨M[k],Ue h1⟩;have i1:=lU hq;have i2:=hD k ();have F9:=V2 hq;have w:=Iv hw (N:=N-1) () (a:=q) (b:=x) (hb q F9) (by rw[hl q F9,hx];lia) (by rw[hl q F9];exact hm);have Qv:(M.zip r)[k]?=some (q,gI r k):=by rw[List.getElem?_zip_eq_some];exact⟨hq,pf ()⟩
   have dH:cN .NotEq (.int (aa q x)) (.int (gI r k))= .ok (!(aa q x==gI r k)):=rfl;refine⟨_,[some (lI M),some (tI x),some D,some (.int k)],rfl,?_⟩;by_cases h:aa q x=gI r k
   ·refine .inl ⟨gQ (by simp only[RX,i1,i2,w,h];simp) rfl,λz hz=>?_,_,rfl⟩;rw[e1,ow Qv]at hz;rcases Uc.mp hz with hz|hz
    ·exact hle z hz
    ·rw[Ur]at hz;subst hz;exact h
   ·have hb:(aa q x==gI r k)=false:=WT.mpr h;refine .inr ⟨_,pO (by simp only[RX,i1,i2,w,hb,Bool.not_false]) (mw rfl),rfl,?_⟩;unfold yb;rw[List.all_eq_false];exact⟨_,V2 Qv,by simpa using h⟩)
 have ln:=Ag M;have it:cg (au fs (N-1)) (.rng1 (.bi .len (.cons (.var 0) .nil))) [some (lI M),some (tI x),some D,none] none= .ok (aM 0 M.length,none):=dJ (n:=M.length) (by simp only[RX,ln]) ();rcases loop with ⟨ρ',h1,hle,y,rfl⟩|⟨d,ρ',h1,rfl,hu⟩
 ·have:yb M r x=true:=by
   rw[sf];intro q hq;refine hle q ?_;have em:(aM 0 M.length).length=M.length:=by simp[aM]
   rw[em,<-hz,Wh];exact hq
  rw[this];exact ay hf () rfl (bD it rfl h1 (aq rfl))
 ·rw[hu];refine ay hf () rfl (hU (ρ1:=ρ') ?_);rw[gU];exact(WW (R.bind · _) it).trans h1
def Fs(iw:Nat):Ts:=(.cons (.ifs (.nt (.bi (.isi "list") (.cons (.var 0) .nil))) (.cons (.ret (.con (.bl false))) .nil) .nil) (.cons (.fr (.nm 2) (.seq (.var 0)) (.cons (.ifs (.or (.nt (.bi (.isi "tuple") (.cons (.var 2) .nil))) (.cmp .NotEq (.bi .len (.cons (.var 2) .nil)) (.var 1))) (.cons (.ret (.con (.bl false))) .nil) .nil) (.cons (.fr (.nm 3) (.seq (.var 2)) (.cons (.ifs (.or (.nt (.call iw (.cons (.var 3) .nil) [])) (.cmp .Lt (.var 3) (.con (.int 0)))) (.cons (.ret (.con (.bl false))) .nil) .nil) .nil)) .nil))) (.cons (.fr (.tp [4,5]) (.zip (.sliH (.var 0) (.neg (.con (.int 1)))) (.sliL (.var 0) (.con (.int 1)))) (.cons (.ifs (.cmp .GtE (.var 4) (.var 5)) (.cons (.ret (.con (.bl false))) .nil) .nil) .nil)) (.cons (.ret (.con (.bl true))) .nil))))
theorem IH(A B:List (List Int)):cT (A.map tI) (B.map tI)=(A.zip B).map λq=>.tup [tI q.1,tI q.2]:=by
 unfold cT
 induction A generalizing B with
 |nil=>rfl
 |cons x a ih=>cases B with|nil=>rfl|cons y b=>simp[ih]
theorem yF{iw ia N m:Nat}(hw:fs[iw]?=some ⟨1,1,false,B9⟩)(hf:fs[ia]?=some ⟨2,6,false,Fs iw⟩)(hN:2<=N){F:List (List Int)}(hl:∀q∈F,q.length=m)(hn:∀q∈F,∀i,i<m->0<=gI q i)(hs:F.Pairwise λa b=>ltI a b=true):au fs N ia [lI F,.int m] none= .ok (.bl true,none):=by
 have KG:=bI (S:=none) (tg:=.nm 2) (body:=aP (au fs (N-1)) (.cons (.ifs (.or (.nt (.bi (.isi "tuple") (.cons (.var 2) .nil))) (.cmp .NotEq (.bi .len (.cons (.var 2) .nil)) (.var 1))) (.cons (.ret (.con (.bl false))) .nil) .nil) (.cons (.fr (.nm 3) (.seq (.var 2)) (.cons (.ifs (.or (.nt (.call iw (.cons (.var 3) .nil) [])) (.cmp .Lt (.var 3) (.con (.int 0)))) (.cons (.ret (.con (.bl false))) .nil) .nil) .nil)) .nil))) (ds:=F.map tI) (ρ:=[some (lI F),some (.int m),none,none,none,none])
  (λpre ρ=>∃x y,ρ=[some (lI F),some (.int m),x,y,none,none]) ⟨none,none,rfl⟩ (by
   rintro pre x post ρ e ⟨x2,x3,rfl⟩;obtain⟨q,yq,rfl⟩:=jJ e;have hq:=V2 yq;have lq:=hl q hq;have ln:=Ah q;rw[lq]at ln;have inner:=bI (S:=none) (tg:=.nm 3) (body:=aP (au fs (N-1)) (.cons (.ifs (.or (.nt (.call iw (.cons (.var 3) .nil) [])) (.cmp .Lt (.var 3) (.con (.int 0)))) (.cons (.ret (.con (.bl false))) .nil) .nil) .nil)) (ds:=q.map Dt.int) (ρ:=[some (lI F),some (.int m),some (tI q),x3,none,none])
    (λpre ρ=>∃y,ρ=[some (lI F),some (.int m),some (tI q),y,none,none]) ⟨x3,rfl⟩ (by
     rintro pre x post ρ e ⟨y,rfl⟩;obtain⟨z,BM,rfl⟩:=jJ e;obtain⟨i,hi,rfl⟩:=dX (V2 BM);have hz:=hn q hq i ();have w:=Iw hw (N:=N-1) () (gI q i);exact⟨_,_,rfl,gQ (by simp only[RX,w,UR,Ug (show¬gI q i<0 by lia)];rfl) rfl,some (.int (gI q i)),rfl⟩)
   obtain⟨ρ1,f6,y,rfl⟩:=inner;have dH:((m:Int)==(m:Int))=true:=WU _;have hi:c9 (.isi "tuple") [tI q]= .ok (.bl true):=rfl;refine⟨_,_,rfl,gQ (by simp only[RX,hi,ln,dH,UR];rfl) (GZ (ds:=q.map Dt.int) rfl rfl f6 rfl),some (tI q),y,rfl⟩)
 obtain⟨ρ1,h1,x2,x3,rfl⟩:=KG;have c1:dQ (lI F) none (some (-1))= .ok (lI F.dropLast):=by
  show R.ok (Dt.lst (cutD (F.map tI) none (some (-1))))=_;cases F with
  |nil=>rfl
  |cons q F=>rw[qI _ ∅];unfold lI;rw[List.map_dropLast]
 have c2:dQ (lI F) (some 1) none= .ok (lI (F.drop 1)):=by
  show R.ok (Dt.lst (cutD (F.map tI) (some ((1:Nat):Int)) none))=_;cases F with
  |nil=>rfl
  |cons q F=>rw[lJ _ ∅];unfold lI;rw[List.map_drop]
 have Km:∀q∈F.dropLast.zip (F.drop 1),ltI q.1 q.2=true:=by
  have:∀{F:List (List Int)},F.Pairwise (λa b=>ltI a b=true)->∀q∈F.dropLast.zip (F.drop 1),ltI q.1 q.2=true:=by
   intro F
   induction F with
   |nil=>intro _ q hq;simp at hq
   |cons a F ih=>
    intro h q hq;rw[V8]at h;cases F with
    |nil=>simp at hq
    |cons b F=>
     rw[List.dropLast_cons_of_ne_nil ∅,Vs,Vt,Wo]at hq;rcases TY.mp hq with rfl|hq
     ·exact h.1 b TN
     ·exact ih h.2 q (by rw[Vs,Vt];exact hq)
  exact this hs
 have Am:=bI (S:=none) (tg:=.tp [4,5]) (body:=aP (au fs (N-1)) (.cons (.ifs (.cmp .GtE (.var 4) (.var 5)) (.cons (.ret (.con (.bl false))) .nil) .nil) .nil)) (ds:=cT (F.dropLast.map tI) ((F.drop 1).map tI)) (ρ:=[some (lI F),some (.int m),x2,x3,none,none])
  (λpre ρ=>∃x y,ρ=[some (lI F),some (.int m),x2,x3,x,y]) ⟨none,none,rfl⟩ (by
   rintro pre x post ρ e ⟨x4,x5,rfl⟩;rw[IH]at e;obtain⟨q,yq,rfl⟩:=jJ e;have h:=Km q (V2 yq);have g:=JR q.1 q.2;rw[h]at g;exact⟨_,[some (lI F),some (.int m),x2,x3,some (tI q.1),some (tI q.2)],rfl,gQ (by simp only[RX,g,UR]) rfl,_,_,rfl⟩)
 obtain⟨ρ2,h2,x4,x5,rfl⟩:=Am;have hi:c9 (.isi "list") [lI F]= .ok (.bl true):=rfl;refine ay hf () rfl ?_;show fin (aP (au fs (N-1)) (Fs iw) [some (lI F),some (.int m),none,none,none,none] none)=_;refine bu (by simp only[RX,hi,UR]) (bD (ds:=F.map tI) rfl rfl h1 (bD (ds:=cT (F.dropLast.map tI) ((F.drop 1).map tI)) (iN (da:=lI F.dropLast) (db:=lI (F.drop 1)) (by simp only[RX,c1]) (by simp only[RX,c2]) rfl rfl) rfl h2 (aq rfl)))
theorem basis{m:Nat}{L0:List (List Int)}(h:wN m 0 [] L0):∀p,p<=m->∃B:List (List Int),B.length=(b9 L0 p).1.length/\(∀b∈B,b∈L0)/\(∀z,(∀b∈B,aa b z=0)->∀q∈(b9 L0 p).1,aa q.2 z=0)/\
  ∀l∈(b9 L0 p).2,∃o∈L0,∀z,(∀b∈B,aa b z=0)->aa o z=0->aa l z=0
 |0,_=>⟨[],rfl,λ_ e=>(by cases e),λ_ _ _ e=>(by cases e),λl hl=>⟨l,hl,λ_ _ k=>k⟩⟩
 |p+1,hp=>by
  obtain⟨B,b1,b2,b3,b4⟩:=basis h p ();have S:=(Sq.all h p ()).st;show∃B:List (List Int),B.length=(fG p (b9 L0 p)).1.length/\(∀b∈B,b∈L0)/\(∀z,(∀b∈B,aa b z=0)->∀q∈(fG p (b9 L0 p)).1,aa q.2 z=0)/\∀l∈(fG p (b9 L0 p)).2,∃o∈L0,∀z,(∀b∈B,aa b z=0)->aa o z=0->aa l z=0;unfold fG;split
  ·exact⟨B,b1,b2,b3,b4⟩
  ·rename_i b t e;have hb:b∈(b9 L0 p).2:=(VY.mp (by rw[e];exact TN)).1;obtain⟨o,ho,hk⟩:=b4 b hb;have lb:=S.len b hb;have key:∀z,(∀c∈B++[o],aa c z=0)->(∀c∈B,aa c z=0)/\aa b z=0:=λz hz=>
    have h1:∀c∈B,aa c z=0:=λc hc=>hz c (VX _ hc)
    ⟨h1,hk z h1 (hz o ∅)⟩
   refine⟨B++[o],by simp[b1],λc hc=>?_,λz hz q hq=>?_,λl hl=>?_⟩
   ·rcases Uc.mp hc with k|k
    ·exact b2 c k
    ·rw[Ur]at k;rw[k];exact ho
   ·obtain⟨h1,h2⟩:=key z hz;rcases Uc.mp hq with k|k
    ·obtain⟨q',k1,rfl⟩:=Us.mp k;rw[gT z (by rw[lb,(S.pl q' k1).2.1]),b3 z h1 q' k1,h2]
     lia
    ·rw[Ur]at k;rw[k];exact h2
   ·obtain⟨l',k1,rfl⟩:=Us.mp hl;obtain⟨o',CC,k2⟩:=b4 l' k1;refine⟨o',CC,λz hz k3=>?_⟩;obtain⟨h1,h2⟩:=key z hz;rw[gT z (by rw[lb,S.len l' k1]),k2 z h1 k3,h2]
    lia
section
variable{m:Nat}{M:List (List Int)}{r:List Int}
def II(m:Nat)(M:List (List Int))(y:List Int):Prop:=y.length=m/\∀q∈M,aa q y=0
theorem fz{l x:List Int}(g:Int)(h:l.length=x.length):aa (l++[g]) (x++[0])=aa l x:=by
 induction l generalizing x with
 |nil=>cases x with
  |nil=>show g*0+aa [] []=_;rw[U5];rfl
  |cons=>simp at h
 |cons a l ih=>cases x with
  |nil=>simp at h
  |cons b x=>show a*b+aa (l++[g]) (x++[0])=_;rw[ih ‹h›];rfl
theorem zZ{y:List Int}(hl:∀q∈M,q.length=m)(hy:y.length=m)(hr:r.length=M.length):(∀q∈M,aa q y=0)↔∀z∈rowsOf M r,aa z (y++[0])=0:=by
 unfold rowsOf;constructor
 ·intro h z hz;obtain⟨q,hq,rfl⟩:=Us.mp hz;have:=(V6 hq).1;rw[fz _ (by rw[hl _ this,hy]),h _ this]
 ·intro h q hq;obtain⟨k,hk,e⟩:=List.mem_iff_getElem.mp hq;have:=h (q++[r[k]'()]) (Us.mpr ⟨(q,r[k]'()),V1.mpr ⟨k,by rw[List.getElem?_zip_eq_some];exact⟨by rw[Ue hk,e],Ue _⟩⟩,rfl⟩);rwa [fz _ (by rw[hl _ hq,hy])]at this
theorem vB{y:List Int}(E:fH m M r)(hy:y.length=m):(∀q∈M,aa q y=0)↔∀q∈cQ m M r,aa q.2 (y++[0])=0:=by rw[zZ E.wd hy E.rl,E.sq.ev];refine⟨λh=>h.1,λh=>⟨h,λl hl=>?_⟩⟩;obtain⟨a,g,rfl,la,_⟩:=jT (E.sq.st.len l hl);rw[fz _ (by rw[la,hy])];exact mF y λi hi=>by have:=E.sq.zl _ hl i ();rwa [gF hi]at this
theorem z9{y:List Int}(E:fH m M r)(hy:II m M y)(h0:∀i∈cu m (cQ m M r),gI y i=0):∀i,i<m->gI y i=0:=λi hi=>by
 by_cases hf:i∈(cQ m M r).map (·.1)
 ·obtain⟨q,hq,rfl⟩:=Us.mp hf;have h1:=(vB E hy.1).mp hy.2 q hq;obtain⟨_,h2,h3⟩:=E.sq.st.pl q hq;obtain⟨a,g,ea,la,_⟩:=jT h2;rw[ea,fz _ (by rw[la,hy.1]),jX (q:=List.replicate m 0) (p:=q.1) (by simp[hy.1]) (by rw[hy.1];exact hi) (by rw[la,hy.1];exact TM _) λj hj dH=>?_,xQ,jO]at h1
  ·rw[ea,gF ()]at h3;have:gI a q.1*gI y q.1=0:=by rw[<-h1];grind
   exact(Int.mul_eq_zero.mp this).resolve_left h3
  ·rw[hy.1]at hj;rw[jO,U5];by_cases hf:j∈(cQ m M r).map (·.1)
   ·obtain⟨q',iC,rfl⟩:=Us.mp hf;have:=E.sq.pz q hq q' iC dH;rw[ea,gF ()]at this;rw[this,Vc]
   ·rw[h0 j (dC.mpr ⟨hj,hf⟩),U5]
 ·exact h0 i (dC.mpr ⟨hi,hf⟩)
theorem base(E:fH m M r):∃B:List (List Int),B.length=(cQ m M r).length/\(∀b∈B,b∈M)/\(∀b∈B,∀x,x.length=m->bQ M r x->((aa b x).natAbs:Int)<=cD r)/\∀y,y.length=m->(∀b∈B,aa b y=0)->II m M y:=by
 obtain⟨B,b1,b2,b3,_⟩:=basis E.QJ m (TM _);have mem:∀b∈B,∃q∈M.zip r,b=q.1++[q.2]:=λb hb=>by obtain⟨q,hq,e⟩:=Us.mp (b2 b hb);exact⟨q,hq,e.symm⟩
 have tk:∀b∈B,∀q∈M.zip r,b=q.1++[q.2]->b.take m=q.1:=λb hb q hq e=>by rw[e,<-E.wd _ (V6 hq).1,List.take_left]
 refine⟨B.map (List.take m),by rw[TU,b1];rfl,λc hc=>?_,λc hc x hx hs=>?_,λy hy hk=>⟨hy,(vB E hy).mpr (b3 _ λb hb=>?_)⟩⟩
 ·obtain⟨b,hb,rfl⟩:=Us.mp hc;obtain⟨q,hq,e⟩:=mem b hb;rw[tk b hb q hq e];exact(V6 hq).1
 ·obtain⟨b,hb,rfl⟩:=Us.mp hc;obtain⟨q,hq,e⟩:=mem b hb;rw[tk b hb q hq e,hs q hq];exact pH (Us.mpr ⟨q.2,(V6 hq).2,rfl⟩)
 ·obtain⟨q,hq,e⟩:=mem b hb;have:=hk _ (Us.mpr ⟨b,hb,rfl⟩);rw[tk b hb q hq e]at this;rw[e,fz _ (by rw[E.wd _ (V6 hq).1,hy]),this]
end
theorem line{n k:Nat}{e x:Nat->Int}{c E:Int}(hk:k<n)(e0:e k≠0)(eE:((e k).natAbs:Int)<=E)(hn:∀j,j<n->0<=x j)(hc:∀j,j<n->((x j*e k-x k*e j).natAbs:Int)<=c)(hx:c+E<x k):
  ∃ε:Int,(ε=1\/ε= -1)/\0<ε*e k/\∀j,j<n->0<=ε*e j/\ε*e j<=x j:=by
 obtain⟨ε,hε,hp⟩:∃ε:Int,(ε=1\/ε= -1)/\0<ε*e k:=by
  rcases U0 e0 with z|z
  ·exact⟨-1,.inr rfl,()⟩
  ·exact⟨1,.inl rfl,()⟩
 refine⟨ε,hε,hp,λj hj=>?_⟩;have h:((x j*(ε*e k)-x k*(ε*e j)).natAbs:Int)<=c:=by
  have:=hc j hj;rcases hε with rfl|rfl
  ·rw[Int.one_mul,Int.one_mul];exact this
  ·rw[show x j*(-1*e k)-x k*(-1*e j)= -(x j*e k-x k*e j) by grind,Int.natAbs_neg];exact this
 have Td:ε*e k<=E:=by rcases hε with rfl|rfl<;>lia
 generalize ε*e k=p at *;generalize ε*e j=q at *;have Se:=hn j hj;have h1:=U4 Se (Int.le_of_lt hp);have q0:0<=q:=by
  rcases d7 q 0 with w|w
  ·have:=U2 (show q<= -1 by lia) (hn k hk)
   lia
  ·exact w
 refine⟨q0,?_⟩;rcases d7 (x j) q with w|w
 ·have h2:=U3 (show x j<=q-1 by lia) (Int.le_of_lt hp);have h3:=U3 (show (1:Int)<=q by lia) (show 0<=x k-p by lia);have h4:(q-1)*p=q*p-p:=by grind
  have h5:q*(x k-p)=x k*q-q*p:=by grind
  lia
 ·exact w
def cO(a1 a2 a3 b1 b2 b3 c1 c2 c3:Int):Int:=a1*(b2*c3-b3*c2)+a2*(b3*c1-b1*c3)+a3*(b1*c2-b2*c1)
theorem pK{b v t:Int}(h:(b.natAbs:Int)<=t):b*v<=t*v.natAbs:=by
 have h1:(b*v)<=((b*v).natAbs:Int):=()
 rw[U6,U7]at h1;exact Int.le_trans h1 (U3 h ())
theorem yC{z g:Int}(h1:z<=g)(h2: -z<=g):(z.natAbs:Int)<=g:=()
theorem sgn(x:Int):∃s:Int,(s=1\/s= -1)/\(x.natAbs:Int)=s*x:=by
 rcases d7 x 0 with h|h
 ·exact⟨-1,.inr rfl,()⟩
 ·exact⟨1,.inl rfl,()⟩
theorem oZ{b0 b1 b2 v0 v1 v2 t:Int}(h0:(b0.natAbs:Int)<=t)(h1:(b1.natAbs:Int)<=t)(h2:(b2.natAbs:Int)<=t):b0*v0+b1*v1+b2*v2<=t*(v0.natAbs+v1.natAbs+v2.natAbs):=by
 have:=pK (v:=v0) h0;have:=pK (v:=v1) h1;have:=pK (v:=v2) h2;rw[Int.mul_add,Int.mul_add]
 lia
theorem jH{s c t:Int}(h:s=1\/s= -1)(hc:(c.natAbs:Int)<=t):((s*c).natAbs:Int)<=t:=by rw[U6];rcases h with rfl|rfl<;>simpa using hc
theorem jI{s u c d:Int}(hs:s=1\/s= -1)(hu:u=1\/u= -1):(c*s-d*u).natAbs=(u*c-s*d).natAbs:=by
 rcases hs with rfl|rfl<;>rcases hu with rfl|rfl
 ·rw[show c*1-d*1=1*c-1*d by grind]
 ·rw[<-Int.natAbs_neg,show -(c*1-d * -1)= -1*c-1*d by grind]
 ·rw[<-Int.natAbs_neg,show -(c * -1-d*1)=1*c - -1*d by grind]
 ·rw[show c * -1-d * -1= -1*c - -1*d by grind]
theorem nz{p q r t:Int}(hp:(p.natAbs:Int)<=t)(hq:(q.natAbs:Int)<=t)(hr:(r.natAbs:Int)<=t):(((q-r).natAbs:Int)+(r-p).natAbs+(p-q).natAbs)<=4*t:=by omega
theorem ve{a1 a2 a3 b1 b2 b3 c1 c2 c3 t:Int}(ha:(a1.natAbs:Int)<=t/\(a2.natAbs:Int)<=t/\(a3.natAbs:Int)<=t)(hb:(b1.natAbs:Int)<=t/\(b2.natAbs:Int)<=t/\(b3.natAbs:Int)<=t)(hc:(c1.natAbs:Int)<=t/\(c2.natAbs:Int)<=t/\(c3.natAbs:Int)<=t):
  cO a1 a2 a3 b1 b2 b3 c1 c2 c3<=4*t*t*t:=by
 unfold cO;refine Int.le_trans (oZ ha.1 ha.2.1 ha.2.2) ?_;have t0:0<=t:=()
 have e:4*t*t*t=t*(t*(4*t)):=by grind
 rw[e];refine U2 ?_ t0;obtain⟨s1,h1,e1⟩:=sgn (b2*c3-b3*c2);obtain⟨s2,h2,e2⟩:=sgn (b3*c1-b1*c3);obtain⟨s3,h3,e3⟩:=sgn (b1*c2-b2*c1);rw[e1,e2,e3,show s1*(b2*c3-b3*c2)+s2*(b3*c1-b1*c3)+s3*(b1*c2-b2*c1)=b1*(c2*s3-c3*s2)+b2*(c3*s1-c1*s3)+b3*(c1*s2-c2*s1) by grind];refine Int.le_trans (oZ hb.1 hb.2.1 hb.2.2) (U2 ?_ t0);rw[jI h3 h2,jI h1 h3,jI h2 h1];exact nz (jH h1 hc.1) (jH h2 hc.2.1) (jH h3 hc.2.2)
theorem mE(ε:Int):∀(b e:List Int),aa b (e.map (ε * ·))=ε*aa b e
 |[],_=>by rw[bM,bM,U5]
 |_,[]=>by rw[VW,iU,U5]
 |b::bs,e::es=>by rw[UB,ax,ax,mE ε bs es];grind
theorem tO(f:Int->Int)(h:f 0=0)(e:List Int)(i:Nat):gI (e.map f) i=f (gI e i):=by
 unfold gI;rw[VB,VB,T9];cases e[i]? with
 |none=>exact h.symm
 |some v=>rfl
theorem kW:∀{l y:List Int}{n:Nat},l.length=n+1->y.length=n+1->aa l y=gI l 0*gI y 0+aa l.tail y.tail
 |_::_,_::_,_,_,_=>rfl
theorem vq:∀(l:List Int)(i:Nat),gI l.tail i=gI l (i+1)
 |[],_=>rfl
 |_::_,_=>(az ..).symm
theorem gS{l y:List Int}(hl:l.length=3)(hy:y.length=3):aa l y=gI l 0*gI y 0+gI l 1*gI y 1+gI l 2*gI y 2:=by
 rw[kW hl hy,kW (n:=1) (by simp[hl]) (by simp[hy]),kW (n:=0) (by simp[hl]) (by simp[hy]),List.length_eq_zero_iff.mp (show l.tail.tail.tail.length=0 by simp[hl]),bM];simp only[vq,WE];show _+(gI l 1*gI y 1+(gI l 2*gI y 2+0))=_
 lia
theorem iT{l y:List Int}(hl:l.length=4)(hy:y.length=4):aa l y=gI l 0*gI y 0+gI l 1*gI y 1+gI l 2*gI y 2+gI l 3*gI y 3:=by
 rw[kW hl hy,gS (by simp[hl]) (by simp[hy])];simp only[vq];show _+(gI l 1*gI y 1+gI l 2*gI y 2+gI l 3*gI y 3)=_
 lia
theorem GJ:∀{i:Nat},i<3->i=0\/i=1\/i=2:=λ {i}=>(by decide:∀i,i<3->i=0\/i=1\/i=2) i
theorem CY:∀{i:Nat},i<4->i=0\/i=1\/i=2\/i=3:=λ {i}=>(by decide:∀i,i<4->i=0\/i=1\/i=2\/i=3) i
def p2(a b:List Int)(i j:Nat):Int:=gI a i*gI b j-gI a j*gI b i
def dl(a b:List Int)(i:Nat):List Int:=([[0,p2 a b 2 3,p2 a b 3 1,p2 a b 1 2],[p2 a b 3 2,0,p2 a b 0 3,p2 a b 2 0],[p2 a b 1 3,p2 a b 3 0,0,p2 a b 0 1],[p2 a b 2 1,p2 a b 0 2,p2 a b 1 0,0]]:List (List Int)).getD i []
section
variable{a b c:List Int}{t:Int}{k:Nat}
theorem zd{a1 a2 a3 b1 b2 b3 c1 c2 c3 t:Int}(ha:(a1.natAbs:Int)<=t/\(a2.natAbs:Int)<=t/\(a3.natAbs:Int)<=t)(hb:(b1.natAbs:Int)<=t/\(b2.natAbs:Int)<=t/\(b3.natAbs:Int)<=t)(hc:(c1.natAbs:Int)<=t/\(c2.natAbs:Int)<=t/\(c3.natAbs:Int)<=t):
  ((cO a1 a2 a3 b1 b2 b3 c1 c2 c3).natAbs:Int)<=4*t*t*t:=by
 refine yC (ve ha hb hc) ?_;have:=ve (a1:= -a1) (a2:= -a2) (a3:= -a3) (by rw[Int.natAbs_neg,Int.natAbs_neg,Int.natAbs_neg];exact ha) hb hc;rwa [show cO (-a1) (-a2) (-a3) b1 b2 b3 c1 c2 c3= - cO a1 a2 a3 b1 b2 b3 c1 c2 c3 by unfold cO;grind]at this
def d3(a b c:List Int)(i j k:Nat):Int:=cO (gI a i) (gI a j) (gI a k) (gI b i) (gI b j) (gI b k) (gI c i) (gI c j) (gI c k)
def fT(a b c:List Int):List Int:=[d3 a b c 1 2 3,- d3 a b c 0 2 3,d3 a b c 0 1 3,- d3 a b c 0 1 2]
end
section
variable{m:Nat}{M:List (List Int)}{r x:List Int}
theorem Hg{y:List Int}{F:List (List Int)}(hF:∀f∈F,f.length=m)(ly:y.length=m)(lx:x.length=m)(h:bT y F=true)(hu:bU y x=true):bT x F=true:=by obtain⟨f,hf,k⟩:=Uu.mp h;exact Uu.mpr ⟨f,hf,j6 (by rw[hF f hf,ly]) (by rw[ly,lx]) k hu⟩
def kH(m:Nat)(M:List (List Int))(r:List Int):List (List Int):=cJ ((dc m M r).filter λx=> !bT x (a9 m M))
theorem rd(E:fH m M r):x∈kH m M r↔x∈dc m M r/\bT x (a9 m M)=false:=by unfold kH;rw[k7,VY,UQ]
def sj(a b:List Int):List Int:=List.zipWith (· - ·) a b
theorem Ba:∀{a b:List Int}{i:Nat},a.length=b.length->gI (sj a b) i=gI a i-gI b i
 |[],[],i,_=>by simp[sj,gI]
 |x::a,y::b,0,_=>rfl
 |x::a,y::b,i+1,h=>by show gI ((x-y)::sj a b) (i+1)=_;rw[az,az,az];exact Ba ‹h›
theorem rG:∀{l a b:List Int},a.length=b.length->aa l (sj a b)=aa l a-aa l b
 |[],_,_,_=>by rw[bM,bM,bM];rfl
 |q::l,[],[],_=>by show aa (q::l) []=_;rw[iU];rfl
 |q::l,x::a,y::b,h=>by
  show aa (q::l) ((x-y)::sj a b)=_;rw[ax,ax,ax,rG ‹h›]
  grind
theorem oC{g m:Nat}{F0:List Nat}:∀{FR:List Nat}{Q:List (List Int)},FR.Nodup->(∀p∈FR,p∈F0/\p<m)->(∀q∈Q,q.length=m)->Q.Pairwise (λa b=>∃i,i∈F0/\i∉FR/\gI a i≠gI b i)->(dU g FR Q).Pairwise λa b=>∃i,i∈F0/\gI a i≠gI b i
 |[],Q,_,_,_,h=>h.imp λ⟨i,h1,_,h2⟩=>⟨i,h1,h2⟩
 |p::FR,Q,nd,hF,hl,h=>by
  obtain⟨n1,n2⟩:=V5.mp nd;obtain⟨p0,pm⟩:=hF p TN;show (dU g FR (Bo g p Q)).Pairwise _;refine oC n2 (λz hz=>hF z (TK _ hz)) (λq hq=>?_) ?_
  ·obtain⟨q',k1,k2⟩:=V0.mp hq;obtain⟨n,_,rfl⟩:=Us.mp k2;rw[VP];exact hl q' k1
  ·unfold Bo;refine List.pairwise_flatMap.mpr ⟨λq hq=>?_,?_⟩
   ·rw[Wa];exact List.pairwise_lt_range.imp λ {a b} gh=>⟨p,p0,n1,by rw[d6 (by rw[hl q hq];exact pm),d6 (by rw[hl q hq];exact pm)];lia⟩
   ·refine h.imp λ {a b} gh x hx y hy=>?_
    obtain⟨i,i1,i2,i3⟩:=gh;obtain⟨_,_,rfl⟩:=Us.mp hx;obtain⟨_,_,rfl⟩:=Us.mp hy;have Qi:i≠p:=λz=>i2 (z▸TN)
    exact⟨i,i1,λz=>i2 (TK _ z),by rw[dm Qi,dm Qi];exact i3⟩
theorem A6(E:fH m M r):(dc m M r).Pairwise (· ≠ ·):=by
 unfold dc;split
 ·exact List.Pairwise.nil
 ·unfold yc;have lw:∀q∈dU (kA m M r).toNat (cu m (cQ m M r)) [List.replicate m 0],q.length=m:=λq hq=>by obtain⟨q',k1,k2,_⟩:=gO.mp hq;rw[Ur]at k1;rw[k2,k1,VO]
  have hF:∀p∈cu m (cQ m M r),p∈cu m (cQ m M r)/\p<m:=λp hp=>⟨hp,(dC.mp hp).1⟩
  have nd:(cu m (cQ m M r)).Nodup:=List.nodup_range.filter _;have w:=oC (g:=(kA m M r).toNat) (Q:=[List.replicate m 0]) nd hF ∅ ∅;rw[List.pairwise_filterMap];refine List.Pairwise.imp_of_mem (λ {a b} ha hb gh x hx y hy e=>?_) w;obtain⟨i,i1,i2⟩:=gh;obtain⟨im,ip⟩:=dC.mp i1;have pl:∀q:List Int,q.length=m->∀z∈cQ m M r,z.1<q.length/\gI z.2 z.1≠0:=λq lq z hz=>⟨by rw[lq];exact(E.sq.st.pl z hz).1,(E.sq.st.pl z hz).2.2⟩
  have la:=lw a ha;have lb:=lw b hb;have h1:=((gz E.sq.st.nd (pl a la)).mp hx).2.1 i () ip;have h2:=((gz E.sq.st.nd (pl b lb)).mp hy).2.1 i () ip;rw[<-e]at h2;exact i2 (h1.symm.trans h2)
theorem gZ(Q:List (List Int)):(cJ Q).Perm Q:=by unfold cJ;have:=(fU (Q.map dI)).map Iq;rwa [VV,show (Iq ∘ dI:List Int->List Int)=id from funext oA,List.map_id]at this
theorem fv(E:fH m M r)(h:x∈kH m M r):x.length=m/\(∀i,i<m->0<=gI x i)/\bQ M r x/\bT x (a9 m M)=false:=by obtain⟨h1,h2⟩:=(rd E).mp h;obtain⟨k1,k2,k3,_⟩:=(bJ E).mp h1;exact⟨k1,k2,k3,h2⟩
theorem q9(E:fH m M r):(kH m M r).Pairwise λa b=>ltI a b=true:=by
 have nd:(kH m M r).Pairwise (· ≠ ·):=(gZ _).nodup_iff.mpr ((A6 E).filter _);refine List.Pairwise.imp_of_mem (λ {a b} ha hb h=>?_) ((iX _).and nd);cases hl:ltI a b with
 |true=>rfl
 |false=>exact absurd (kS (by rw[(fv E ha).1,(fv E hb).1]) hl h.1) h.2
end
variable{fs:List Fn}
section
variable{ip il is ig iw ic io ik iu iv ie:Nat}(H:yz fs ip il is ig iw ic io ik iu iv ie)
include H
theorem KH{N m it:Nat}{D:Dt}{M:List (List Int)}{r:List Int}(ht:fs[it]?=some ⟨3,4,false,Ft ik io iv ie⟩)(hD:d9 D M)(hN:7<=N)(E:fH m M r):au fs N it [D,.int m,tI r] none= .ok (lI (kH m M r),none)/\(kH m M r).length<=900000:=by
 have cm:lim=1000000:=rfl;have hk:=Ep H.k (N:=N-1) () hD (many:=m) (r:=r) (by have:=E.ln;lia) (λq hq=>by rw[E.wd q hq];have:=E.m4;lia) (by have:=E.rl;have:=E.ln;lia) (E.brk E.rb);obtain⟨hF,_⟩:=An H (N:=N-1) hD () E.zero;obtain⟨hq,Cu⟩:=E3 H.S (N:=N-1) hD () E;have Qb:∀q∈dc m M r,q.length=m:=λq hq=>((bJ E).mp hq).1
 generalize hF':a9 m M=F at hF;have hL:kH m M r=cJ ((dc m M r).filter λx=> !bT x F):=by rw[<-hF'];rfl
 rw[hL];generalize dc m M r=Q at hq Cu Qb;have hv:∀q,au fs (N-1) iv [tI q,lI F] none= .ok (.bl (bT q F),none):=λq=>EU H.u H.v (N:=N-1) () q F
 have zR:ev (au fs (N-1)) (.call io (.cons (.var 0) (.cons (.var 1) (.cons (.var 2) .nil))) []) [some D,some (.int m),some (tI r),some (lI F)] none= .ok (lI Q,none):=by simp only[RX,hq]
 have hc:aE (aB (.nm 1) (a6 (au fs (N-1)) (.cons (.nt (.call iv (.cons (.var 1) (.cons (.var 2) .nil)) [])) .nil)) (bf (au fs (N-1)) (.var 1)) [none,none,some (lI F)]) (Q.map tI) none= .ok (Q.flatMap λq=>if (!bT q F)=true then[tI q] else[],none):=cc λq iC=>by have:=hv q;exact turn_if (ρ1:=[none,some (tI q),some (lI F)]) rfl (by simp only[RX,this]) λ_=>⟨rfl,by unfold ba;rw[bZ,UT]⟩
 rw[fL]at hc;have Ka:=aO (F:=au fs (N-1)) (cap:=[none,none,some 3]) (ρ:=[some D,some (.int m),some (tI r),some (lI F)]) (ds:=Q.map tI) (gK zR rfl) (by rw[TU];lia) rfl hc;have hle:=TX (List.length_filter_le (λx=> !bT x F) Q) Cu;have hs:=qc (Q:=Q.filter λq=> !bT q F) E.m1 hle λq h=>Qb q (VY.mp h).1
 refine⟨ay ht () rfl ?_,by rw[wB];exact hle⟩;show fin (aP (au fs (N-1)) (Ft ik io iv ie) [some D,some (.int m),some (tI r),none] none)=_;refine cW (ρ1:=[some D,some (.int m),some (tI r),none]) (by rw[pY];simp only[RX,hk]) (aj (d:=lI F) (by simp only[RX,hF]) rfl (aq ?_));rw[ek];refine(WW (R.bind · _) Ka).trans ?_;show (c9 .sorted [lI (Q.filter λq=> !bT q F)]).bind _=_;rw[hs];rfl
end
end Rx
end
section
namespace Rx
open PySem.W L2 PySem.SeqAt
theorem A3{fs:List Fn}{n k:Nat}{g:Fn}{args:List Dt}{S:Sx}(h:fs[k]?=some g):au fs (n+1) k args S=iJ (au fs n) g args S:=by show (match fs[k]? with|some g=>iJ (au fs n) g args S|none=>R.bad)=_;rw[h]
section
variable{g:G}{K:Frag}{mg:Str->Option Value}{P:Program}{w:World}{base:Heap}{fs:List Fn}
theorem t9{n L m:Nat}{params:Arguments}{body:List Stmt}{scope:Scope}{dV kV doc pm gk ct oc:Value}{an od:Option Addr}{vU:Array (Option Value)}{f:Addr}{N ps:List Str}{M:List Bool}{δ κ:Option Nat}{fF:Bool}{ts:Ts}
  {xv:Nat->Value} (hm:MG g mg) (CK:XG g K mg xv) (ok:qx g K mg 0 g.fns fs) (lk:K.lookup f=some ⟨oc,od,.func (PySem.W.fnOf "law" "law" params body scope dV kV doc pm an gk ct),vU⟩) (BE:PySem.W.codeIn K gk "law"=true) (S:fI N ps scope)
  (hM:∀i,i<ps.length->M[i]?≠some true) (hp:ps.length=1) (hc:FF m g ⟨scope.names,N,M,δ,κ⟩ false fF body=some ts) (hf:fs[L]?=some ⟨1,N.length,false,ts⟩)
  (hn:∀ns:List Int,ns.length<=63->∃S,au fs (n+1) L [.bO ns] none= .ok (.bl true,S)):
  jF P w K mg base (yj P w) (n+1) f (PySem.W.fnOf "law" "law" params body scope dV kV doc pm an gk ct) ps (wA K):=by
 have h:=nN (xv:=xv) (P:=P) (w:=w) (base:=base) lk BE S hm CK (mG (P:=P) (w:=w) (base:=base) (xv:=xv) hm CK ok n) hM (λz=>by cases z) hc;refine h.imp λvs H Q E q=>?_
 obtain⟨a,ns,rfl,hs,hl,hq⟩:=q;obtain⟨S',hS⟩:=hn ns hl;rw[A3 hf]at hS;rw[hp];refine⟨rfl,N0,none,[.bO ns],none,[.ref a],⟨rfl,rfl,rfl⟩,ao.cons ?_ ao.nil,λb z=>z.elim,?_⟩
 ·unfold RV;refine⟨a,rfl,?_⟩;rcases hs with hs|hs
  ·exact .inl ⟨hs,λz=>z⟩
  ·exact .inr hs
 ·rw[hS];intro v H' fo;rw[fo.val.bX];exact hq H'
end
theorem walkR{l:PySem.W.OpenLaw}{q:Program}{k:Nat}{loose:List Str}{XP:(Str->Option Value)->Heap->Prop}{YP:World->Heap->Prop}{d:DefRec}{K:Params->PySem.W.Frag}(hn:l.most=some 63)(Kc:d.params.defaults=[])(hr:i7 k callerA)
  (hY:∀(w:World)(h:Heap),YP w h->(K w.params).In h)
  (F:∀(w:World)(mg:Str->Option Value)(fa:Addr)(h:Heap),(K w.params).In h->h.Ns mainGlobals mg->mg d.name=some (.ref fa)->
   ∃fd:FuncData,(∀(s:Shared)(u:Value),BindsTo s fd ⟨[u],[]⟩ [("_law_script",u)])/\∀base:Heap,(K w.params).In base->base.Ns mainGlobals mg->jF l.prog w (K w.params) mg base (yj l.prog w) k fa fd ["_law_script"] (wA (K w.params))):
  PySem.W.WalkO q loose XP YP l.row.toRowW d [] (λf vs=>PySem.call f vs):=
 L2.D9 (n:=63) (k:=k) (x:="_law_script") (CX:=λw=>yj l.prog w) (sp:=λw=>wA (K w.params)) hn ⋯ Kc hr hY F (λ_ _ a ns hl _ hS=>⟨a,ns,rfl,hS,hl,λ_=>rfl⟩) λ_ _ _ _ _ z=>z
structure Row where
 nm:Str
 s:Stmt
 ps:List Str
 ms:List Str:=[]
 dr:Option Str:=none
 dp:Bool:=false
 gD:List Dt:=[]
 dk:Option Str:=none
namespace Row
def N(r:Row):List Str:=Sr (bH r.s).names r.ps
def gm(r:Row):Gm:=⟨(bH r.s).names,r.N,IY r.N r.ms,if r.dp then some 0 else r.dr.bind (CP · r.N),r.dk.bind (CP · r.N)⟩
def fn(g:G)(j:Nat)(r:Row):Option Fn:=(FF 60 g r.gm r.dp (g.fr j) (jc r.s)).map λts=>⟨r.ps.length,r.N.length,r.dp,ts⟩
def ent(r:Row):Str×Nat×List Dt×Bool:=(r.nm,r.ps.length,r.gD,r.dp)
def ok(r:Row):Bool:=
 ((bH r.s).kind== .function)&& !(bH r.s).isCoroutine&& !(bH r.s).isGenerator&&decide r.N.Nodup&&decide (r.N.take r.ps.length=r.ps)&&
 (r.ps.all λx=>(bH r.s).names.lookup x==some .local||(bH r.s).names.lookup x==some .cell)&&((bH r.s).names.all λy=>y.2 != .free)&&
 ((IY r.N r.ms).take r.ps.length).all (λb=> !b)&&r.gD.all qw
theorem scope{r:Row}(h:r.ok=true):fI r.N r.ps (bH r.s)/\(∀i,i<r.ps.length->(IY r.N r.ms)[i]?≠some true)/\r.gD.all qw=true:=by
 unfold ok at h;simp only[TC]at h;obtain⟨⟨⟨⟨⟨⟨⟨⟨h1,h2⟩,h3⟩,h4⟩,h5⟩,h6⟩,h7⟩,h8⟩,h9⟩:=h;refine⟨⟨Ud h1,by simpa using h2,by simpa using h3,TH h4,TH h5,λx hx=>?_,λy hy e=>?_⟩,KJ h8,h9⟩
 ·have:=Ut.mp h6 x hx;rcases US.mp this with z|z
  ·exact .inl (Ud z)
  ·exact .inr (Ud z)
 ·have:=Ut.mp h7 y hy;rw[e]at this;cases this
end Row
def qO(g:G):Nat->List Row->Option (List Fn)
 |_,[]=>some []
 |j,r::rs=>(r.fn g j).bind λf=>(qO g (j+1) rs).map (f:: ·)
def Fd(K:Frag)(nm:Str)(s:Stmt)(ps:List Str)(gD:List Dt):Prop:=∃(fa:Addr)(oc dV kV doc pm gk ct:Value)(od an:Option Addr)(vU:Array (Option Value)),
 nsIn K mainGlobals nm=some (some (.ref fa))/\K.lookup fa=some ⟨oc,od,.func (fnOf nm nm (oV s) (jc s) (bH s) dV kV doc pm an gk ct),vU⟩/\codeIn K gk nm=true/\keepIn K (.ref fa)=true/\(gD=[]->dV= .none)/\
 ∀j,j<=gD.length->∃ds,aw ((gD.drop j).map p6) ds/\Binds K (fnOf nm nm (oV s) (jc s) (bH s) dV kV doc pm an gk ct) ps ds
def Mi(K:Frag):List Row->Prop
 |[]=>True
 |r::rs=>Fd K r.nm r.s r.ps r.gD/\Mi K rs
section
variable{g:G}{K:Frag}{mg:Str->Option Value}{h:Heap}{fs:List Fn}
theorem zA(X:K.In h)(Gs:h.Ns mainGlobals mg):∀{rs:List Row}{i:Nat}{fs:List Fn},rs.all Row.ok=true->qO g i rs=some fs->Mi K rs->qx g K mg i (rs.map Row.ent) fs
 |[],i,fs,_,e,_=>by cases e;trivial
 |r::rs,i,fs,hk,e,F=>by rw[Vj,TC]at hk;obtain⟨f,e1,e⟩:=Tw.mp e;obtain⟨Ri,e2,rfl⟩:=T5.mp e;obtain⟨ts,c1,rfl⟩:=T5.mp e1;obtain⟨⟨fa,oc,dV,kV,doc,pm,gk,ct,od,an,vU,a,l,c,k,_,b⟩,F⟩:=F;obtain⟨s1,s2,s3⟩:=Row.scope hk.1;exact⟨⟨fa,r.ps,r.N,_,_,_,60,oc,od,an,vU,_,_,_,dV,kV,doc,pm,gk,ct,l,c,k,mg_of X Gs a,s1,s2,λz=>W0 z,rfl,c1,rfl,rfl,rfl,b,s3⟩,zA X Gs hk.2 e2 F⟩
theorem FY{rs:List Row}:∀{L i:Nat}{fs:List Fn}{r:Row},qO g i rs=some fs->rs[L]?=some r->∃ts,FF 60 g r.gm r.dp (g.fr (i+L)) (jc r.s)=some ts/\fs[L]?=some ⟨r.ps.length,r.N.length,r.dp,ts⟩:=by
 induction rs with
 |nil=>intro L i fs r _ e;simp at e
 |cons r0 rs ih=>
  intro L i fs r e hr;obtain⟨f,e1,e⟩:=Tw.mp e;obtain⟨Ri,e2,rfl⟩:=T5.mp e;cases L with
  |zero=>cases hr;obtain⟨ts,c1,rfl⟩:=T5.mp e1;exact⟨ts,c1,rfl⟩
  |succ L=>obtain⟨ts,c1,c2⟩:=ih e2 ‹hr›;exact⟨ts,by rw[show i+(L+1)=i+1+L by lia];exact c1,by simpa using c2⟩
theorem zu:∀{rs:List Row}{L:Nat}{r:Row},Mi K rs->rs[L]?=some r->Fd K r.nm r.s r.ps r.gD
 |[],L,r,_,e=>by simp at e
 |r0::rs,0,r,F,e=>by cases e;exact F.1
 |r0::rs,L+1,r,F,e=>zu F.2 ‹e›
def Ng(K:Frag):List Str->Prop
 |[]=>True
 |x::xs=>nsIn K mainGlobals x=some none/\Ng K xs
def Na(K:Frag):List (Str×Dt)->Prop
 |[]=>True
 |x::xs=>(∃u,nsIn K mainGlobals x.1=some (some u)/\qw x.2=true/\RelV (p6 x.2) u)/\Na K xs
theorem Au{x:Str}:∀{xs:List Str},Ng K xs->x∈xs->nsIn K mainGlobals x=some none
 |y::xs,h,hx=>by
  rcases TY.mp hx with rfl|hx
  ·exact h.1
  ·exact Au h.2 hx
theorem zb{x:Str}{d:Dt}:∀{xs:List (Str×Dt)},Na K xs->xs.lookup x=some d->∃u,nsIn K mainGlobals x=some (some u)/\qw d=true/\RelV (p6 d) u
 |[],_,e=>by simp at e
 |y::xs,h,e=>by
  rw[Uh]at e;split at e
  ·rename_i q;cases e;rw[Ud q];exact h.1
  ·exact zb h.2 e
def PJ(K:Frag)(xs:List (Str×List (Str×Bool))):Prop:=xs=[]
def Mh(g:G)(mg:Str->Option Value)(k:Nat):Value:=((g.xs[k]?).bind λx=>mg x.1).getD .none
theorem IG(X:K.In h)(Gs:h.Ns mainGlobals mg){xs:List (Str×List (Str×Bool))}{k:Nat}{x:Str}{ts:List (Str×Bool)}(hx:PJ K xs)(e:xs[k]?=some (x,ts)):∃C,mg x=some (.ref C)/\Nl K mg C ts:=by rw[show xs=[] from hx]at e;cases e
theorem law_mk{l:OpenLaw}{w:World}{fa:Addr}{rs:List Row}{cons:List (Str×Dt)}{bls:List Str}{fr:Nat->Bool}{xs:List (Str×List (Str×Bool))}{L n:Nat}{sL:Stmt}{ms:List Str}{dr kd:Option Str}(X:K.In h)(Gs:h.Ns mainGlobals mg)(RM:mg "law"=some (.ref fa))
  (hL:rs[L]?=some ⟨"law",sL,["_law_script"],ms,dr,false,[],kd⟩) (hk:rs.all Row.ok=true) (hfs:qO ⟨rs.map Row.ent,cons,bls,fr,xs⟩ 0 rs=some fs)
  (hb:∀(s:Shared)(v:Value)(kV doc pm gk ct:Value)(an:Option Addr),BindsTo s (fnOf "law" "law" (oV sL) (jc sL) (bH sL) .none kV doc pm an gk ct) ⟨[v],[]⟩ [("_law_script",v)])
  (hn:∀ns:List Int,ns.length<=63->∃S,au fs (n+1) L [.bO ns] none= .ok (.bl true,S)) (B:Ng K bls) (C:Na K cons) (F:Mi K rs) (E:PJ K xs):
  ∃fd:FuncData,(∀(s:Shared)(v:Value),BindsTo s fd ⟨[v],[]⟩ [("_law_script",v)])/\∀base:Heap,K.In base->base.Ns mainGlobals mg->jF l.prog w K mg base (yj l.prog w) (n+1) fa fd ["_law_script"] (wA K):=by
 have CK:XG ⟨rs.map Row.ent,cons,bls,fr,xs⟩ K mg (Mh ⟨rs.map Row.ent,cons,bls,fr,xs⟩ mg):=λk x ts e=>by obtain⟨C,h1,h2⟩:=IG X Gs E e;have e:xs[k]?=some (x,ts):=e;exact⟨C,by simp[Mh,e,h1],h1,h2⟩
 have hm:MG ⟨rs.map Row.ent,cons,bls,fr,xs⟩ mg:=⟨λx d hx=>by
   obtain⟨u,k1,k2,k3⟩:=zb C hx;exact⟨u,k2,mg_of X Gs k1,k3⟩,λx hx=>mg_none_of X Gs (Au B hx)⟩
 have ok:=zA (g:=⟨rs.map Row.ent,cons,bls,fr,xs⟩) X Gs hk hfs F;obtain⟨SX,oc,dV,kV,doc,pm,gk,ct,od,an,vU,a,lk,c,k,hd,b⟩:=zu F hL;cases hd rfl;have e:=RM.symm.trans (mg_of X Gs a);cases e;obtain⟨ts,c1,c2⟩:=FY hfs hL;have hok:=Row.scope (Ut.mp hk _ (V1.mpr ⟨L,hL⟩));exact⟨_,λs v=>hb s v kV doc pm gk ct an,λbase _ _=>t9 hm CK ok lk c hok.1 hok.2.1 rfl c1 c2 hn⟩
end
end Rx
end
section
namespace K27
open PySem.W L2 Mx Rx
def top(i:Nat):Stmt:=PySem.Challenge.pw_mixform_k27_lines_of_solutions.main.body.getD i (.Pass ⟨0,0,0,0⟩)
abbrev rows:List Rx.Row:=[⟨"product",top 5,["one","other"],[],none,false,[],none⟩,
 ⟨"solves",top 6,["rows","row","right"],[],none,false,[.bg],none⟩,
 ⟨"cleared",top 8,["row","place","by"],[],none,false,[],none⟩,
 ⟨"settled",top 9,["rows","many","right"],[],none,false,[],none⟩,
 ⟨"greatest",top 10,["rows","right","settled_many","free_many"],[],none,false,[],none⟩,
 ⟨"walked",top 11,["many","free","bound"],[],none,false,[],none⟩,
 ⟨"completed",top 12,["row","pairs"],["whole"],none,false,[],none⟩,
 ⟨"solutions",top 13,["rows","many","right"],[],none,false,[],none⟩,
 ⟨"check_bounds",top 19,["rows","many","right"],[],none,false,[],none⟩,
 ⟨"lies_under",top 20,["one","other"],[],none,false,[],none⟩,
 ⟨"lies_over",top 21,["row","found"],[],none,false,[],none⟩,
 ⟨"least",top 22,["rows","many"],["found"],none,false,[],none⟩,
 ⟨"least_to",top 23,["rows","many","right"],[],none,false,[],none⟩,
 ⟨"shares",top 24,["rows","row"],["pairs"],none,false,[],none⟩,
 ⟨"_law_cell",top 26,["_law_script","_law_k"],[],none,false,[],none⟩,
 ⟨"_law_pick",top 27,["_law_script","_law_k","_law_many"],[],none,false,[],none⟩,
 ⟨"_law_whole",top 28,["_law_found"],[],none,false,[],none⟩,
 ⟨"_law_weighed",top 29,["_law_line_here","_law_row"],[],none,false,[],none⟩,
 ⟨"_law_solves",top 30,["_law_rows","_law_row","_law_right_here"],[],none,false,[],none⟩,
 ⟨"_law_are_rows",top 31,["_law_found","_law_many"],[],none,false,[],none⟩,
 ⟨"_law_measure",top 32,["_law_rows"],[],none,false,[],none⟩,
 ⟨"_law_divisor",top 33,["_law_one","_law_other"],[],none,false,[],none⟩,
 ⟨"_law_line",top 34,["_law_rows","_law_many"],["_law_line_here"],none,false,[],none⟩,
 ⟨"_law_moved",top 35,["_law_row","_law_line_here","_law_often"],[],none,false,[],none⟩,
 ⟨"_law_due",top 36,["_law_row","_law_line_here"],[],none,false,[],none⟩,
 ⟨"_law_right",top 37,["_law_rows","_law_row"],[],none,false,[],none⟩,
 ⟨"_law_plain",top 38,["_law_found","_law_rows","_law_many","_law_right_here"],[],none,false,[],none⟩,
 ⟨"_law_none",top 39,["_law_script"],[],none,false,[],none⟩,
 ⟨"_law_joined",top 40,["_law_script","_law_rows","_law_chain"],[],none,false,[],none⟩,
 ⟨"_law_plane",top 41,["_law_script"],[],none,false,[],none⟩,
 ⟨"law",top 42,["_law_script"],["_law_rows"],none,false,[],none⟩]
abbrev cons:List (Str×Dt):=[("MOST_ROWS",(.int 16)),("MOST_MANY",(.int 4)),("MOST_NUMBER",(.int 3)),("MOST_RIGHT",(.int 20))]
abbrev bls:List Str:=["abs","all","any","bool","divmod","int","isinstance","len","list","max","min","range","sorted","sum","tuple","zip"]
abbrev fr(i:Nat):Bool:=[false,false,false,false,false,false,false,true,false,false,false,true,true,true,false,true,false,false,false,false,false,false,true,false,true,false,false,false,true,false,false].getD i false
abbrev xs:List (Str×List (Str×Bool)):=[]
def D0:Ts:=(.cons (.asgT [0,1] (.tup (.cons (.var 1) (.cons (.bin .Mod (.var 0) (.var 1)) .nil)))) .nil)
def tR:Ts:=(.cons (.ret (.comp [none,none,some 5] (.seq (.mvr 2)) (.nm 1) .nil (.bin .FloorDiv (.var 1) (.var 2)))) .nil)
def PQ:Ts:=(.cons (.ifs (.nt (.call 18 (.cons (.var 1) (.cons (.var 4) (.cons (.var 3) .nil))) [])) (.cons (.ret (.con (.bl false))) .nil) .nil) .nil)
def tD:Ts:=(.cons (.ret (.bi .sorted (.cons (.comp [none,none,some 1,some 0] (.rng2 (.var 2) (.bin .Add (.var 3) (.con (.int 1)))) (.nm 1) .nil (.call 23 (.cons (.var 3) (.cons (.var 2) (.cons (.var 1) .nil))) [])) .nil))) .nil)
def Nz:Ts:=(.cons (.app 2 (.bi .tuple (.cons (.comp [none,none,some 3,some 1,some 0] (.rng1 (.var 1)) (.nm 1) .nil (.bin .Sub (.bin .Mod (.call 14 (.cons (.var 4) (.cons (.bin .Add (.bin .Add (.con (.int 3)) (.bin .Mult (.var 3) (.var 2))) (.var 1)) .nil)) []) (.con (.int 7))) (.con (.int 3)))) .nil))) .nil)
def PP:Ts:=(.cons (.asg 4 (.comp [none,none,some 3] (.seq (.var 0)) (.nm 1) .nil (.bin .Add (.sliH (.var 1) (.var 2)) (.sliL (.var 1) (.bin .Add (.var 2) (.con (.int 1))))))) (.cons (.app 2 (.bin .Mult (.bin .Sub (.con (.int 1)) (.bin .Mult (.con (.int 2)) (.bin .Mod (.var 3) (.con (.int 2))))) (.call 20 (.cons (.var 4) .nil) []))) .nil))
def tE:Ts:=(.cons (.ifs (.cmp .GtE (.bi .minL (.cons (.var 1) .nil)) (.con (.int 0))) (.cons (.asg 3 (.var 2)) .nil) .nil) tD)
def tJ:Ts:=(.cons (.asg 5 (.call 15 (.cons (.var 0) (.cons (.con (.int 26)) (.cons (.con (.int 4)) .nil))) [])) (.cons (.asg 1 (.comp [none,none,some 5] (.seq (.var 1)) (.nm 1) .nil (.bin .Add (.sliL (.var 1) (.var 2)) (.sliH (.var 1) (.var 2))))) (.cons (.asg 6 (.call 15 (.cons (.var 0) (.cons (.con (.int 27)) (.cons (.con (.int 3)) .nil))) [])) (.cons (.ret (.bin .Add (.sliL (.var 1) (.var 6)) (.sliH (.var 1) (.var 6)))) .nil))))
def LO:Ts:=(.cons (.asg 3 (.comp [none,none,some 2] (.seq (.sliL (.var 0) (.con (.int 1)))) (.nm 1) .nil (.bin .Add (.sliH (.var 1) (.var 2)) (.sliL (.var 1) (.bin .Add (.var 2) (.con (.int 1))))))) (.cons (.asg 1 (.bin .Add (.var 1) (.bin .Mult (.bin .Mult (.bin .Sub (.con (.int 1)) (.bin .Mult (.con (.int 2)) (.bin .Mod (.var 2) (.con (.int 2))))) (.idx (.idx (.var 0) (.con (.int 0))) (.var 2))) (.call 20 (.cons (.var 3) .nil) [])))) .nil))
def Jo:Ts:=(.cons (.ifs (.cmp .Gt (.var 5) (.con (.int 0))) (.cons (.asg 2 (.bi .max2 (.cons (.var 2) (.cons (.bin .Sub (.con (.int 0)) (.bin .FloorDiv (.var 4) (.var 5))) .nil)))) .nil) (.cons (.ifs (.cmp .Lt (.var 5) (.con (.int 0))) (.cons (.asg 3 (.bi .min2 (.cons (.var 3) (.cons (.bin .FloorDiv (.var 4) (.bin .Sub (.con (.int 0)) (.var 5))) .nil)))) .nil) (.cons (.ifs (.cmp .Lt (.var 4) (.con (.int 0))) (.cons (.ret (.lst .nil)) .nil) .nil) .nil)) .nil)) .nil)
def tP:Ts:=(.cons (.asg 13 (.call 15 (.cons (.var 0) (.cons (.con (.int 29)) (.cons (.con (.int 4)) .nil))) [])) (.cons (.asg 14 (.call 11 (.cons (.comp [none,none,some 13] (.seq (.var 5)) (.nm 1) .nil (.bin .Add (.sliL (.var 1) (.var 2)) (.sliH (.var 1) (.var 2)))) (.cons (.con (.int 4)) .nil)) [])) (.cons (.ret (.and (.call 19 (.cons (.var 14) (.cons (.con (.int 4)) .nil)) []) (.cmp .Eq (.var 14) (.bi .sorted (.cons (.comp [none,none,some 13] (.seq (.var 6)) (.nm 1) .nil (.bin .Add (.sliL (.var 1) (.var 2)) (.sliH (.var 1) (.var 2)))) .nil))))) .nil)))
def tL:Ts:=(.cons (.asgM 10 (.call 22 (.cons (.mvr 2) (.cons (.var 1) .nil)) [])) (.cons (.ifs (.cmp .IsNot (.var 10) (.con .bg)) (.cons (.asg 12 (.lst .nil)) (.cons (.ifs (.cmp .GtE (.bi .minL (.cons (.var 10) .nil)) (.con (.int 0))) (.cons (.asg 12 (.lst (.cons (.bi .tuple (.cons (.var 10) .nil)) .nil))) .nil) .nil) (.cons (.ifs (.or (.cmp .NotEq (.var 8) (.var 12)) (.cmp .NotEq (.var 9) (.call 24 (.cons (.var 5) (.cons (.var 10) .nil)) []))) (.cons (.ret (.con (.bl false))) .nil) .nil) .nil))) .nil) (.cons (.ret (.call 27 (.cons (.var 0) .nil) [])) .nil)))
def tM:Ts:=(.cons (.asg 4 (.bin .Sub (.con (.int 5)) (.var 1))) (.cons (.asg 5 (.comp [none,none,some 4,some 0] (.rng1 (.var 1)) (.nm 1) .nil (.bin .Sub (.bin .Mod (.call 14 (.cons (.var 3) (.cons (.bin .Add (.con (.int 20)) (.var 1)) .nil)) []) (.bin .Add (.bin .Mult (.con (.int 2)) (.var 2)) (.con (.int 1)))) (.var 2)))) (.cons (.asg 6 (.call 25 (.cons (.mvr 2) (.cons (.var 5) .nil)) [])) (.cons (.asg 7 (.bi .list (.cons (.mvr 2) .nil))) (.cons (.ifs (.cmp .Eq (.call 15 (.cons (.var 0) (.cons (.con (.int 1)) (.cons (.con (.int 2)) .nil))) []) (.con (.int 0))) (.cons (.asg 7 (.bi .tuple (.cons (.mvr 2) .nil))) .nil) .nil) (.cons (.asg 8 (.call 11 (.cons (.var 7) (.cons (.var 1) .nil)) [])) (.cons (.asg 9 (.call 12 (.cons (.var 7) (.cons (.var 1) (.cons (.var 6) .nil))) [])) (.cons (.asg 11 (.bi .tuple (.cons (.comp [none,none] (.seq (.mvr 2)) (.nm 1) .nil (.con (.int 0))) .nil))) (.cons (.ifs (.or (.nt (.call 26 (.cons (.var 8) (.cons (.mvr 2) (.cons (.var 1) (.cons (.var 11) .nil)))) [])) (.nt (.call 26 (.cons (.var 9) (.cons (.mvr 2) (.cons (.var 1) (.cons (.var 6) .nil)))) []))) (.cons (.ret (.con (.bl false))) .nil) .nil) tL)))))))))
def b1:Ts:=(.cons (.ifs (.cmp .Is (.var 2) (.con .bg)) (.cons (.asg 2 (.bin .Mult (.lst (.cons (.con (.int 0)) .nil)) (.bi .len (.cons (.var 0) .nil)))) .nil) .nil) (.cons (.ifs (.bi .any (.cons (.comp [none,none] (.seq (.var 1)) (.nm 1) .nil (.cmp .Lt (.var 1) (.con (.int 0)))) .nil)) (.cons (.ret (.con (.bl false))) .nil) .nil) (.cons (.ret (.bi .all (.cons (.comp [none,none,none,some 1] (.zip (.var 0) (.var 2)) (.tp [1,2]) .nil (.cmp .Eq (.call 0 (.cons (.var 1) (.cons (.var 3) .nil)) []) (.var 2))) .nil))) .nil)))
def Q0:Ts:=(.cons (.asg 2 (.bi .len (.cons (.var 1) .nil))) (.cons (.FP (.call 8 (.cons (.var 0) (.cons (.bi .maxL (.cons (.bin .Add (.lst (.cons (.var 2) .nil)) (.comp [none,none] (.seq (.var 0)) (.nm 1) .nil (.bi .len (.cons (.var 1) .nil)))) .nil)) (.cons (.tup .nil) .nil))) [])) (.cons (.ifs (.or (.bi .any (.cons (.comp [none,none,some 2] (.seq (.var 0)) (.nm 1) .nil (.cmp .NotEq (.bi .len (.cons (.var 1) .nil)) (.var 2))) .nil)) (.nt (.call 1 (.cons (.var 0) (.cons (.var 1) .nil)) [.bg]))) (.cons (.rs 0 []) .nil) .nil) (.cons (.asg 3 (.var 1)) (.cons (.asgM 4 (.lst .nil)) (.cons (.fr (.nm 5) (.seq (.call 11 (.cons (.var 0) (.cons (.var 2) .nil)) [])) (.cons (.asg 6 (.bi .minL (.cons (.comp [none,none,none] (.zip (.var 3) (.var 5)) (.tp [1,2]) (.cons (.cmp .Gt (.var 2) (.con (.int 0))) .nil) (.bin .FloorDiv (.var 1) (.var 2))) .nil))) (.cons (.ifs (.cmp .Gt (.var 6) (.con (.int 0))) (.cons (.app 4 (.tup (.cons (.var 5) (.cons (.var 6) .nil)))) (.cons (.asg 3 (.bi .tuple (.cons (.comp [none,none,none,some 6] (.zip (.var 3) (.var 5)) (.tp [1,2]) .nil (.bin .Sub (.var 1) (.bin .Mult (.var 3) (.var 2)))) .nil))) .nil)) .nil) .nil))) (.cons (.ret (.mvr 4)) .nil)))))))
def Jn:Ts:=(.cons (.ifs (.cmp .Eq (.bi .len (.cons (.var 0) .nil)) (.con (.int 0))) (.cons (.ret (.con (.int 1))) .nil) .nil) (.cons (.asg 1 (.con (.int 0))) (.cons (.fr (.nm 2) (.rng1 (.bi .len (.cons (.var 0) .nil))) LO) (.cons (.ret (.var 1)) .nil))))
def Nq:Ts:=(.cons (.wh (.cmp .NotEq (.var 1) (.con (.int 0))) D0) (.cons (.ret (.bi .abs (.cons (.var 0) .nil))) .nil))
def Nr:Ts:=(.cons (.asgM 2 (.lst .nil)) (.cons (.fr (.nm 3) (.rng1 (.var 1)) PP) (.cons (.asg 5 (.con (.int 0))) (.cons (.frq (.nm 6) (.seq (.mvr 2)) 5 (.call 21 (.cons (.var 5) (.cons (.var 6) .nil)) [])) (.cons (.ifs (.cmp .Eq (.var 5) (.con (.int 0))) (.cons (.ret (.con .bg)) .nil) .nil) (.cons (.ifs (.cmp .LtE (.bi .maxL (.cons (.mvr 2) .nil)) (.con (.int 0))) (.cons (.asg 5 (.bin .Sub (.con (.int 0)) (.var 5))) .nil) .nil) tR))))))
def PM:Ts:=(.cons (.ret (.bi .tuple (.cons (.comp [none,none,none,some 2] (.zip (.var 0) (.var 1)) (.tp [1,2]) .nil (.bin .Add (.var 1) (.bin .Mult (.var 3) (.var 2)))) .nil))) .nil)
def Nt:Ts:=(.cons (.asg 2 (.neg (.con (.int 200)))) (.cons (.asg 3 (.con (.int 200))) (.cons (.fr (.tp [4,5]) (.zip (.var 0) (.var 1)) Jo) tE)))
def PN:Ts:=(.cons (.ret (.bi .tuple (.cons (.comp [none,none,some 1] (.seq (.var 0)) (.nm 1) .nil (.call 17 (.cons (.var 1) (.cons (.var 2) .nil)) [])) .nil))) .nil)
def Nu:Ts:=(.cons (.ifs (.nt (.call 19 (.cons (.var 0) (.cons (.var 2) .nil)) [])) (.cons (.ret (.con (.bl false))) .nil) .nil) (.cons (.fr (.nm 4) (.seq (.var 0)) PQ) (.cons (.ret (.con (.bl true))) .nil)))
def Nv:Ts:=(.cons (.asg 1 (.comp [none,none] (.rng1 (.call 15 (.cons (.var 0) (.cons (.con (.int 30)) (.cons (.con (.int 4)) .nil))) [])) (.nm 1) .nil (.tup .nil))) (.cons (.asg 2 (.bi .tuple (.cons (.comp [none,none,some 0] (.rng1 (.bi .len (.cons (.var 1) .nil))) (.nm 1) .nil (.call 15 (.cons (.var 2) (.cons (.bin .Add (.con (.int 31)) (.var 1)) (.cons (.con (.int 2)) .nil))) [])) .nil))) (.cons (.asg 3 (.lst (.cons (.tup .nil) .nil))) (.cons (.ifs (.cmp .Gt (.bi .sum (.cons (.var 2) .nil)) (.con (.int 0))) (.cons (.asg 3 (.lst .nil)) .nil) .nil) (.cons (.ifs (.or (.cmp .NotEq (.call 11 (.cons (.var 1) (.cons (.con (.int 0)) .nil)) []) (.lst .nil)) (.cmp .NotEq (.call 12 (.cons (.var 1) (.cons (.con (.int 0)) (.cons (.var 2) .nil))) []) (.var 3))) (.cons (.ret (.con (.bl false))) .nil) .nil) (.cons (.ret (.and (.cmp .Eq (.call 13 (.cons (.var 1) (.cons (.tup .nil) .nil)) []) (.lst .nil)) (.cmp .Eq (.call 12 (.cons (.bi .tuple (.cons (.var 1) .nil)) (.cons (.con (.int 0)) (.cons (.bi .tuple (.cons (.comp [none,none] (.seq (.var 1)) (.nm 1) .nil (.con (.int 0))) .nil)) .nil))) []) (.lst (.cons (.tup .nil) .nil))))) .nil))))))
def Nw:Ts:=(.cons (.ifs (.var 2) (.cons (.asg 3 (.comp [none,none,some 0] (.rng1 (.con (.int 6))) (.nm 1) .nil (.bin .Add (.con (.int 1)) (.bin .Mod (.call 14 (.cons (.var 2) (.cons (.bin .Add (.con (.int 3)) (.var 1)) .nil)) []) (.con (.int 3)))))) (.cons (.asg 1 (.lst (.cons (.tup (.cons (.idx (.var 3) (.con (.int 0))) (.cons (.bin .Sub (.con (.int 0)) (.idx (.var 3) (.con (.int 1)))) (.cons (.con (.int 0)) (.cons (.con (.int 0)) .nil))))) (.cons (.tup (.cons (.con (.int 0)) (.cons (.idx (.var 3) (.con (.int 2))) (.cons (.bin .Sub (.con (.int 0)) (.idx (.var 3) (.con (.int 3)))) (.cons (.con (.int 0)) .nil))))) (.cons (.tup (.cons (.con (.int 0)) (.cons (.con (.int 0)) (.cons (.idx (.var 3) (.con (.int 4))) (.cons (.bin .Sub (.con (.int 0)) (.idx (.var 3) (.con (.int 5)))) .nil))))) .nil))))) .nil)) (.cons (.asg 4 (.bin .Add (.bi .tuple (.cons (.comp [none,none] (.seq (.sliH (.idx (.var 1) (.con (.int 2))) (.con (.int 3)))) (.nm 1) .nil (.bi .abs (.cons (.var 1) .nil))) .nil)) (.tup (.cons (.neg (.con (.int 1))) .nil)))) (.cons (.asg 1 (.lst (.cons (.bin .Add (.sliH (.idx (.var 1) (.con (.int 0))) (.con (.int 3))) (.tup (.cons (.con (.int 0)) .nil))) (.cons (.bin .Add (.sliH (.idx (.var 1) (.con (.int 1))) (.con (.int 3))) (.tup (.cons (.con (.int 0)) .nil))) (.cons (.var 4) .nil))))) .nil))) tJ)
def Nx:Ts:=(.cons (.asgT [1,2,3,4] (.comp [none,none,some 0] (.rng1 (.con (.int 4))) (.nm 1) .nil (.bin .Mod (.call 14 (.cons (.var 2) (.cons (.bin .Add (.con (.int 3)) (.var 1)) .nil)) []) (.con (.int 4))))) (.cons (.asg 5 (.lst (.cons (.tup (.cons (.var 1) (.cons (.var 2) (.cons (.neg (.con (.int 1))) (.cons (.con (.int 0)) .nil))))) (.cons (.tup (.cons (.var 3) (.cons (.con (.int 0)) (.cons (.var 4) (.cons (.neg (.con (.int 1))) .nil))))) .nil)))) (.cons (.asg 6 (.lst (.cons (.tup (.cons (.con (.int 1)) (.cons (.con (.int 0)) (.cons (.var 1) (.cons (.bin .Add (.var 3) (.bin .Mult (.var 4) (.var 1))) .nil))))) (.cons (.tup (.cons (.con (.int 0)) (.cons (.con (.int 1)) (.cons (.var 2) (.cons (.bin .Mult (.var 4) (.var 2)) .nil))))) .nil)))) (.cons (.ifs (.cmp .Eq (.call 15 (.cons (.var 0) (.cons (.con (.int 28)) (.cons (.con (.int 2)) .nil))) []) (.con (.int 0))) (.cons (.asgT [7,8,9,10] (.comp [none,none,some 0] (.rng1 (.con (.int 4))) (.nm 1) .nil (.bin .Add (.con (.int 1)) (.bin .Mod (.call 14 (.cons (.var 2) (.cons (.bin .Add (.con (.int 7)) (.var 1)) .nil)) []) (.con (.int 3)))))) (.cons (.asg 5 (.lst (.cons (.tup (.cons (.var 7) (.cons (.bin .Sub (.con (.int 0)) (.var 8)) (.cons (.con (.int 0)) (.cons (.con (.int 0)) .nil))))) (.cons (.tup (.cons (.con (.int 0)) (.cons (.con (.int 0)) (.cons (.var 9) (.cons (.bin .Sub (.con (.int 0)) (.var 10)) .nil))))) .nil)))) (.cons (.asg 11 (.call 21 (.cons (.var 7) (.cons (.var 8) .nil)) [])) (.cons (.asg 12 (.call 21 (.cons (.var 9) (.cons (.var 10) .nil)) [])) (.cons (.asg 6 (.lst (.cons (.tup (.cons (.bin .FloorDiv (.var 8) (.var 11)) (.cons (.bin .FloorDiv (.var 7) (.var 11)) (.cons (.con (.int 0)) (.cons (.con (.int 0)) .nil))))) (.cons (.tup (.cons (.con (.int 0)) (.cons (.con (.int 0)) (.cons (.bin .FloorDiv (.var 10) (.var 12)) (.cons (.bin .FloorDiv (.var 9) (.var 12)) .nil))))) .nil)))) .nil))))) .nil) tP))))
def Ny:Ts:=(.cons (.ifs (.nt (.call 29 (.cons (.var 0) .nil) [])) (.cons (.ret (.con (.bl false))) .nil) .nil) (.cons (.asg 1 (.bin .Add (.con (.int 3)) (.bin .Mod (.bin .FloorDiv (.call 15 (.cons (.var 0) (.cons (.con (.int 0)) (.cons (.con (.int 5)) .nil))) []) (.con (.int 2))) (.con (.int 2))))) (.cons (.asgM 2 (.lst .nil)) (.cons (.fr (.nm 3) (.rng1 (.bin .Sub (.var 1) (.con (.int 1)))) Nz) (.cons (.ifs (.and (.cmp .Eq (.var 1) (.con (.int 4))) (.cmp .Gt (.call 15 (.cons (.var 0) (.cons (.con (.int 2)) (.cons (.con (.int 3)) .nil))) []) (.con (.int 0)))) (.cons (.asgM 2 (.call 28 (.cons (.var 0) (.cons (.mvr 2) (.cons (.cmp .Eq (.call 15 (.cons (.var 0) (.cons (.con (.int 2)) (.cons (.con (.int 3)) .nil))) []) (.con (.int 1))) .nil))) [])) .nil) .nil) tM)))))
def fs:List Fn:=[⟨2,2,false,qF⟩,⟨3,3,false,b1⟩,⟨3,3,false,yG⟩,⟨3,8,false,B6 2⟩,⟨4,7,false,yI⟩,⟨3,5,false,Ca⟩,⟨2,7,false,B5 0⟩,⟨3,8,false,B7 3 4 5 6⟩,⟨3,3,false,B4⟩,⟨2,4,false,B8⟩,⟨2,3,false,Fv 9⟩,⟨2,4,false,Fu 8 7 10⟩,⟨3,4,false,Ft 8 7 10 11⟩,⟨2,7,false,Q0⟩,⟨2,3,false,uT⟩,⟨3,4,false,yL 14⟩,⟨1,1,false,B9⟩,⟨2,4,false,yO⟩,⟨3,4,false,Jp 17⟩,⟨2,6,false,Fs 16⟩,⟨1,4,false,Jn⟩,⟨2,2,false,Nq⟩,⟨2,7,false,Nr⟩,⟨3,3,false,PM⟩,⟨2,6,false,Nt⟩,⟨2,2,false,PN⟩,⟨4,5,false,Nu⟩,⟨1,4,false,Nv⟩,⟨3,7,false,Nw⟩,⟨1,15,false,Nx⟩,⟨1,13,false,Ny⟩]
theorem hok:rows.all Rx.Row.ok=true:=by decide +kernel
theorem hfs:qO ⟨rows.map Rx.Row.ent,cons,bls,fr,xs⟩ 0 rows=some fs:=by kernel_rfl
theorem qi(q:List Int){p:Nat}(h:p<=q.length):dQ (tI q) none (some (p:Int))= .ok (tI (q.take p)):=by show R.ok (Dt.tup (cutD (q.map Dt.int) none (some (p:Int))))=_;rw[tw _ (by rw[TU];lia),<-List.map_take];rfl
theorem vh(q:List Int){p:Nat}(h:p<=q.length):dQ (tI q) (some (p:Int)) none= .ok (tI (q.drop p)):=by show R.ok (Dt.tup (cutD (q.map Dt.int) (some (p:Int)) none))=_;rw[lJ _ (by rw[TU];lia),<-List.map_drop];rfl
theorem tq{a b:List Int}(h:a.length+b.length<=lim):kI .Add (tI a) (tI b)= .ok (tI (a++b)):=by show af (decide ((a.map Dt.int).length+(b.map Dt.int).length<=lim)) (R.ok (Dt.tup (a.map Dt.int++b.map Dt.int)))=_;rw[Uk (by rw[TU,TU];exact h),guard_true,<-UC];rfl
def dW(k:Nat)(q:List Int):List Int:=q.take k++q.drop (k+1)
theorem va{k:Nat}{q:List Int}(h:k<q.length):(dW k q).length=q.length-1:=by
 unfold dW;rw[T6,VR,VJ]
 lia
theorem vb{k:Nat}{q:List Int}{x:Int}(h:x∈dW k q):x∈q:=by
 rcases Uc.mp h with h|h
 ·exact V3 h
 ·exact List.mem_of_mem_drop h
theorem zc{F:FT}{it:kJ}{c:Option Nat}{k:Nat}{ρ:ai}{rows:List (List Int)}(hi:cg F it ρ none= .ok (rows.map tI,none))(hl:kG it<=1)(hc:fK [none,none,c] ρ=[none,none,some (.int k)])(hr:rows.length<=1000)(hq:∀q∈rows,k<q.length/\q.length<=1000):
  ev F (.comp [none,none,c] it (.nm 1) .nil (.bin .Add (.sliH (.var 1) (.var 2)) (.sliL (.var 1) (.bin .Add (.var 2) (.con (.int 1)))))) ρ none= .ok (lI (rows.map (dW k)),none):=by
 have cm:lim=1000000:=rfl;have e1:(k:Int)+1=((k+1:Nat):Int):=()
 have h:aE (aB (.nm 1) (a6 F .nil) (bf F (.bin .Add (.sliH (.var 1) (.var 2)) (.sliL (.var 1) (.bin .Add (.var 2) (.con (.int 1)))))) [none,none,some (.int k)]) (rows.map tI) none= .ok (rows.map λq=>tI (dW k q),none):=aR λq iC=>by obtain⟨h1,h2⟩:=hq q iC;have t1:=qi q (p:=k) ();have t2:=vh q (p:=k+1) ();have t3:=tq (a:=q.take k) (b:=q.drop (k+1)) (by rw[VR,VJ];lia);exact aI (ρ1:=[none,some (tI q),some (.int k)]) rfl (by simp only[RX,t1,e1,t2,t3];rfl) (by unfold ba;rw[bZ,UT])
 rw[<-hc]at h;have:=aO (F:=F) (cap:=[none,none,c]) hi (by rw[TU];lia) (by rw[Uk hl];rfl) h;rw[this];unfold lI;rw[VV];rfl
def BQ(k:Nat):Int:=1-2*((k:Int) % 2)
theorem p7(k:Nat):(BQ k).natAbs=1:=by unfold BQ;lia
def jd:Nat->List (List Int)->Int
 |0,_=>1
 |n+1,rows=>((List.range (n+1)).map λk=>BQ k*gI (rows.getD 0 []) k*jd n ((rows.drop 1).map (dW k))).sum
theorem vT:∀(n:Nat){N:Nat}{rows:List (List Int)},n<=4->n+1<=N->rows.length=n->(∀q∈rows,q.length=n/\∀x∈q,x.natAbs<=3)->au fs N 20 [lI rows] none= .ok (.int (jd n rows),none)
 |0,N,rows,_,hN,hl,_=>by have e:=List.length_eq_zero_iff.mp hl;subst e;refine ay (body:=Jn) rfl () rfl ?_;show fin (aP (au fs (N-1)) Jn [some (lI []),none,none,none] none)=_;exact dR (by simp only[RX];rfl) (aq rfl)
 |n+1,N,rows,hn,hN,hl,hq=>by
  have cm:lim=1000000:=rfl;obtain⟨q0,rs,rfl⟩:∃q0 rs,rows=q0::rs:=by
   cases rows with
   |nil=>simp at hl
   |cons a l=>exact⟨a,l,rfl⟩
  have l0:=(hq q0 TN).1;have So:rs.length=n:=by simpa using hl
  have loop:=bI (S:=none) (tg:=.nm 2) (ds:=aM 0 (n+1)) (ρ:=[some (lI (q0::rs)),some (.int 0),none,none]) (body:=aP (au fs (N-1)) LO)
   (λpre ρ=>∃x2 x3,ρ=[some (lI (q0::rs)),some (.int (((List.range pre.length).map λk=>BQ k*gI q0 k*jd n (rs.map (dW k))).sum)),x2,x3]) ⟨none,none,rfl⟩ (by
    rintro pre y post ρ e ⟨x2,x3,rfl⟩;obtain⟨hj,rfl⟩:=d8 e;have dr:dQ (lI (q0::rs)) (some 1) none= .ok (lI rs):=by show R.ok (Dt.lst (cutD ((q0::rs).map tI) (some ((1:Nat):Int)) none))=_;rw[lJ _ ∅];rfl
    have hd:=zc (F:=au fs (N-1)) (it:=.seq (.sliL (.var 0) (.con (.int 1)))) (c:=some 2) (k:=pre.length) (ρ:=[some (lI (q0::rs)),some (.int (((List.range pre.length).map λk=>BQ k*gI q0 k*jd n (rs.map (dW k))).sum)),some (.int pre.length),x3]) (rows:=rs) (gK (d:=lI rs) (by simp only[RX,dr]) rfl) ⋯ rfl () (λq iC=>by have:=(hq q (TK _ iC)).1;lia);have hm:=vT n (N:=N-1) (rows:=rs.map (dW pre.length)) () () (by rw[TU,So]) (λq iC=>by
     obtain⟨p,hp,rfl⟩:=Us.mp iC;obtain⟨k1,k2⟩:=hq p (TK _ hp);exact⟨by rw[va ()];lia,λx hx=>k2 x (vb hx)⟩)
    have i0:cF (lI (q0::rs)) (.int 0)= .ok (tI q0):=lU (M:=q0::rs) (k:=0) rfl;have i1:=fN (l:=q0) (p:=pre.length) ();have gb:=(hq q0 TN).2 _ (bx (l:=q0) (p:=pre.length) ());have m1:=bE (i:=(pre.length:Int)) (j:=2) ⋯;have m2:=aG (i:=2) (j:=(pre.length:Int) % 2) (.inl ⋯);have m3:=aG (i:=1-2*((pre.length:Int) % 2)) (j:=gI q0 pre.length) (.inl ());have sb:=p7 pre.length;have m4:=aG (i:=(1-2*((pre.length:Int) % 2))*gI q0 pre.length) (j:=jd n (rs.map (dW pre.length))) (.inl (by
     have:((1-2*((pre.length:Int) % 2))*gI q0 pre.length).natAbs=(gI q0 pre.length).natAbs:=by rw[U6,show (1-2*((pre.length:Int) % 2)).natAbs=1 from sb,Nat.one_mul]
     lia))
    refine⟨_,_,rfl,dO (d:=lI (rs.map (dW pre.length))) hd rfl (dO (d:=.int ((((List.range pre.length).map λk=>BQ k*gI q0 k*jd n (rs.map (dW k))).sum)+(1-2*((pre.length:Int) % 2))*gI q0 pre.length*jd n (rs.map (dW pre.length)))) (by simp only[RX,m1,m2,i0,i1,m3,hm,m4]) rfl rfl),some (.int pre.length),some (lI (rs.map (dW pre.length))),?_⟩;rw[T6,VQ,List.range_succ,UC,List.sum_append,List.map_singleton,List.sum_singleton];rfl)
  obtain⟨ρ1,h,x2,x3,rfl⟩:=loop;rw[show (aM 0 (n+1)).length=n+1 by simp[aM]]at h;have ln:c9 .len [lI (q0::rs)]= .ok (.int ((n+1:Nat):Int)):=by rw[Ag,hl]
  refine ay (body:=Jn) rfl () rfl ?_;show fin (aP (au fs (N-1)) Jn [some (lI (q0::rs)),none,none,none] none)=_;exact bu (by simp only[RX,ln,WT.mpr (show ((n+1:Nat):Int)≠0 by lia)]) (aj (d:=.int 0) rfl rfl (bD (ds:=aM 0 (n+1)) (dJ (n:=n+1) (by simp only[RX,ln]) ()) rfl h (aq rfl)))
theorem zD(a b:Int)(h:b≠0):Int.gcd b (a.fmod b)=Int.gcd a b/\(a.fmod b).natAbs<b.natAbs:=by
 constructor
 ·have e:a.fmod b=a-b*a.fdiv b:=by rw[Int.fmod_def]
  rw[e,Int.gcd_sub_mul_left_right,Int.gcd_comm]
 ·have h1:=Uv a h;have h2:=Int.emod_lt a h;rw[Int.fmod_eq_emod];split
  ·lia
  ·rename_i hc;have:a % b≠0:=λz=>hc (.inr (Int.dvd_of_emod_eq_zero z))
   have:¬0<=b:=λz=>hc (.inl z)
   lia
theorem qK{F:FT}:∀(f:Nat)(a b:Int),b.natAbs<f->∃c,BU (cA F (.cmp .NotEq (.var 1) (.con (.int 0)))) (aP F D0) f [some (.int a),some (.int b)] none= .ok (.next,[some (.int c),some (.int 0)],none)/\c.natAbs=Int.gcd a b
 |0,_,_,h=>by lia
 |f+1,a,b,h=>by
  by_cases hb:b=0
  ·subst hb;refine⟨a,?_,by rw[Int.gcd_zero_right]⟩;rw[BU];rfl
  ·obtain⟨g1,g2⟩:=zD a b hb;obtain⟨c,ih,hc⟩:=qK (F:=F) f b (a.fmod b) ();refine⟨c,?_,by rw[hc,g1]⟩;have ht:cA F (.cmp .NotEq (.var 1) (.con (.int 0))) [some (.int a),some (.int b)] none= .ok (true,none):=by simp only[RX,WT.mpr hb];rfl
   have hm:=rz (i:=a) (j:=b) hb;have hx:aP F D0 [some (.int a),some (.int b)] none= .ok (.next,[some (.int b),some (.int (a.fmod b))],none):=by refine nx ?_ rfl;rw[jw];simp only[RX,hm];rfl
   rw[BU,ht,R.ah,W0 rfl];show ((aP F D0 [some (.int a),some (.int b)] none).bind _)=_;rw[hx,R.ah];exact ih
theorem tS{N:Nat}{a b:Int}(hN:1<=N)(hb:b.natAbs<100000):au fs N 21 [.int a,.int b] none= .ok (.int (Int.gcd a b),none):=by
 obtain⟨c,h,hc⟩:=qK (F:=au fs (N-1)) Bn a b hb;refine ay (body:=Nq) rfl hN rfl ?_;show fin (aP (au fs (N-1)) Nq [some (.int a),some (.int b)] none)=_;refine cW (ρ1:=[some (.int c),some (.int 0)]) (by rw[AU];exact h) (aq ?_);have ab:c9 .abs [.int c]= .ok (.int c.natAbs):=by show R.ok (Dt.int _)=_;congr 2;lia
 simp only[RX,ab,hc]
end K27
end
section
namespace Rx
open PySem.W L2
section
variable{m:Nat}{M:List (List Int)}{r x a b c:List Int}
theorem vd{a1 a2 a3 b1 b2 b3 c1 c2 c3 g t:Int}(ha:(a1.natAbs:Int)<=g/\(a2.natAbs:Int)<=g/\(a3.natAbs:Int)<=g)(hb:(b1.natAbs:Int)<=t/\(b2.natAbs:Int)<=t/\(b3.natAbs:Int)<=t)(hc:(c1.natAbs:Int)<=t/\(c2.natAbs:Int)<=t/\(c3.natAbs:Int)<=t):
  cO a1 a2 a3 b1 b2 b3 c1 c2 c3<=g*(t*(4*t)):=by
 unfold cO;refine Int.le_trans (oZ ha.1 ha.2.1 ha.2.2) ?_;have t0:0<=t:=()
 have g0:0<=g:=()
 refine U2 ?_ g0;obtain⟨s1,h1,e1⟩:=sgn (b2*c3-b3*c2);obtain⟨s2,h2,e2⟩:=sgn (b3*c1-b1*c3);obtain⟨s3,h3,e3⟩:=sgn (b1*c2-b2*c1);rw[e1,e2,e3,show s1*(b2*c3-b3*c2)+s2*(b3*c1-b1*c3)+s3*(b1*c2-b2*c1)=b1*(c2*s3-c3*s2)+b2*(c3*s1-c1*s3)+b3*(c1*s2-c2*s1) by grind];refine Int.le_trans (oZ hb.1 hb.2.1 hb.2.2) (U2 ?_ t0);rw[jI h3 h2,jI h1 h3,jI h2 h1];exact nz (jH h1 hc.1) (jH h2 hc.2.1) (jH h3 hc.2.2)
theorem Ck{a1 a2 a3 b1 b2 b3 c1 c2 c3 g t:Int}(ha:(a1.natAbs:Int)<=g/\(a2.natAbs:Int)<=g/\(a3.natAbs:Int)<=g)(hb:(b1.natAbs:Int)<=t/\(b2.natAbs:Int)<=t/\(b3.natAbs:Int)<=t)(hc:(c1.natAbs:Int)<=t/\(c2.natAbs:Int)<=t/\(c3.natAbs:Int)<=t):
  ((cO a1 a2 a3 b1 b2 b3 c1 c2 c3).natAbs:Int)<=g*(t*(4*t)):=by
 refine yC (vd ha hb hc) ?_;have:=vd (a1:= -a1) (a2:= -a2) (a3:= -a3) (by rw[Int.natAbs_neg,Int.natAbs_neg,Int.natAbs_neg];exact ha) hb hc;rwa [show cO (-a1) (-a2) (-a3) b1 b2 b3 c1 c2 c3= - cO a1 a2 a3 b1 b2 b3 c1 c2 c3 by unfold cO;grind]at this
theorem Er{t G:Int}{j k:Nat}(la:a.length=4)(lb:b.length=4)(lc:c.length=4)(lx:x.length=4)(ha:∀i,i<4->((gI a i).natAbs:Int)<=t)(hb:∀i,i<4->((gI b i).natAbs:Int)<=t)(hc:∀i,i<4->((gI c i).natAbs:Int)<=t)
  (h1:((aa a x).natAbs:Int)<=G) (h2:((aa b x).natAbs:Int)<=G) (h3:((aa c x).natAbs:Int)<=G) (hj:j<4) (hk:k<4):((gI x j*gI (fT a b c) k-gI x k*gI (fT a b c) j).natAbs:Int)<=G*(t*(4*t)):=by
 have D:∀u v,u<4->v<4->((cO (aa a x) (aa b x) (aa c x) (gI a u) (gI b u) (gI c u) (gI a v) (gI b v) (gI c v)).natAbs:Int)<=G*(t*(4*t)):=λu v hu hv=>Ck ⟨h1,h2,h3⟩ ⟨ha u hu,hb u hu,hc u hu⟩ ⟨ha v hv,hb v hv,hc v hv⟩
 have neg:∀{p q d B:Int},p=d\/p= - d->(d.natAbs:Int)<=B->(p.natAbs:Int)<=B:=λh hd=>by rcases h with rfl|rfl<;>lia
 have z:(((0:Int)).natAbs:Int)<=G*(t*(4*t)):=Int.le_trans () (D 0 0 ⋯ ⋯);rw[iT la lx,iT lb lx,iT lc lx]at D;have e0:gI (fT a b c) 0=d3 a b c 1 2 3:=rfl;have e1:gI (fT a b c) 1= - d3 a b c 0 2 3:=rfl;have e2:gI (fT a b c) 2=d3 a b c 0 1 3:=rfl;have e3:gI (fT a b c) 3= - d3 a b c 0 1 2:=rfl;rcases CY hj with rfl|rfl|rfl|rfl<;>rcases CY hk with rfl|rfl|rfl|rfl
 ·rw[U8];exact z
 ·exact neg (q:=0) (.inr (by rw[e0,e1];unfold d3 cO;grind)) (D 2 3 ⋯ ⋯)
 ·exact neg (q:=0) (.inl (by rw[e0,e2];unfold d3 cO;grind)) (D 1 3 ⋯ ⋯)
 ·exact neg (q:=0) (.inr (by rw[e0,e3];unfold d3 cO;grind)) (D 1 2 ⋯ ⋯)
 ·exact neg (q:=0) (.inl (by rw[e0,e1];unfold d3 cO;grind)) (D 2 3 ⋯ ⋯)
 ·rw[U8];exact z
 ·exact neg (q:=0) (.inr (by rw[e1,e2];unfold d3 cO;grind)) (D 0 3 ⋯ ⋯)
 ·exact neg (q:=0) (.inl (by rw[e1,e3];unfold d3 cO;grind)) (D 0 2 ⋯ ⋯)
 ·exact neg (q:=0) (.inr (by rw[e0,e2];unfold d3 cO;grind)) (D 1 3 ⋯ ⋯)
 ·exact neg (q:=0) (.inl (by rw[e1,e2];unfold d3 cO;grind)) (D 0 3 ⋯ ⋯)
 ·rw[U8];exact z
 ·exact neg (q:=0) (.inr (by rw[e2,e3];unfold d3 cO;grind)) (D 0 1 ⋯ ⋯)
 ·exact neg (q:=0) (.inl (by rw[e0,e3];unfold d3 cO;grind)) (D 1 2 ⋯ ⋯)
 ·exact neg (q:=0) (.inr (by rw[e1,e3];unfold d3 cO;grind)) (D 0 2 ⋯ ⋯)
 ·exact neg (q:=0) (.inl (by rw[e2,e3];unfold d3 cO;grind)) (D 0 1 ⋯ ⋯)
 ·rw[U8];exact z
theorem IM(i:Nat)(hi:i<4):(dl a b i).length=4:=by rcases CY hi with rfl|rfl|rfl|rfl<;>rfl
theorem FK(la:a.length=4){i:Nat}(hi:i<4):aa a (dl a b i)=0:=by rw[iT la (IM i hi)];rcases CY hi with rfl|rfl|rfl|rfl<;>simp only[dl,gI,List.getD,p2]<;>simp<;>grind
theorem FL(lb:b.length=4){i:Nat}(hi:i<4):aa b (dl a b i)=0:=by rw[iT lb (IM i hi)];rcases CY hi with rfl|rfl|rfl|rfl<;>simp only[dl,gI,List.getD,p2]<;>simp<;>grind
theorem FM(lc:c.length=4){i:Nat}(hi:i<4):aa c (dl a b i)=gI (fT a b c) i:=by rw[iT lc (IM i hi)];rcases CY hi with rfl|rfl|rfl|rfl<;>simp only[dl,gI,List.getD,p2,fT,d3,cO]<;>simp<;>grind
theorem rH(i:Nat)(hi:i<4):gI (fT a b c) i= - gI (fT a c b) i/\gI (fT a b c) i=gI (fT b c a) i:=by rcases CY hi with rfl|rfl|rfl|rfl<;>simp only[gI,List.getD,fT,d3,cO]<;>simp<;>constructor<;>grind
theorem v7(la:a.length=4)(lb:b.length=4)(lc:c.length=4):∀z∈[a,b,c],aa z (fT a b c)=0:=λz hz=>by
 have lz:z.length=4:=by simp only[TY,TZ,W8]at hz;rcases hz with rfl|rfl|rfl<;>assumption
 rw[iT lz rfl];show gI z 0*d3 a b c 1 2 3+gI z 1 * - d3 a b c 0 2 3+gI z 2*d3 a b c 0 1 3+gI z 3 * - d3 a b c 0 1 2=0;unfold d3 cO;simp only[TY,TZ,W8]at hz;rcases hz with rfl|rfl|rfl<;>grind
theorem Rf{B:List (List Int)}(h:B.length<=2)(hB:∀q∈B,q∈[a,b,c]):(∀q∈B,q=a\/q=b)\/(∀q∈B,q=a\/q=c)\/(∀q∈B,q=b\/q=c):=by
 match B,h with
 |[],_=>exact .inl ∅
 |[p],_=>have h1:=hB p ∅;simp only[TY,TZ,W8,forall_eq]at h1 ⊢;rcases h1 with h|h|h<;>simp[h]
 |[p,q],_=>have h1:=hB p ∅;have h2:=hB q ∅;simp only[TY,TZ,W8,forall_eq_or_imp,forall_eq]at h1 h2 ⊢;rcases h1 with h|h|h<;>rcases h2 with k|k|k<;>simp[h,k]
theorem AW{n:Nat}(E:fH m M r)(h:∀B:List (List Int),B.length<n->(∀q∈B,q∈M)->∃y:List Int,y.length=m/\(∀q∈B,aa q y=0)/\∃q∈M,aa q y≠0):n<=(cQ m M r).length:=by
 obtain⟨B,b1,b2,_,b4⟩:=base E;refine UU λz=>?_
 obtain⟨y,y1,y2,q,hq,y3⟩:=h B () b2;exact y3 ((b4 y y1 y2).2 q hq)
theorem vx(E:fH m M r)(hs:bQ M r x):∀q∈M,((aa q x).natAbs:Int)<=cD r:=λq hq=>by
 obtain⟨i,hi,e⟩:=List.mem_iff_getElem.mp hq;have hr:i<r.length:=by rw[E.rl];exact hi
 have hz:(q,r[i])∈M.zip r:=V1.mpr ⟨i,by rw[List.getElem?_zip_eq_some];exact⟨by rw[Ue hi,e],Ue hr⟩⟩;rw[hs _ hz];exact pH (Us.mpr ⟨r[i],VG hr,rfl⟩)
theorem qk(E:fH m M r):∀q∈M,∀i,i<m->((gI q i).natAbs:Int)<=bK M:=λq hq i hi=>Bf hq (bx (by rw[E.wd q hq];exact hi))
structure Mz(m:Nat)(M:List (List Int))(L:List Int):Prop where
 len:L.length=m
 CF:∀q∈M,aa q L=0
 ne:∃i,i<m/\gI L i≠0
 rk:∀r,fH m M r->m-1<=(cQ m M r).length
 bd:∃c:Int,(∀r,fH m M r->lT (m-1) 1 (bK M) (cD r)=c*(cD r+bK M))/\∀r,fH m M r->(∀k,k<m->((gI L k).natAbs:Int)<=c*bK M)/\∀x:List Int,x.length=m->bQ M r x->∀j k,j<m->k<m->((gI x j*gI L k-gI x k*gI L j).natAbs:Int)<=cD r*c
variable{L:List Int}
theorem Mz.atK(H:Mz m M L)(E:fH m M r){k:Nat}(hk:k∈cu m (cQ m M r)):gI L k≠0/\∃c:Int,kA m M r=c*(cD r+bK M)/\((gI L k).natAbs:Int)<=c*bK M/\∀x:List Int,x.length=m->bQ M r x->∀j,j<m->((gI x j*gI L k-gI x k*gI L j).natAbs:Int)<=cD r*c:=by
 have km:=(dC.mp hk).1;have f0:=lO (p:=0) E.sq;have f1:1<=(cu m (cQ m M r)).length:=List.length_pos_of_mem hk;have f2:=H.rk r E;have hf:(cu m (cQ m M r)).length=1:=()
 obtain⟨c,h1,h2⟩:=H.bd;obtain⟨h3,h4⟩:=h2 r E;refine⟨λz=>?_,c,?_,h3 k km,λx lx hs j hj=>h4 x lx hs j k hj km⟩
 ·obtain⟨i,hi,ne⟩:=H.ne;refine ne (z9 E ⟨H.len,H.CF⟩ (λj hj=>?_) i hi);obtain⟨w,hw⟩:=List.length_eq_one_iff.mp hf;rw[hw,Ur]at hj hk;rw[hj,<-hk];exact z
 ·unfold kA;rw[hf,show (cQ m M r).length=m-1 by lia];exact h1 r E
theorem Mz.LJ(H:Mz m M L)(E:fH m M (zeros M.length)){P:List Int}(lP:P.length=m)(hn:∀i,i<m->0<=gI P i)(hh:∀q∈M,aa q P=0)(hl:∀i,i<m->gI P i<=((gI L i).natAbs:Int)):P∈dc m M (zeros M.length):=(bJ E).mpr ⟨lP,hn,eY.mpr hh,λk hk=>by
 obtain⟨_,c,h1,h2,_⟩:=H.atK E hk;rw[h1,nO,Vb];exact Int.le_trans (hl k (dC.mp hk).1) h2⟩
theorem qa{y:List Int}(h:y∈dc m M (zeros M.length))(hp:0<y.sum):bT y (a9 m M)=true:=nY (F:=[]) (k7.mpr h) hp
theorem Mz.big(H:Mz m M L)(E:fH m M r)(lx:x.length=m)(hn:∀i,i<m->0<=gI x i)(hs:bQ M r x)(ML:bT x (a9 m M)=false):x∈dc m M r:=by
 refine(bJ E).mpr ⟨lx,hn,hs,λk hk=>?_⟩;rcases d7 (kA m M r) (gI x k)with hb|hb
 ·exfalso;have km:=(dC.mp hk).1;obtain⟨e0,c,h1,h2,h3⟩:=H.atK E hk;rw[h1]at hb;obtain⟨ε,hε,hp,h⟩:=line (e:=gI L) (x:=gI x) km e0 h2 hn (h3 x lx hs) (by
   rw[Int.mul_add,U1 c]at hb;exact hb)
  have ly:(L.map (ε * ·)).length=m:=by rw[TU,H.len]
  have gy:∀i,gI (L.map (ε * ·)) i=ε*gI L i:=λi=>tO _ (U5 _) _ _
  have hy:=H.LJ E.zero ly (λi hi=>by rw[gy];exact(h i hi).1) (λq hq=>by rw[mE,H.CF q hq,U5]) λi hi=>by rw[gy];rcases hε with rfl|rfl<;>lia
  rw[Hg (λf hf=>((kR E.zero).1 f hf).1) ly lx (qa hy (k8 (λi hi=>by rw[gy];exact(h i ()).1) ⟨k,(),by rw[gy];exact hp⟩)) ((dw (by rw[ly,lx])).mpr λi hi=>by rw[gy];exact(h i ()).2)]at ML;cases ML
 ·exact hb
theorem Sv(la:a.length=4)(lb:b.length=4)(lc:c.length=4)(hL:∃i,i<4/\gI (fT a b c) i≠0):Mz 4 [a,b,c] (fT a b c):=by
 refine⟨rfl,v7 la lb lc,hL,λr E=>AW E λB hB b2=>?_,4*bK [a,b,c]*bK [a,b,c],λr E=>?_,λr E=>⟨λk hk=>?_,λx lx hs j k hj hk=>?_⟩⟩
 ·obtain⟨i0,qr,dH⟩:=hL;rcases Rf () b2 with h|h|h
  ·exact⟨dl a b i0,IM i0 qr,λq hq=>(h q hq).elim (λe=>e▸FK la qr) (λe=>e▸FL lb qr),c,∅,by rw[FM lc qr];exact dH⟩
  ·exact⟨dl a c i0,IM i0 qr,λq hq=>(h q hq).elim (λe=>e▸FK la qr) (λe=>e▸FL lc qr),b,∅,by rw[FM lb qr];rw[(rH i0 qr).1]at dH;lia⟩
  ·exact⟨dl b c i0,IM i0 qr,λq hq=>(h q hq).elim (λe=>e▸FK lb qr) (λe=>e▸FL lc qr),a,∅,by rw[FM la qr];rw[(rH i0 qr).2]at dH;exact dH⟩
 ·show 4*bK [a,b,c]*bK [a,b,c]*(cD r+(1:Nat)*bK [a,b,c])=_;rw[Int.natCast_one,Int.one_mul]
 ·have eG:=qk E;have dE:∀i j k,i<4->j<4->k<4->((d3 a b c i j k).natAbs:Int)<=4*bK [a,b,c]*bK [a,b,c]*bK [a,b,c]:=λi j k hi hj hk=>zd ⟨eG a ∅ i hi,eG a ∅ j hj,eG a ∅ k hk⟩ ⟨eG b ∅ i hi,eG b ∅ j hj,eG b ∅ k hk⟩ ⟨eG c ∅ i hi,eG c ∅ j hj,eG c ∅ k hk⟩
  rcases CY hk with rfl|rfl|rfl|rfl
  ·exact dE 1 2 3 ⋯ ⋯ ⋯
  ·show ((- d3 a b c 0 2 3).natAbs:Int)<=_;rw[Int.natAbs_neg];exact dE 0 2 3 ⋯ ⋯ ⋯
  ·exact dE 0 1 3 ⋯ ⋯ ⋯
  ·show ((- d3 a b c 0 1 2).natAbs:Int)<=_;rw[Int.natAbs_neg];exact dE 0 1 2 ⋯ ⋯ ⋯
 ·have eG:=qk E;have G1:=vx E hs;have:=Er (j:=j) (k:=k) la lb lc lx (eG a ∅) (eG b ∅) (eG c ∅) (G1 a ∅) (G1 b ∅) (G1 c ∅) hj hk;rwa [show bK [a,b,c]*(4*bK [a,b,c])=4*bK [a,b,c]*bK [a,b,c] by grind]at this
def pR(a b:List Int):List Int:=[p2 a b 1 2,- p2 a b 0 2,p2 a b 0 1]
def JD(a:List Int)(i:Nat):List Int:=([[0,- gI a 2,gI a 1],[gI a 2,0,- gI a 0],[- gI a 1,gI a 0,0]]:List (List Int)).getD i []
theorem Ew(la:a.length=3)(lb:b.length=3){i:Nat}(hi:i<3):(JD a i).length=3/\aa a (JD a i)=0/\aa b (JD a i)=gI (pR a b) i:=by
 rcases GJ hi with rfl|rfl|rfl
 all_goals
  refine⟨rfl,?_,?_⟩
  ·rw[gS la rfl];simp only[JD,gI,List.getD];simp;grind
  ·rw[gS lb rfl];simp only[JD,gI,List.getD,pR,p2];simp;grind
theorem AE(i:Nat)(hi:i<3):gI (pR a b) i= - gI (pR b a) i:=by rcases GJ hi with rfl|rfl|rfl<;>simp only[gI,List.getD,pR,p2]<;>simp<;>grind
theorem wI{g h u v G t:Int}(h1:(g.natAbs:Int)<=G)(h2:(h.natAbs:Int)<=G)(h3:(u.natAbs:Int)<=t)(h4:(v.natAbs:Int)<=t):((g*u-h*v).natAbs:Int)<=G*(2*t):=by
 have a1:((g*u).natAbs:Int)<=G*t:=by rw[U6,U7];exact Int.mul_le_mul h1 h3 () ()
 have a2:((h*v).natAbs:Int)<=G*t:=by rw[U6,U7];exact Int.mul_le_mul h2 h4 () ()
 rw[show G*(2*t)=G*t+G*t by grind]
 omega
theorem Su(la:a.length=3)(lb:b.length=3)(hL:∃i,i<3/\gI (pR a b) i≠0)(hh:∀q∈[a,b],aa q (pR a b)=0):Mz 3 [a,b] (pR a b):=by
 have e0:gI (pR a b) 0=p2 a b 1 2:=rfl;have e1:gI (pR a b) 1= - p2 a b 0 2:=rfl;have e2:gI (pR a b) 2=p2 a b 0 1:=rfl;refine⟨rfl,hh,hL,λr E=>AW E λB hB b2=>?_,2*bK [a,b],λr E=>?_,λr E=>⟨λk hk=>?_,λx lx hs j k hj hk=>?_⟩⟩
 ·obtain⟨i,hi,dH⟩:=hL;obtain⟨x1,x2,x3⟩:=Ew la lb hi;obtain⟨y1,y2,y3⟩:=Ew lb la hi;rw[<-Int.neg_neg (gI (pR b a) i),<-AE i hi]at y3
  match B,hB with
  |[],_=>exact⟨_,x1,∅,b,∅,by rw[x3];exact dH⟩
  |[q],_=>
   have:=b2 q ∅;simp only[TY,TZ,W8]at this;rcases this with rfl|rfl
   ·exact⟨_,x1,by simpa using x2,b,∅,by rw[x3];exact dH⟩
   ·exact⟨_,y1,by simpa using y2,a,∅,by rw[y3];lia⟩
 ·show 2*bK [a,b]*(cD r+(1:Nat)*bK [a,b])=_;rw[Int.natCast_one,Int.one_mul]
 ·have eG:=qk E;have two:∀i j,i<3->j<3->((p2 a b i j).natAbs:Int)<=2*bK [a,b]*bK [a,b]:=λi j hi hj=>by have:=wI (eG a ∅ i hi) (eG a ∅ j hj) (eG b ∅ j hj) (eG b ∅ i hi);rwa [U1 (bK [a,b])]at this
  rcases GJ hk with rfl|rfl|rfl
  ·exact two 1 2 ⋯ ⋯
  ·rw[e1,Int.natAbs_neg];exact two 0 2 ⋯ ⋯
  ·exact two 0 1 ⋯ ⋯
 ·have eG:=qk E;have G1:=vx E hs;have C:∀l,l<3->((aa a x*gI b l-aa b x*gI a l).natAbs:Int)<=cD r*(2*bK [a,b]):=λl hl=>wI (G1 a ∅) (G1 b ∅) (eG b ∅ l hl) (eG a ∅ l hl)
  rw[gS la lx,gS lb lx]at C;have neg:∀{p d B:Int},p=d\/p= - d->(d.natAbs:Int)<=B->(p.natAbs:Int)<=B:=λh hd=>by rcases h with rfl|rfl<;>lia
  have z:(((0:Int)).natAbs:Int)<=cD r*(2*bK [a,b]):=Int.le_trans () (C 0 ⋯);rcases GJ hj with rfl|rfl|rfl<;>rcases GJ hk with rfl|rfl|rfl
  ·rw[U8];exact z
  ·exact neg (.inr (by rw[e0,e1];unfold p2;grind)) (C 2 ⋯)
  ·exact neg (.inl (by rw[e0,e2];unfold p2;grind)) (C 1 ⋯)
  ·exact neg (.inl (by rw[e0,e1];unfold p2;grind)) (C 2 ⋯)
  ·rw[U8];exact z
  ·exact neg (.inr (by rw[e1,e2];unfold p2;grind)) (C 0 ⋯)
  ·exact neg (.inr (by rw[e0,e2];unfold p2;grind)) (C 1 ⋯)
  ·exact neg (.inl (by rw[e1,e2];unfold p2;grind)) (C 0 ⋯)
  ·rw[U8];exact z
theorem l9:∀{a b:List Int},a.length=b.length->ltI a b=true->ltI b a=false
 |[],[],_,_=>rfl
 |x::a,y::b,hl,h=>by
  rw[me]at h ⊢;by_cases e:x=y
  ·rw[W0 e]at h;rw[W0 e.symm];exact l9 ‹hl› h
  ·rw[WZ e]at h;rw[WZ (WH e)];have:=TH h;exact Ug ()
theorem rZ{F D:List (List Int)}(lF:∀q∈F,q.length=m)(hF:F.Pairwise λa b=>ltI a b=true)(nd:D.Nodup)(h:∀x,x∈F↔x∈D):F=cJ D:=by
 have nF:F.Nodup:=hF.imp λ {a b} h e=>by subst e;rw[l9 rfl h]at h;cases h
 have p:F.Perm (cJ D):=((List.perm_ext_iff_of_nodup nF nd).mpr h).trans (gZ D).symm;refine List.Perm.eq_of_pairwise (le:=λa b=>ltI b a=false) (λa b ha hb h1 h2=>kS (by rw[lF a ha,lF b (p.mem_iff.mpr hb)]) h2 h1) (List.Pairwise.imp_of_mem (λ {a b} ha hb h=>?_) hF) (iX D) p;refine Bool.eq_false_iff.mpr λz=>?_
 have e:=l9 (by rw[lF a ha,lF b hb]) h;rw[e]at z;cases z
theorem l6(E:fH m M (zeros M.length)){D:List (List Int)}(nd:D.Nodup)(h1:∀d∈D,d∈dc m M (zeros M.length)/\0<d.sum)(h2:∀d∈D,∀d'∈D,bU d d'=true->d=d')(h3:∀x:List Int,x.length=m->(∀i,i<m->0<=gI x i)->(∀q∈M,aa q x=0)->(∃i,i<m/\0<gI x i)->bT x D=true):a9 m M=cJ D:=by
 obtain⟨P1,P2⟩:=kR E;have lF:∀f∈a9 m M,f.length=m:=λf hf=>(P1 f hf).1
 have pos:∀f∈a9 m M,∃i,i<m/\0<gI f i:=λf hf=>by
  obtain⟨l1,l2,_,l4⟩:=P1 f hf;refine UU λw=>?_
  have:f=zeros m:=jM (by rw[l1];simp[zeros]) λi hi=>by
   rw[show gI (zeros m) i=0 from jO m i];have a1:=l2 i ();have a2:¬0<gI f i:=λz=>w ⟨i,(),z⟩
   lia
  rw[this]at l4;have:(zeros m).sum=0:=by unfold zeros;simp
  lia
 have Jm:∀{f g:List Int},f.length=m->g.length=m->bU f g=true->bU g f=true->f=g:=λ {f g} lf lg u v=>jM (by rw[lf,lg]) λi hi=>by
  have:=(dw (by rw[lf,lg])).mp u i hi;have:=(dw (by rw[lf,lg])).mp v i ()
  lia
 have up:∀f∈a9 m M,∀g∈a9 m M,bU f g=true->f=g:=λf hf g hg u=>by
  refine UU λdH=>?_
  obtain⟨i,hi,e⟩:=List.mem_iff_getElem.mp hf;obtain⟨j,hj,e'⟩:=List.mem_iff_getElem.mp hg;rcases Nat.lt_trichotomy i j with w|w|w
  ·have:=V9.mp P2 i j hi hj w;rw[e,e']at this;rw[this.2.1]at u;cases u
  ·subst w;exact dH (e.symm.trans e')
  ·have:=V9.mp P2 j i hj hi w;rw[e,e']at this;rw[this.2.2]at u;cases u
 refine rZ lF (P2.imp λh=>h.1) nd λx=>⟨λhx=>?_,λhx=>?_⟩
 ·obtain⟨k1,k2,k3,_⟩:=P1 x hx;obtain⟨d,hd,u⟩:=Uu.mp (h3 x k1 k2 k3 (pos x hx));obtain⟨d0,d4⟩:=h1 d hd;have d1:=((bJ E).mp d0).1;obtain⟨f,hf,v⟩:=Uu.mp (qa d0 d4);have e1:f=x:=up f hf x hx (j6 (by rw[lF f hf,d1]) (by rw[d1,k1]) v u);subst e1;rw[Jm k1 d1 v u];exact hd
 ·obtain⟨d0,d4⟩:=h1 x hx;have d1:=((bJ E).mp d0).1;obtain⟨f,hf,v⟩:=Uu.mp (qa d0 d4);obtain⟨k1,k2,k3,_⟩:=P1 f hf;obtain⟨d,hd,u⟩:=Uu.mp (h3 f k1 k2 k3 (pos f hf));have e:d=x:=h2 d hd x hx (j6 (by rw[((bJ E).mp (h1 d hd).1).1,k1]) (by rw[k1,d1]) u v);subst e;rw[<-Jm k1 d1 v u];exact hf
end
section
variable{m:Nat}{M:List (List Int)}{r x w P:List Int}
structure Ln(m:Nat)(M:List (List Int))(P:List Int):Prop where
 len:P.length=m
 CF:∀q∈M,aa q P=0
 gen:∀y,II m M y->∃t:Int,∀i,i<m->gI y i=t*gI P i
 pos:∃i,i<m/\0<gI P i
theorem uq{t p:Int}(hp:0<p)(h:0<=t*p):0<=t:=by
 refine UU λz=>?_
 have:=Int.mul_neg_of_neg_of_pos (show t<0 by lia) hp
 lia
theorem Ln.M3(h:Ln m M P){y:List Int}(hy:II m M y)(hn:∀i,i<m->0<=gI y i)(hp:∃i,i<m/\0<gI y i):∃t:Int,1<=t/\∀i,i<m->gI y i=t*gI P i:=by
 obtain⟨t,ht⟩:=h.gen y hy;obtain⟨i,hi,pi⟩:=h.pos;obtain⟨j,hj,pj⟩:=hp;have a:=hn i hi;rw[ht i hi]at a;have t0:=uq pi a;have:t≠0:=λz=>by rw[ht j hj,z]at pj;lia
 exact⟨t,(),ht⟩
theorem CU{t p:Int}(ht:1<=t)(hp:0<=p):p<=t*p:=by
 have:=U3 ht hp
 lia
theorem Ln.least(E:fH m M (zeros M.length))(h:Ln m M P)(hP:P∈dc m M (zeros M.length))(hn:∀i,i<m->0<=gI P i):a9 m M=[P]:=by
 rw[l6 E (D:=[P]) ∅ (by simp only[Ur,forall_eq];exact⟨hP,k8 (by rw[h.len];exact hn) (by rw[h.len];exact h.pos)⟩) ∅ λx lx nx hx px=>?_]
 ·exact List.perm_singleton.mp (gZ [P])
 ·obtain⟨t,t1,ht⟩:=h.M3 ⟨lx,hx⟩ nx px;refine Uu.mpr ⟨P,∅,(dw (by rw[lx,h.len])).mpr λi hi=>?_⟩;rw[h.len]at hi;rw[ht i hi];exact CU t1 (hn i hi)
theorem Ln.Ae(E:fH m M (zeros M.length))(h:Ln m M P)(hn:∃i,i<m/\gI P i<0):a9 m M=[]:=by
 rw[l6 E (D:=[]) ∅ ∅ ∅ λx lx nx hx px=>?_]
 ·exact List.perm_nil.mp (gZ [])
 ·exfalso;obtain⟨t,t1,ht⟩:=h.M3 ⟨lx,hx⟩ nx px;obtain⟨j,hj,pj⟩:=hn;have a:=nx j hj;rw[ht j hj]at a;have:=Int.mul_neg_of_pos_of_neg (show 0<t by lia) pj
  lia
def kl(w P:List Int)(t:Int):List Int:=List.zipWith (λa b=>a+t*b) w P
theorem mv(h:w.length=P.length)(t:Int):(kl w P t).length=P.length:=by simp[kl,h]
theorem mq(t:Int):∀{w P:List Int}{i:Nat},w.length=P.length->gI (kl w P t) i=gI w i+t*gI P i
 |[],[],i,_=>by simp[kl,gI]
 |x::a,y::b,0,_=>rfl
 |x::a,y::b,i+1,h=>by show gI ((x+t*y)::kl a b t) (i+1)=_;rw[az,az,az];exact mq t ‹h›
theorem v5(t:Int):∀{l w P:List Int},w.length=P.length->aa l (kl w P t)=aa l w+t*aa l P
 |[],_,_,_=>by rw[bM,bM,bM];simp
 |q::l,[],[],_=>by show aa (q::l) []=_;rw[iU];simp
 |q::l,x::a,y::b,h=>by
  show aa (q::l) ((x+t*y)::kl a b t)=_;rw[ax,ax,ax,v5 t ‹h›]
  grind
def Nn(m:Nat)(w P:List Int)(t:Int):Prop:=∀i,i<m->0<=gI w i+t*gI P i
theorem Ln.to(E:fH m M r)(h:Ln m M P)(hP:(∀i,i<m->0<=gI P i)->P∈dc m M (zeros M.length))(big:∀x:List Int,x.length=m->(∀i,i<m->0<=gI x i)->bQ M r x->bT x (a9 m M)=false->x∈dc m M r)(lw:w.length=m)(hw:bQ M r w)
  {T:List Int} (nd:T.Nodup) (hT:∀t,t∈T↔Nn m w P t/\((∀i,i<m->0<=gI P i)->¬Nn m w P (t-1))):kH m M r=cJ (T.map (kl w P)):=by
 have lP:=h.len;have Ao:w.length=P.length:=by rw[lw,lP]
 obtain⟨i0,qr,p0⟩:=h.pos;have inj:∀s t,kl w P s=kl w P t->s=t:=λs t e=>by
  have:=WW (gI · i0) e;simp only[mq _ Ao]at this;have:(s-t)*gI P i0=0:=by grind
  rcases Int.mul_eq_zero.mp this with z|z<;>lia
 have KW:∀t,Nn m w P t->(((∀i,i<m->0<=gI P i)->¬Nn m w P (t-1))↔bT (kl w P t) (a9 m M)=false):=λt ht=>by
  by_cases hn:∀i,i<m->0<=gI P i
  ·rw[h.least E.zero (hP hn) hn];have e:bT (kl w P t) [P]=bU P (kl w P t):=by unfold bT;simp
   rw[e];have:bU P (kl w P t)=true↔Nn m w P (t-1):=by
    rw[dw (by rw[mv Ao])];constructor
    ·intro u i hi;have:=u i (by rw[lP];exact hi);rw[mq t Ao]at this;rw[Int.sub_mul];lia
    ·intro u i hi;have:=u i (by rw[lP]at hi;exact hi);rw[Int.sub_mul]at this;rw[mq t Ao];lia
   rw[<-this,Bool.not_eq_true];exact⟨λz=>z hn,λz _=>z⟩
  ·obtain⟨j,hj,pj⟩:∃i,i<m/\gI P i<0:=UU λz=>hn λi hi=>by
    have:¬gI P i<0:=λy=>z ⟨i,hi,y⟩
    lia
   rw[h.Ae E.zero ⟨j,hj,pj⟩];exact⟨λ_=>rfl,λ_ z=>absurd z hn⟩
 refine rZ (λq hq=>(fv E hq).1) (q9 E) ?_ λx=>?_
 ·unfold List.Nodup;rw[Wa];exact List.Pairwise.imp (λ {a b} gh e=>gh (inj a b e)) nd
 ·rw[rd E,Us];constructor
  ·rintro⟨h1,h2⟩;obtain⟨lx,nx,sx,_⟩:=(bJ E).mp h1;have ly:(sj x w).length=m:=by simp[sj,lx,lw]
   obtain⟨t,ht⟩:=h.gen (sj x w) ⟨ly,λq hq=>by
    obtain⟨i,hi,e⟩:=List.mem_iff_getElem.mp hq;have hr:i<r.length:=by rw[E.rl];exact hi
    have hz:(q,r[i])∈M.zip r:=V1.mpr ⟨i,by rw[List.getElem?_zip_eq_some];exact⟨by rw[Ue hi,e],Ue hr⟩⟩;rw[rG (by rw[lx,lw]),sx _ hz,hw _ hz,U8]⟩
   have e:kl w P t=x:=jM (by rw[mv Ao,lP,lx]) λi hi=>by rw[mv Ao,lP]at hi;have:=ht i hi;rw[Ba (by rw[lx,lw])]at this;rw[mq t Ao];lia
   have nt:Nn m w P t:=λi hi=>by rw[<-mq t Ao,e];exact nx i hi
   exact⟨t,(hT t).mpr ⟨nt,(KW t nt).mpr (by rw[e];exact h2)⟩,e⟩
  ·rintro⟨t,ht,rfl⟩;obtain⟨nt,k⟩:=(hT t).mp ht;have ho:=(KW t nt).mp k;exact⟨big _ (by rw[mv Ao,lP]) (λi hi=>by rw[mq t Ao];exact nt i hi) (λq hq=>by
    rw[v5 t Ao,hw q hq,h.CF q.1 (V6 hq).1];lia) ho,ho⟩
theorem zt{w p t:Int}(hp:0<p):0<=w+t*p↔0-w.fdiv p<=t:=by
 rw[Int.fdiv_eq_ediv_of_nonneg w ()];have: - t<=w/p↔ - t*p<=w:=Int.le_ediv_iff_mul_le hp;rw[Int.neg_mul]at this
 lia
theorem EA{w p t:Int}(hp:p<0):0<=w+t*p↔t<=w.fdiv (0-p):=by
 rw[Int.fdiv_eq_ediv_of_nonneg w ()];have:t<=w/(0-p)↔t*(0-p)<=w:=Int.le_ediv_iff_mul_le ();rw[Int.mul_sub,U5]at this
 lia
def Wy(n:Nat)(w P:List Int)(F L:Int):Prop:=∀t:Int,(-200<=t/\t<=200/\Nn n w P t)↔F<=t/\t<=L
theorem SN:Wy 0 w P (-200) 200:=λt=>⟨λh=>⟨h.1,h.2.1⟩,λh=>⟨h.1,h.2,λi hi=>()⟩⟩
theorem pN{n:Nat}{t:Int}:Nn (n+1) w P t↔Nn n w P t/\0<=gI w n+t*gI P n:=by
 constructor
 ·exact λh=>⟨λi hi=>h i (),h n ()⟩
 ·rintro⟨h1,h2⟩ i hi;by_cases e:i=n
  ·rw[e];exact h2
  ·exact h1 i ()
theorem Wy.M3{n:Nat}{F L:Int}(h:Wy n w P F L)(hp:0<gI P n):Wy (n+1) w P (max F (0-(gI w n).fdiv (gI P n))) L:=λt=>by rw[pN,zt hp];exact⟨λ⟨a,b,c,d⟩=>by have:=(h t).mp ⟨a,b,c⟩;omega,λz=>by have:=(h t).mpr ⟨(),()⟩;exact⟨this.1,this.2.1,this.2.2,()⟩⟩
theorem Wy.dn{n:Nat}{F L:Int}(h:Wy n w P F L)(hp:gI P n<0):Wy (n+1) w P F (min L ((gI w n).fdiv (0-gI P n))):=λt=>by rw[pN,EA hp];exact⟨λ⟨a,b,c,d⟩=>by have:=(h t).mp ⟨a,b,c⟩;omega,λz=>by have:=(h t).mpr ⟨(),()⟩;exact⟨this.1,this.2.1,this.2.2,()⟩⟩
theorem Wy.zr{n:Nat}{F L:Int}(h:Wy n w P F L)(hp:gI P n=0)(hw:0<=gI w n):Wy (n+1) w P F L:=λt=>by rw[pN,hp,U5];exact⟨λ⟨a,b,c,d⟩=>by have:=(h t).mp ⟨a,b,c⟩;omega,λz=>by have:=(h t).mpr ⟨(),()⟩;exact⟨this.1,this.2.1,this.2.2,()⟩⟩
def cZ(F L:Int):List Int:=(List.range (L+1-F).toNat).map λi=>F+(i:Nat)
theorem mh{F L t:Int}:t∈cZ F L↔F<=t/\t<=L:=by
 unfold cZ;rw[Us];constructor
 ·rintro⟨i,hi,rfl⟩;have:=UE.mp hi
  lia
 ·rintro⟨h1,h2⟩;exact⟨(t-F).toNat,UE.mpr (),()⟩
theorem vE(F L:Int):(cZ F L).Nodup:=by unfold cZ List.Nodup;rw[Wa];exact List.nodup_range.imp λ {a b} h=>by lia
theorem Ea{F L:Int}(hw:∀i,i<m->(gI w i).natAbs<=2)(h:Wy m w P F L)(hp:∃i,i<m/\0<gI P i)(hn:∃i,i<m/\gI P i<0)(t:Int):t∈cZ F L↔Nn m w P t/\((∀i,i<m->0<=gI P i)->¬Nn m w P (t-1)):=by
 rw[mh,<-h t];obtain⟨i,hi,pi⟩:=hp;obtain⟨j,hj,pj⟩:=hn;constructor
 ·exact λz=>⟨z.2.2,λy=>by have:=y j hj;lia⟩
 ·rintro⟨z,-⟩;have a1:=(zt pi).mp (z i hi);have a2:=(EA pj).mp (z j hj);have b1:=hw i hi;have b2:=hw j hj;have c1:(-2:Int)<=(gI w i).fdiv (gI P i)/\(gI w i).fdiv (gI P i)<=2:=by
   rw[Int.fdiv_eq_ediv_of_nonneg _ ()];refine⟨(Int.le_ediv_iff_mul_le pi).mpr (),?_⟩;have:gI w i/gI P i<3:=(Int.ediv_lt_iff_lt_mul pi).mpr ()
   lia
  have c2:(gI w j).fdiv (0-gI P j)<=2:=by
   rw[Int.fdiv_eq_ediv_of_nonneg _ ()];have:gI w j/(0-gI P j)<3:=(Int.ediv_lt_iff_lt_mul ()).mpr ()
   lia
  exact⟨(),(),z⟩
theorem Iu{F L:Int}(hw:∀i,i<m->(gI w i).natAbs<=2)(h:Wy m w P F L)(hp:∃i,i<m/\0<gI P i)(hn:∀i,i<m->0<=gI P i)(h0:∀i,i<m->gI P i=0->0<=gI w i)(t:Int):t∈cZ F F↔Nn m w P t/\((∀i,i<m->0<=gI P i)->¬Nn m w P (t-1)):=by
 rw[mh];obtain⟨i,hi,pi⟩:=hp;have b1:=hw i hi;have lo:∀s,Nn m w P s-> -2<=s:=λs z=>by
  have a1:=(zt pi).mp (z i hi);have:gI w i/gI P i<3:=(Int.ediv_lt_iff_lt_mul pi).mpr ();rw[Int.fdiv_eq_ediv_of_nonneg _ ()]at a1
  lia
 have mono:∀s u,s<=u->Nn m w P s->Nn m w P u:=λs u su z j hj=>by
  have a:=z j hj;have:=U3 su (hn j hj)
  lia
 have n2:Nn m w P 2:=λj hj=>by
  have a:=hw j hj;have b:=hn j hj;by_cases e:gI P j=0
  ·have:=h0 j hj e
   lia
  ·lia
 have f2:=(h 2).mp ⟨(),(),n2⟩;have nF:=((h F).mpr ⟨(),()⟩).2.2;have lF:=lo F nF;constructor
 ·intro z;have e:t=F:=()
  subst e;refine⟨nF,λ_ y=>?_⟩;have:=(h (t-1)).mp ⟨(),(),y⟩
  lia
 ·rintro⟨z,y⟩;have y:=y hn;have lt:=lo t z;by_cases ht:t<=200
  ·have:=(h t).mp ⟨(),ht,z⟩;by_cases e:F<=t-1
   ·exact absurd (mono F (t-1) e nF) y
   ·lia
  ·exact absurd (mono 2 (t-1) () n2) y
end
section
variable{m:Nat}{M:List (List Int)}{P L:List Int}
theorem zf{d c a x:Int}(h1:d ∣ c*a)(h2:d ∣ c*x):d ∣ c*(Int.gcd a x:Int):=by have h:=Int.dvd_coe_gcd h1 h2;rw[Int.gcd_mul_left]at h;rw[<-Int.natAbs_dvd_natAbs,Int.natAbs_natCast]at h;rw[<-Int.natAbs_dvd_natAbs,U6,Int.natAbs_natCast];exact h
def dz:List Int->Int->Int
 |[],a=>a
 |x::l,a=>dz l (Int.gcd a x:Int)
theorem pd{d c:Int}:∀{l:List Int}{a:Int},d ∣ c*a->(∀x∈l,d ∣ c*x)->d ∣ c*dz l a
 |[],_,h,_=>h
 |_::l,_,h,k=>pd (l:=l) (zf h (k _ TN)) λx hx=>k x (TK _ hx)
theorem je:∀{l:List Int}{a:Int},dz l a ∣ a/\∀x∈l,dz l a ∣ x
 |[],a=>⟨Int.dvd_refl a,∅⟩
 |y::l,a=>by
  obtain⟨h1,h2⟩:=je (l:=l) (a:=(Int.gcd a y:Int));refine⟨Int.dvd_trans h1 (Int.gcd_dvd_left ..),λx hx=>?_⟩;rcases TY.mp hx with rfl|hx
  ·exact Int.dvd_trans h1 (Int.gcd_dvd_right ..)
  ·exact h2 x hx
theorem vv:∀{l:List Int}{a:Int},0<=a->0<=dz l a
 |[],_,h=>h
 |_::l,_,_=>vv (l:=l) (Int.natCast_nonneg _)
theorem Ln.Sy{s:Int}(s0:s≠0)(lP:P.length=m)(hL:∀i,i<m->gI L i=s*gI P i)(hd:∀d c:Int,(∀i,i<m->d ∣ c*gI L i)->d ∣ c*s)(CF:∀q∈M,aa q P=0)
  (cr:∀y,II m M y->∀i j,i<m->j<m->gI y i*gI L j=gI y j*gI L i) (pos:∃i,i<m/\0<gI P i):Ln m M P:=by
 refine⟨lP,CF,λy hy=>?_,pos⟩;obtain⟨j,hj,pj⟩:=pos;have c:=cr y hy;have l0:gI L j≠0:=λz=>by
  rw[hL j hj]at z;rcases Int.mul_eq_zero.mp z with z|z
  ·exact s0 z
  ·lia
 obtain⟨t,ht⟩:=hd (gI L j) (gI y j) λi hi=>⟨gI y i,by rw[<-c i j hi hj,U1]⟩
 refine⟨t,λi hi=>?_⟩;have e:=c i j hi hj;have e2:=hL i hi;refine Int.eq_of_mul_eq_mul_left (a:=s*gI L j) (λz=>?_) ?_
 ·rcases Int.mul_eq_zero.mp z with z|z
  ·exact s0 z
  ·exact l0 z
 ·grind
structure Jg(m:Nat)(M:List (List Int))(L:List Int):Prop where
 len:L.length=m
 CF:∀q∈M,aa q L=0
 cr:∀y,II m M y->∀i j,i<m->j<m->gI y i*gI L j=gI y j*gI L i
 mz:(∃i,i<m/\gI L i≠0)->Mz m M L
theorem OB{a b:List Int}(la:a.length=3)(lb:b.length=3):Jg 3 [a,b] (pR a b):=by
 have hh:∀q∈[a,b],aa q (pR a b)=0:=λq hq=>by
  have lq:q.length=3:=by simp only[TY,TZ,W8]at hq;rcases hq with rfl|rfl<;>assumption
  rw[gS lq rfl];show gI q 0*p2 a b 1 2+gI q 1 * - p2 a b 0 2+gI q 2*p2 a b 0 1=0;unfold p2;simp only[TY,TZ,W8]at hq;rcases hq with rfl|rfl<;>grind
 refine⟨rfl,hh,λy hy i j hi hj=>?_,λh=>Su la lb h hh⟩
 ·have h1:=hy.2 a ∅;have h2:=hy.2 b ∅;rw[gS la hy.1]at h1;rw[gS lb hy.1]at h2;have e0:gI (pR a b) 0=p2 a b 1 2:=rfl;have e1:gI (pR a b) 1= - p2 a b 0 2:=rfl;have e2:gI (pR a b) 2=p2 a b 0 1:=rfl;rcases GJ hi with rfl|rfl|rfl<;>rcases GJ hj with rfl|rfl|rfl
  all_goals first|rfl|(simp only[e0,e1,e2,p2];grind)
theorem OC{a b c:List Int}(la:a.length=4)(lb:b.length=4)(lc:c.length=4)(hb:∀q∈[a,b,c],∀x∈q,x.natAbs<=3):Jg 4 [a,b,c] (fT a b c):=by
 refine⟨rfl,v7 la lb lc,λy hy i j hi hj=>?_,λh=>Sv la lb lc h⟩;have z:∀q∈[a,b,c],((aa q y).natAbs:Int)<=0:=λq hq=>by rw[hy.2 q hq];decide
 have g:∀q∈[a,b,c],q.length=4->∀i,i<4->((gI q i).natAbs:Int)<=3:=λq hq lq i hi=>by
  have:=hb q hq _ (bx (by rw[lq];exact hi))
  lia
 have:=Er (t:=3) (G:=0) (x:=y) (j:=i) (k:=j) la lb lc hy.1 (g a ∅ la) (g b ∅ lb) (g c ∅ lc) (z a ∅) (z b ∅) (z c ∅) hi hj
 lia
def iW(L:List Int):Int:=if c6 L<=0 then 0-dz L 0 else dz L 0
theorem tQ(h:dz L 0≠0):∃i,i<L.length/\gI L i≠0:=UU λz=>by
 refine h ?_;have:=pd (d:=0) (c:=1) (l:=L) (a:=0) ∅ λx hx=>by
  obtain⟨i,hi,e⟩:=dX hx;have:x=0:=UU λw=>z ⟨i,hi,by rw[e];exact w⟩
  rw[this];simp
 rw[Int.one_mul]at this;exact Int.zero_dvd.mp this
theorem Jg.ln(H:Jg m M L)(h0:dz L 0≠0):Ln m M (L.map (·.fdiv (iW L))):=by
 have nn:=vv (l:=L) (a:=0) ⋯;obtain⟨j,hj,nj⟩:=tQ h0;have hs:∃e:Int,(e=1\/e= -1)/\iW L=e*dz L 0:=by
  unfold iW;split
  ·exact⟨-1,.inr rfl,()⟩
  ·exact⟨1,.inl rfl,()⟩
 obtain⟨e,he,hs⟩:=hs;have s0:iW L≠0:=by rcases he with rfl|rfl<;>lia
 have sd:∀x∈L,iW L ∣ x:=λx hx=>by
  have:=(je (l:=L) (a:=0)).2 x hx;rw[hs];rcases he with rfl|rfl
  ·rwa [Int.one_mul]
  ·rw[Int.neg_mul,Int.one_mul];exact Int.neg_dvd.mpr this
 have hx:∀x∈L,x=iW L*x.fdiv (iW L):=λx h=>by
  obtain⟨k,hk⟩:=sd x h
  conv=>rhs;rw[hk,Int.mul_fdiv_cancel_left _ s0]
  exact hk
 have gP:∀i,gI (L.map (·.fdiv (iW L))) i=(gI L i).fdiv (iW L):=λi=>tO (·.fdiv (iW L)) (Int.zero_fdiv _) _ _
 have hL:∀i,i<m->gI L i=iW L*gI (L.map (·.fdiv (iW L))) i:=λi hi=>by rw[gP];exact hx _ (bx (by rw[H.len];exact hi))
 refine Ln.Sy s0 (by rw[TU,H.len]) hL (λd c h=>?_) (λq hq=>?_) H.cr ?_
 ·have:=pd (d:=d) (c:=c) (l:=L) (a:=0) ∅ λx hx=>by obtain⟨i,hi,e⟩:=dX hx;rw[<-e];exact h i (by rw[<-H.len];exact hi)
  rw[hs];rcases he with rfl|rfl
  ·rwa [Int.one_mul]
  ·rw[Int.neg_mul,Int.one_mul,Int.mul_neg];exact Int.dvd_neg.mpr this
 ·have e:L=(L.map (·.fdiv (iW L))).map (iW L * ·):=by
   rw[VV]
   conv=>lhs;rw[<-List.map_id L]
   exact VT λx h=>hx x h
  have h:=H.CF q hq;rw[e,mE]at h;exact(Int.mul_eq_zero.mp h).resolve_left s0
 ·have ne:L≠[]:=λz=>by rw[z]at hj;simp at hj
  obtain⟨m1,m2⟩:=cH L ne;by_cases hm:c6 L<=0
  ·have es:iW L=0-dz L 0:=W0 hm;refine⟨j,by rw[<-H.len];exact hj,UU λw=>?_⟩;have a:=m2 _ (bx hj);have b:=hL j (by rw[<-H.len];exact hj);have:=Int.mul_nonneg_of_nonpos_of_nonpos (show iW L<=0 by lia) (show gI (L.map (·.fdiv (iW L))) j<=0 by lia)
   lia
  ·have es:iW L=dz L 0:=WZ hm;obtain⟨i,hi,e⟩:=dX m1;refine⟨i,by rw[<-H.len];exact hi,UU λw=>?_⟩;have b:=hL i (by rw[<-H.len];exact hi);have:=Int.mul_nonpos_of_nonneg_of_nonpos (show 0<=iW L by lia) (show gI (L.map (·.fdiv (iW L))) i<=0 by lia)
   lia
end
end Rx
end
section
namespace K27
open PySem.W L2 Mx Rx
def iI(l:List Int):Dt:=.lst (l.map Dt.int)
theorem GT{N:Nat}{w P:List Int}{t:Int}(hN:1<=N)(ht:t.natAbs<2^64)(hw:w.length<=4):au fs N 23 [iI w,iI P,.int t] none= .ok (tI (kl w P t),none):=by
 have cm:lim=1000000:=rfl;have hc:aE (aB (.tp [1,2]) (a6 (au fs (N-1)) .nil) (bf (au fs (N-1)) (.bin .Add (.var 1) (.bin .Mult (.var 3) (.var 2)))) [none,none,none,some (.int t)]) (cT (w.map Dt.int) (P.map Dt.int)) none= .ok ((w.zip P).map λq=>.int (q.1+t*q.2),none):=by rw[cK];exact aR λq _=>aI (ρ1:=[none,some (.int q.1),some (.int q.2),some (.int t)]) rfl (by have m:=aG (i:=t) (j:=q.2) (.inl ht);simp only[RX,m]) rfl
 have e:((w.zip P).map λq=>Dt.int (q.1+t*q.2))=(kl w P t).map Dt.int:=by unfold kl;rw[List.zip,List.map_zipWith,List.map_zipWith]
 rw[e]at hc;have h:=aO (F:=au fs (N-1)) (cap:=[none,none,none,some 2]) (ρ:=[some (iI w),some (iI P),some (.int t)]) (ds:=cT (w.map Dt.int) (P.map Dt.int)) (iN (da:=iI w) (db:=iI P) (a:=.var 0) (b:=.var 1) rfl rfl rfl rfl) (by rw[cK,TU,VS];lia) rfl hc;refine ay (body:=PM) rfl hN rfl (aq ?_);rw[ek];exact(WW (R.bind · _) h).trans rfl
theorem P0{w p:Int}(hp:0<p)(hw:w.natAbs<=2): -2<=w.fdiv p/\w.fdiv p<=2:=by rw[Int.fdiv_eq_ediv_of_nonneg _ ()];have:w/p<3:=(Int.ediv_lt_iff_lt_mul hp).mpr ();exact⟨(Int.le_ediv_iff_mul_le hp).mpr (),()⟩
theorem Ie(x:Int)(h:x.natAbs<=200)(h0:x≠0):x.natAbs.log2<9000:=n8 (TX h ⋯) h0
theorem DX:cJ []=[]:=List.perm_nil.mp (gZ [])
theorem m_2{a b:Int}{n:Nat}(h:a.natAbs<=n)(k:b.natAbs<=n):(max a b).natAbs<=n/\(min a b).natAbs<=n:=by rw[Int.max_def,Int.min_def];split<;>exact⟨by assumption,by assumption⟩
theorem FQ{N m:Nat}{w P:List Int}(hN:2<=N)(lw:w.length=m)(lP:P.length=m)(m4:m<=4)(m1:1<=m)(hw:∀i,i<m->(gI w i).natAbs<=2)(hP:∀x∈P,x.natAbs<=200)(pos:∃i,i<m/\0<gI P i):
  ∃T:List Int,T.Nodup/\(∀t,t∈T↔Nn m w P t/\((∀i,i<m->0<=gI P i)->¬Nn m w P (t-1)))/\au fs N 24 [iI w,iI P] none= .ok (lI (cJ (T.map (kl w P))),none):=by
 have cm:lim=1000000:=rfl;have hz:(w.zip P).length=m:=by rw[VS];lia
 have loop:=gE (S:=none) (tg:=.tp [4,5]) (body:=aP (au fs (N-1)) Jo) (ds:=cT (w.map Dt.int) (P.map Dt.int)) (ρ:=[some (iI w),some (iI P),some (.int (-200)),some (.int 200),none,none])
  (λpre ρ=>∃F L x4 x5,Wy pre.length w P F L/\F.natAbs<=200/\L.natAbs<=200/\(∀i,i<pre.length->gI P i=0->0<=gI w i)/\ρ=[some (iI w),some (iI P),some (.int F),some (.int L),x4,x5]) (λd=>d= .lst []/\∃i,i<m/\gI P i=0/\gI w i<0) ⟨-200,200,none,none,SN,⋯,⋯,λi hi=>by simp at hi,rfl⟩ (by
   rw[cK];rintro pre y post ρ e ⟨F,L,x4,x5,hW,bF,bL,h0,rfl⟩;have e1:(pre++[y]).length=pre.length+1:=by simp
   obtain⟨q,hq,rfl⟩:=jJ e;generalize pre.length=k at *;have hk:k<m:=by rw[<-hz];exact(TJ.mp hq).1
   obtain⟨q1,q2⟩:=List.getElem?_zip_eq_some.mp hq;have e2:q.1=gI w k:=WI (q1.symm.trans (pf ()));have e3:q.2=gI P k:=WI (q2.symm.trans (pf ()));rw[e1];have bP:=hP _ (bx (l:=P) (p:=k) ());have bw:=hw k hk;rw[e2,e3];have NM:gI P k≠0\/0<=gI w k->∀i,i<k+1->gI P i=0->0<=gI w i:=λz i hi zi=>by
    by_cases ei:i=k
    ·subst ei;exact z.resolve_left λn=>n zi
    ·exact h0 i () zi
   rcases Int.lt_trichotomy (gI P k) 0 with hs|hs|hs
   ·have f:=eT (i:=gI w k) (j:=0-gI P k) () (Ie _ () ());have b:=P0 (w:=gI w k) (p:=0-gI P k) () bw;have g:(if (gI w k).fdiv (0-gI P k)<L then(gI w k).fdiv (0-gI P k) else L)=min L ((gI w k).fdiv (0-gI P k)):=by rw[Int.min_def];split<;>split<;>lia
    refine⟨_,_,rfl,.inl ⟨gQ (by simp only[RX,Ug (show¬0<gI P k by lia)]) (pO (by simp only[RX,Uk hs]) (dO (d:=.int (min L ((gI w k).fdiv (0-gI P k)))) (by simp only[RX,f,g]) rfl rfl)),F,_,_,_,hW.dn hs,bF,(m_2 bL ()).2,NM (.inl ()),rfl⟩⟩
   ·by_cases hn:gI w k<0
    ·exact⟨_,_,rfl,.inr ⟨.lst [],gQ (by simp only[RX,Ug (show¬0<gI P k by lia)]) (gQ (by simp only[RX,Ug (show¬gI P k<0 by lia)]) (pO (by simp only[RX,Uk hn]) (mw rfl))),rfl,k,hk,hs,hn⟩⟩
    ·exact⟨_,_,rfl,.inl ⟨gQ (by simp only[RX,Ug (show¬0<gI P k by lia)]) (gQ (by simp only[RX,Ug (show¬gI P k<0 by lia)]) (gQ (by simp only[RX,Ug hn]) rfl)),F,L,_,_,hW.zr hs (),bF,bL,NM (.inr ()),rfl⟩⟩
   ·have f:=eT (i:=gI w k) (j:=gI P k) () (Ie _ () ());have b:=P0 (w:=gI w k) (p:=gI P k) hs bw;have g:(if 0-(gI w k).fdiv (gI P k)>F then 0-(gI w k).fdiv (gI P k) else F)=max F (0-(gI w k).fdiv (gI P k)):=by rw[Int.max_def];split<;>split<;>lia
    exact⟨_,_,rfl,.inl ⟨pO (by simp only[RX,Uk hs]) (dO (d:=.int (max F (0-(gI w k).fdiv (gI P k)))) (by simp only[RX,f,g]) rfl rfl),_,L,_,_,hW.M3 hs,(m_2 bF ()).1,bL,NM (.inl ()),rfl⟩⟩)
 have nP:P≠[]:=λz=>by rw[z]at lP;simp at lP;lia
 have it:cg (au fs (N-1)) (.zip (.var 0) (.var 1)) [some (iI w),some (iI P),some (.int (-200)),some (.int 200),none,none] none= .ok (cT (w.map Dt.int) (P.map Dt.int),none):=iN (da:=iI w) (db:=iI P) rfl rfl rfl rfl;rcases loop with ⟨ρ',h1,F,L,x4,x5,hW,bF,bL,h0,rfl⟩|⟨d,ρ',h1,rfl,i,hi,z1,z2⟩
 ·rw[cK,TU,hz]at hW h0;have zv:∀L':Int,L'.natAbs<=200->fin (aP (au fs (N-1)) tD [some (iI w),some (iI P),some (.int F),some (.int L'),x4,x5] none)= .ok (lI (cJ ((cZ F L').map (kl w P))),none):=λL' bL'=>by
   have li:(cZ F L').length<=401:=by unfold cZ;rw[TU,VM];lia
   have hc:aE (aB (.nm 1) (a6 (au fs (N-1)) .nil) (bf (au fs (N-1)) (.call 23 (.cons (.var 3) (.cons (.var 2) (.cons (.var 1) .nil))) [])) [none,none,some (iI P),some (iI w)]) ((cZ F L').map Dt.int) none= .ok ((cZ F L').map λt=>tI (kl w P t),none):=bY λt ht=>by have:=mh.mp ht;have hm:=GT (N:=N-1) (w:=w) (P:=P) (t:=t) () (by show t.natAbs<2^64;lia) ();exact aI (ρ1:=[none,some (.int t),some (iI P),some (iI w)]) rfl (by simp only[RX,hm]) (by unfold ba;rw[bZ,UT])
   rw[show ((cZ F L').map λt=>tI (kl w P t))=((cZ F L').map (kl w P)).map tI by rw[VV];rfl]at hc;have hr:cg (au fs (N-1)) (.rng2 (.var 2) (.bin .Add (.var 3) (.con (.int 1)))) [some (iI w),some (iI P),some (.int F),some (.int L'),x4,x5] none= .ok ((cZ F L').map Dt.int,none):=by rw[mH];simp only[RX];rw[Uk (),Uk ()];show R.ok (aM F (L'+1-F).toNat,none)=_;unfold aM cZ;rw[VV];rfl
   have h:=aO (cap:=[none,none,some 1,some 0]) hr (by rw[TU];lia) rfl hc;have hs:=qc (Q:=(cZ F L').map (kl w P)) m1 (by rw[TU];lia) λq hq=>by obtain⟨t,_,rfl⟩:=Us.mp hq;rw[mv ()];exact lP
   refine aq ?_;rw[ek];refine(WW (R.bind · _) h).trans ?_;show (c9 .sorted [lI ((cZ F L').map (kl w P))]).bind _=_;rw[hs];rfl
  have mn:c9 .minL [iI P]= .ok (.int (iP P)):=uY nP;obtain⟨n1,n2⟩:=jn P nP;have pre:∀{r},fin (aP (au fs (N-1)) tE [some (iI w),some (iI P),some (.int F),some (.int L),x4,x5] none)=r->au fs N 24 [iI w,iI P] none=r:=λ {r} h=>ay (body:=Nt) rfl () rfl (aj (d:=.int (-200)) rfl rfl (aj (d:=.int 200) rfl rfl (bD it rfl h1 h)))
  by_cases hn:0<=iP P
  ·have nn:∀i,i<m->0<=gI P i:=λi hi=>Int.le_trans hn (n2 _ (bx ()))
   exact⟨cZ F F,vE _ _,Iu hw hW pos nn h0,pre (dR (by simp only[RX,mn,Uk hn]) (aj (d:=.int F) rfl rfl (zv F bF)))⟩
  ·obtain⟨j,hj,ej⟩:=dX n1;exact⟨cZ F L,vE _ _,Ea hw hW pos ⟨j,(),()⟩,pre (bu (by simp only[RX,mn,Ug hn]) (zv L bL))⟩
 ·refine⟨[],List.nodup_nil,λt=>⟨λh=>(by cases h),λh=>?_⟩,?_⟩
  ·have:=h.1 i hi;rw[z1,U5]at this
   lia
  ·rw[VW,DX];refine ay (body:=Nt) rfl () rfl (aj (d:=.int (-200)) rfl rfl (aj (d:=.int 200) rfl rfl (hU (ρ1:=ρ') ?_)));rw[gU];exact(WW (R.bind · _) it).trans h1
def cL(m:Nat)(M:List (List Int))(n:Nat):List Int:=(List.range n).map λk=>BQ k*jd (m-1) (M.map (dW k))
theorem Bb{B:Nat}:∀{l:List Int},(∀x∈l,x.natAbs<=B)->l.sum.natAbs<=l.length*B
 |[],_=>by simp
 |x::l,h=>by
  have a:=h x TN;have b:=Bb (l:=l) λy hy=>h y (TK _ hy)
  rw[We,T8,WD]
  omega
def fB:Nat->Nat
 |0=>1
 |n+1=>(n+1)*(3*fB n)
theorem oW{n k:Nat}{rows:List (List Int)}(hk:k<n+1)(h:∀q∈rows,q.length=n+1/\∀x∈q,x.natAbs<=3):∀q∈rows.map (dW k),q.length=n/\∀x∈q,x.natAbs<=3:=λq hq=>by obtain⟨p,hp,rfl⟩:=Us.mp hq;obtain⟨k1,k2⟩:=h p hp;exact⟨by rw[va ()];lia,λx hx=>k2 x (vb hx)⟩
theorem ze:∀(n:Nat){rows:List (List Int)},rows.length=n->(∀q∈rows,q.length=n/\∀x∈q,x.natAbs<=3)->(jd n rows).natAbs<=fB n
 |0,_,_,_=>TM 1
 |n+1,[],h,_=>by simp at h
 |n+1,q0::rs,h,hq=>by
  have lr:rs.length=n:=by simpa using h
  have l0:=hq q0 TN;refine TX (Bb (B:=3*fB n) λx hx=>?_) (by simp[fB]);obtain⟨k,hk,rfl⟩:=Us.mp hx;have hk:=UE.mp hk;rw[U6,U6,p7,Nat.one_mul];exact Wz (l0.2 _ (bx (by show k<q0.length;lia))) (ze n (by simp[lr]) (oW hk λq iC=>hq q (TK _ iC)))
theorem vQ{m:Nat}{M:List (List Int)}(m1:1<=m)(m4:m<=4)(hl:M.length=m-1)(hq:∀q∈M,q.length=m/\∀x∈q,x.natAbs<=3):∀x∈cL m M m,x.natAbs<=162:=λx hx=>by obtain⟨k,hk,rfl⟩:=Us.mp hx;have hk:=UE.mp hk;rw[U6,p7,Nat.one_mul];refine TX (ze (m-1) (by simp[hl]) (oW () λq h=>by rw[(hq q h).1];exact⟨(),(hq q h).2⟩)) ?_;exact(by decide:∀m,m<=4->fB (m-1)<=162) m m4
theorem qQ(x:Int):∀(l:List Int)(a:Int),dz (l++[x]) a=(Int.gcd (dz l a) x:Int)
 |[],_=>rfl
 |_::l,_=>qQ x l _
theorem CV{N m:Nat}{M:List (List Int)}(hN:6<=N)(m1:1<=m)(m4:m<=4)(hl:M.length=m-1)(hq:∀q∈M,q.length=m/\∀x∈q,x.natAbs<=3):
  au fs N 22 [lI M,.int m] none= .ok (if dz (cL m M m) 0=0 then .bg else iI ((cL m M m).map (·.fdiv (iW (cL m M m)))),none):=by
 have cm:lim=1000000:=rfl;have loop:=bI (S:=none) (tg:=.nm 3) (body:=aP (au fs (N-1)) PP) (ds:=aM 0 m) (ρ:=[some (lI M),some (.int m),some (iI []),none,none,none,none])
  (λpre ρ=>∃x3 x4,ρ=[some (lI M),some (.int m),some (iI (cL m M pre.length)),x3,x4,none,none]) ⟨none,none,rfl⟩ (by
   rintro pre y post ρ e ⟨x3,x4,rfl⟩;obtain⟨hj,rfl⟩:=d8 e;have e1:(pre++[Dt.int pre.length]).length=pre.length+1:=by simp
   generalize pre.length=k at *;have hd:=zc (F:=au fs (N-1)) (it:=.seq (.var 0)) (c:=some 3) (k:=k) (ρ:=[some (lI M),some (.int m),some (iI (cL m M k)),some (.int k),x4,none,none]) (rows:=M) rfl ⋯ rfl () (λq h=>by have:=(hq q h).1;lia);have hm:=vT (m-1) (N:=N-1) (rows:=M.map (dW k)) () () (by rw[TU,hl]) (oW () λq h=>by rw[(hq q h).1];exact⟨(),(hq q h).2⟩);have o1:=bE (i:=(k:Int)) (j:=2) ⋯;have o2:=aG (i:=2) (j:=(k:Int) % 2) (.inl ⋯);have o3:=aG (i:=1-2*((k:Int) % 2)) (j:=jd (m-1) (M.map (dW k))) (.inl ());refine⟨_,_,rfl,dO (d:=lI (M.map (dW k))) hd rfl (uk (ds:=(cL m M k).map Dt.int) (d:=.int ((1-2*((k:Int) % 2))*jd (m-1) (M.map (dW k)))) rfl (by simp only[RX,o1,o2,hm,o3]) rfl (by rw[TU];unfold cL;rw[TU,VM];lia) rfl),some (.int k),some (lI (M.map (dW k))),?_⟩;rw[e1,show cL m M (k+1)=cL m M k++[BQ k*jd (m-1) (M.map (dW k))] by unfold cL;rw[List.range_succ,UC];rfl];unfold iI;rw[UC];rfl)
 obtain⟨ρ1,h1,x3,x4,rfl⟩:=loop;rw[show (aM 0 m).length=m by simp[aM]]at h1;have hb:=vQ m1 m4 hl hq;have lL:(cL m M m).length=m:=by simp[cL]
 generalize cL m M m=L at *;have Am:=bI (S:=none) (tg:=.nm 6) (body:=λρ S=>(ev (au fs (N-1)) (.call 21 (.cons (.var 5) (.cons (.var 6) .nil)) []) ρ S).bind λx=>af (ba (.call 21 (.cons (.var 5) (.cons (.var 6) .nil)) []) x.1) (.ok (.next,ρ.set 5 (some x.1),x.2))) (ds:=L.map Dt.int) (ρ:=[some (lI M),some (.int m),some (iI L),x3,x4,some (.int 0),none])
  (λpre ρ=>∃x6,ρ=[some (lI M),some (.int m),some (iI L),x3,x4,some (.int (dz (L.take pre.length) 0)),x6]) ⟨none,rfl⟩ (by
   rintro pre y post ρ e ⟨x6,rfl⟩;have e1:(pre++[y]).length=pre.length+1:=by simp
   obtain⟨q,h,rfl⟩:=jJ e;have g:=tS (N:=N-1) (a:=dz (L.take pre.length) 0) (b:=q) () (by have:=hb q (V2 h);lia);refine⟨_,_,rfl,by simp only[RX,g];rfl,some (.int q),?_⟩;rw[e1,ow h,qQ])
 obtain⟨ρ2,h2,x6,rfl⟩:=Am;rw[TU,Wh]at h2;have nL:L≠[]:=λz=>by rw[z]at lL;simp at lL;lia
 have mx:c9 .maxL [iI L]= .ok (.int (c6 L)):=oM nL;refine ay (body:=Nr) rfl () rfl ?_;show fin (aP (au fs (N-1)) Nr [some (lI M),some (.int m),none,none,none,none,none] none)=_;refine et (d:=iI []) rfl rfl (bD (ds:=aM 0 m) (dJ (n:=m) rfl ()) rfl h1 (aj (d:=.int 0) rfl rfl (cW (by rw[wm];exact h2) ?_)));by_cases h0:dz L 0=0
 ·rw[W0 h0,h0];exact dR rfl (aq rfl)
 ·rw[WZ h0];refine bu (by simp only[RX,WT.mpr h0]) ?_;obtain⟨j,hj,nj⟩:=tQ h0;have gb:(dz L 0).natAbs<=162:=TX (Nat.le_of_dvd () (Int.natAbs_dvd_natAbs.mpr ((je (l:=L) (a:=0)).2 _ (bx hj)))) (hb _ (bx hj));have zv:∀s:Int,s≠0->s.natAbs<=162->fin (aP (au fs (N-1)) tR [some (lI M),some (.int m),some (iI L),x3,x4,some (.int s),x6] none)= .ok (iI (L.map (·.fdiv s)),none):=λs s0 sb=>by
   have hc:aE (aB (.nm 1) (a6 (au fs (N-1)) .nil) (bf (au fs (N-1)) (.bin .FloorDiv (.var 1) (.var 2))) [none,none,some (.int s)]) (L.map Dt.int) none= .ok (L.map λx=>.int (x.fdiv s),none):=bY λx _=>by have f:=eT (i:=x) (j:=s) s0 (Ie _ () s0);exact aI (ρ1:=[none,some (.int x),some (.int s)]) rfl (by simp only[RX,f]) rfl
   rw[show (L.map λx=>Dt.int (x.fdiv s))=(L.map (·.fdiv s)).map Dt.int by rw[VV];rfl]at hc;exact aq (aO (ds:=L.map Dt.int) rfl (by rw[TU];lia) rfl hc)
  by_cases hm:c6 L<=0
  ·have es:iW L=0-dz L 0:=W0 hm;rw[es];exact dR (by simp only[RX,mx,Uk hm]) (aj (d:=.int (0-dz L 0)) rfl rfl (zv _ () ()))
  ·have es:iW L=dz L 0:=WZ hm;rw[es];exact bu (by simp only[RX,mx,Ug hm]) (zv _ h0 gb)
theorem Ez{L:List Int}(h0:dz L 0≠0){y:Int}(hy:y∈L):(y.fdiv (iW L)).natAbs<=y.natAbs:=by
 have d:=(je (l:=L) (a:=0)).2 y hy;have s0:iW L≠0/\iW L ∣ y:=by
  unfold iW;split
  ·exact⟨(),by rw[Int.zero_sub];exact Int.neg_dvd.mpr d⟩
  ·exact⟨h0,d⟩
 obtain⟨k,rfl⟩:=s0.2;rw[Int.mul_fdiv_cancel_left _ s0.1,U6];exact Wr _ ()
theorem JP{L:List Int}(h0:dz L 0≠0){k:Nat}(hk:k<L.length):gI (L.map (·.fdiv (iW L))) k<=((gI L k).natAbs:Int):=by
 rw[tO (·.fdiv (iW L)) (Int.zero_fdiv _)];have:=Ez h0 (bx hk)
 lia
theorem JO{L:List Int}{B:Nat}(h0:dz L 0≠0)(hb:∀x∈L,x.natAbs<=B):∀x∈L.map (·.fdiv (iW L)),x.natAbs<=B:=λx hx=>by obtain⟨y,hy,rfl⟩:=Us.mp hx;exact TX (Ez h0 hy) (hb y hy)
theorem l4{l:List Int}(h:l.length=4):∃a b c d,l=[a,b,c,d]:=by
 match l,h with
 |[a,b,c,d],_=>exact⟨a,b,c,d,rfl⟩
theorem GD{m:Nat}{M:List (List Int)}(hm:m=3\/m=4)(hl:M.length=m-1)(hq:∀q∈M,q.length=m/\∀x∈q,x.natAbs<=3):Jg m M (cL m M m):=by
 rcases hm with rfl|rfl
 ·rcases M with _|⟨a,_|⟨b,_|⟨c,M⟩⟩⟩<;>(try cases hl)
  ·have la:=(hq a ∅).1;have lb:=(hq b ∅).1;have e:cL 3 [a,b] 3=pR a b:=by
    obtain⟨a0,a1,a2,rfl⟩:=KF la;obtain⟨b0,b1,b2,rfl⟩:=KF lb;simp[cL,jd,dW,BQ,gI,pR,p2,List.range_succ]
    grind
   rw[e];exact OB la lb
 ·rcases M with _|⟨a,_|⟨b,_|⟨c,_|⟨d,M⟩⟩⟩⟩<;>(try cases hl)
  ·have la:=(hq a ∅).1;have lb:=(hq b ∅).1;have lc:=(hq c ∅).1;have e:cL 4 [a,b,c] 4=fT a b c:=by
    obtain⟨a0,a1,a2,a3,rfl⟩:=l4 la;obtain⟨b0,b1,b2,b3,rfl⟩:=l4 lb;obtain⟨c0,c1,c2,c3,rfl⟩:=l4 lc
    ·simp[cL,jd,dW,BQ,gI,fT,d3,cO,List.range_succ]
     grind
   rw[e];exact OC la lb lc λq h=>(hq q h).2
theorem J1:uQ fs 15:=⟨14,rfl,rfl⟩
theorem NX:yz fs 0 2 3 4 5 6 7 8 9 10 11:=⟨⟨rfl,rfl,rfl,rfl,rfl,rfl,rfl⟩,rfl,rfl,rfl,rfl⟩
theorem Lg(M:List (List Int)):pl (lI M)=true/\dp (lI M)<=2:=by
 have h1:∀l:List Int,mD (l.map Dt.int)=true/\qp (l.map Dt.int)=0:=by
  intro l
  induction l with
  |nil=>exact⟨rfl,rfl⟩
  |cons x l ih=>exact⟨by rw[UB,mD,ih.1];rfl,by rw[UB,qp,ih.2];rfl⟩
 have:∀M:List (List Int),mD (M.map tI)=true/\qp (M.map tI)<=1:=by
  intro M
  induction M with
  |nil=>exact⟨rfl,by simp[qp]⟩
  |cons x l ih=>exact⟨by rw[UB,mD,ih.1];unfold tI;rw[pl,(h1 x).1];rfl,by rw[UB,qp,show dp (tI x)=1 by unfold tI;rw[dp,(h1 x).2]];have:=ih.2;lia⟩
 exact⟨by unfold lI;rw[pl];exact(this M).1,by unfold lI;rw[dp];have:=(this M).2;lia⟩
theorem zj(M:List (List Int)):cN .Eq (lI M) (lI M)= .ok true/\cN .NotEq (lI M) (lI M)= .ok false:=by
 obtain⟨h1,h2⟩:=Lg M;have ok:qL (lI M) (lI M)=true:=by unfold qL;rw[h1,Uk ()];rfl
 have e:=ib _ h1;constructor
 ·show af (qL (lI M) (lI M)) (R.ok (eJ (lI M) (lI M)))=_;rw[ok,e];rfl
 ·show af (qL (lI M) (lI M)) (R.ok (!eJ (lI M) (lI M)))=_;rw[ok,e];rfl
theorem gA{F:FT}{cap:List (Option Nat)}{it:kJ}{e:C}{ρ:ai}{n:Nat}{f:Nat->Int}(hi:cg F it ρ none= .ok (aM 0 n,none))(hk:kG it<=1)(hn:n<=1000)(hc:∀j:Nat,j<n->ev F e ((fK cap ρ).set 1 (some (.int j))) none= .ok (.int (f j),none)):ev F (.comp cap it (.nm 1) .nil e) ρ none= .ok (iI ((List.range n).map f),none):=by
 have cm:lim=1000000:=rfl;have h:aE (aB (.nm 1) (a6 F .nil) (bf F e) (fK cap ρ)) (aM 0 n) none= .ok ((List.range n).map λj=>.int (f j),none):=by
  have er:aM 0 n=(List.range n).map λ(i:Nat)=>Dt.int i:=by unfold aM;exact VT λi _=>by rw[Vb]
  rw[er];exact aR λj hj=>aI rfl (hc j (UE.mp hj)) (by unfold ba;exact UT _)
 have:=aO (cap:=cap) hi (by simp[aM];lia) (by rw[Uk hk];rfl) h;rw[this];unfold iI;rw[VV];rfl
theorem sI{N:Nat}{M:List (List Int)}{ρ:ai}{e:C}(hl:M.length<=16)(hk:kG (.seq e)<=1)(h:ev (au fs N) e ρ none= .ok (lI M,none)):ev (au fs N) (.comp [none,none] (.seq e) (.nm 1) .nil (.con (.int 0))) ρ none= .ok (iI (zeros M.length),none):=by
 have cm:lim=1000000:=rfl;have hc:aE (aB (.nm 1) (a6 (au fs N) .nil) (bf (au fs N) (.con (.int 0))) [none,none]) (M.map tI) none= .ok (M.map λ_=>.int 0,none):=aR λq _=>aI (ρ1:=[none,some (tI q)]) rfl rfl rfl
 have e:(M.map λ_=>Dt.int 0)=(zeros M.length).map Dt.int:=by unfold zeros;rw[List.map_replicate,List.map_const']
 rw[e]at hc;exact aO (ds:=M.map tI) (gK h rfl) (by rw[TU];lia) (by rw[Uk hk];rfl) hc
theorem HK{N m:Nat}{M:List (List Int)}{w:List Int}(hN:2<=N)(hM:M.length<=16)(m4:m<=4)(hq:∀q∈M,q.length=m/\∀x∈q,x.natAbs<=3)(lw:w.length=m):au fs N 25 [lI M,iI w] none= .ok (tI (M.map λq=>aa q w),none):=by
 have cm:lim=1000000:=rfl;have hR:∀k,k<w.length->cF (iI w) (.int k)= .ok (.int (gI w k)):=λk h=>(pA (ds:=w.map Dt.int) (k:=k) (d:=.int (gI w k)) (by rw[T9,pf h];rfl)).2
 have hc:aE (aB (.nm 1) (a6 (au fs (N-1)) .nil) (bf (au fs (N-1)) (.call 17 (.cons (.var 1) (.cons (.var 2) .nil)) [])) [none,none,some (iI w)]) (M.map tI) none= .ok (M.map λq=>.int (aa q w),none):=aR λq h=>by have:=E8 (fs:=fs) (iw:=17) rfl (N:=N-1) () (a:=q) (b:=w) (λz hz=>by have:=(hq q h).2 z hz;show z.natAbs<2^64;lia) (by rw[(hq q h).1,lw];lia) (by rw[(hq q h).1];lia) hR;exact aI (ρ1:=[none,some (tI q),some (iI w)]) rfl (by simp only[RX,this]) rfl
 rw[show (M.map λq=>Dt.int (aa q w))=(M.map λq=>aa q w).map Dt.int by rw[VV];rfl]at hc;have h:=aO (F:=au fs (N-1)) (cap:=[none,none,some 1]) (it:=.seq (.var 0)) (ρ:=[some (lI M),some (iI w)]) (ds:=M.map tI) rfl (by rw[TU];lia) rfl hc;refine ay (body:=PN) rfl () rfl (aq ?_);rw[ek];exact(WW (R.bind · _) h).trans rfl
theorem AD{N m:Nat}{M F:List (List Int)}{r:List Int}(hN:4<=N)(E:fH m M r)(hF:∀q∈F,q.length=m/\(∀i,i<m->0<=gI q i)/\bQ M r q)(hs:F.Pairwise λa b=>ltI a b=true):au fs N 26 [lI F,lI M,.int m,tI r] none= .ok (.bl true,none):=by
 have RG:=yF (iw:=16) (ia:=19) (fs:=fs) rfl rfl (N:=N-1) (m:=m) () (F:=F) (λq hq=>(hF q hq).1) (λq hq=>(hF q hq).2.1) hs;have m4:=E.m4;have ln:=E.ln;have loop:=bI (S:=none) (tg:=.nm 4) (body:=aP (au fs (N-1)) PQ) (ds:=F.map tI) (ρ:=[some (lI F),some (lI M),some (.int m),some (tI r),none])
  (λ_ ρ=>∃x,ρ=[some (lI F),some (lI M),some (.int m),some (tI r),x]) ⟨none,rfl⟩ (by
   rintro pre y post ρ e ⟨x,rfl⟩;obtain⟨q,h,rfl⟩:=jJ e;obtain⟨q1,_,q3⟩:=hF q (V2 h);have s:=GI (iw:=17) (is:=18) (fs:=fs) rfl rfl (N:=N-1) () (D:=tI r) (r:=r) (x:=q) (λk h=>fN h) E.rl () (λq hq z hz=>by have:=E.bd q hq z hz;show z.natAbs<2^64;lia) () E.wd q1;rw[sf.mpr q3]at s;exact⟨_,_,rfl,gQ (by simp only[RX,s];rfl) rfl,some (tI q),rfl⟩)
 obtain⟨ρ1,h1,x,rfl⟩:=loop;refine ay (body:=Nu) rfl () rfl ?_;show fin (aP (au fs (N-1)) Nu [some (lI F),some (lI M),some (.int m),some (tI r),none] none)=_;exact bu (by simp only[RX,RG];rfl) (bD (ds:=F.map tI) rfl rfl h1 (aq rfl))
def bh{α:Type}(p:Nat)(q:List α):List α:=q.drop p++q.take p
theorem uC{F:FT}{e:C}{c:Option Nat}{p:Nat}{ρ:ai}{M:List (List Int)}(hi:cg F (.seq e) ρ none= .ok (M.map tI,none))(hl:kG (.seq e)<=1)(hc:fK [none,none,c] ρ=[none,none,some (.int p)])(hr:M.length<=16)(hq:∀q∈M,q.length=4)(hp:p<=4):
  ev F (.comp [none,none,c] (.seq e) (.nm 1) .nil (.bin .Add (.sliL (.var 1) (.var 2)) (.sliH (.var 1) (.var 2)))) ρ none= .ok (lI (M.map (bh p)),none):=by
 have cm:lim=1000000:=rfl;have h:aE (aB (.nm 1) (a6 F .nil) (bf F (.bin .Add (.sliL (.var 1) (.var 2)) (.sliH (.var 1) (.var 2)))) [none,none,some (.int p)]) (M.map tI) none= .ok (M.map λq=>tI (bh p q),none):=aR λq h=>by have lq:=hq q h;have t1:=qi q (p:=p) ();have t2:=vh q (p:=p) ();have t3:=tq (a:=q.drop p) (b:=q.take p) (by rw[VR,VJ];lia);exact aI (ρ1:=[none,some (tI q),some (.int p)]) rfl (by simp only[RX,t1,t2,t3];rfl) (by unfold ba;rw[bZ,UT])
 rw[<-hc]at h;have:=aO (F:=F) (cap:=[none,none,c]) hi (by rw[TU];lia) (by rw[Uk hl];rfl) h;rw[this];unfold lI;rw[VV];rfl
theorem eX{α:Type}{p:Nat}{q:List α}{x:α}:x∈bh p q↔x∈q:=by unfold bh;rw[Uc,Or.comm,<-Uc,Wg]
theorem jy{α:Type}(p:Nat)(q:List α):(bh p q).length=q.length:=by unfold bh;rw[T6,Nat.add_comm,<-T6,Wg]
def yk(m k:Nat)(M:List (List Int)):Prop:=M.length=k/\∀q∈M,q.length=m/\∀x∈q,x.natAbs<=3
theorem yk.MV{m k p:Nat}{M:List (List Int)}(h:yk m k M):yk m k (M.map (bh p)):=⟨by rw[TU,h.1],λq hq=>by
 obtain⟨z,hz,rfl⟩:=Us.mp hq;obtain⟨h1,h2⟩:=h.2 z hz;exact⟨by rw[jy,h1],λx hx=>h2 x (eX.mp hx)⟩⟩
section
variable{N:Nat}{ns:List Int}{ch:Bool}
theorem pk(hN:3<=N)(k many:Nat)(hk:k<1000)(hm:0<many):au fs (N-1) 15 [.bO ns,.int k,.int many] none= .ok (.int (b8 ns k many),none):=Dx (fs:=fs) J1 (n:=N-1) () (ns:=ns) (k:=k) (many:=many) () hm
theorem cl(hN:3<=N){k:Nat}(hk:k<1000):au fs (N-1) 14 [.bO ns,.int k] none= .ok (.int (aC ns k),none):=u4 (fs:=fs) (ic:=14) rfl (n:=N-1) () (ns:=ns) (k:=k) ()
theorem EJ{M:List (List Int)}{x3 x4:Option Dt}(hN:3<=N)(h:yk 4 3 M):∃R,yk 4 3 R/\fin (aP (au fs (N-1)) tJ [some (.bO ns),some (lI M),some (.bl ch),x3,x4,none,none] none)= .ok (lI R,none):=by
 have cm:lim=1000000:=rfl;have p1:au fs (N-1) 15 [.bO ns,.int 26,.int 4] none=_:=pk hN 26 4 ⋯ ⋯;have p2:au fs (N-1) 15 [.bO ns,.int 27,.int 3] none=_:=pk hN 27 3 ⋯ ⋯;have l1:=gR (ns:=ns) (k:=26) (many:=4) ⋯;have l2:=gR (ns:=ns) (k:=27) (many:=3) ⋯;generalize b8 ns 26 4=a at p1 l1;generalize b8 ns 27 3=b at p2 l2;have h2:=h.MV (p:=a);have c1:dQ (lI (M.map (bh a))) none (some (b:Int))= .ok (lI ((M.map (bh a)).take b)):=by show Rx.R.ok (Dt.lst (cutD ((M.map (bh a)).map tI) none (some (b:Int))))=_;rw[tw _ (by rw[TU,h2.1];lia),<-List.map_take];rfl
 have c2:dQ (lI (M.map (bh a))) (some (b:Int)) none= .ok (lI ((M.map (bh a)).drop b)):=by show Rx.R.ok (Dt.lst (cutD ((M.map (bh a)).map tI) (some (b:Int)) none))=_;rw[lJ _ (by rw[TU,h2.1];lia),<-List.map_drop];rfl
 have c3:kI .Add (lI ((M.map (bh a)).drop b)) (lI ((M.map (bh a)).take b))= .ok (lI (bh b (M.map (bh a)))):=by have:=Dd (a:=((M.map (bh a)).drop b).map tI) (b:=((M.map (bh a)).take b).map tI) (by rw[TU,TU,VR,VJ,h2.1];lia);rw[<-UC]at this;exact this
 have r1:=uC (F:=au fs (N-1)) (e:=.var 1) (c:=some 5) (p:=a) (ρ:=[some (.bO ns),some (lI M),some (.bl ch),x3,x4,some (.int a),none]) (M:=M) rfl ⋯ rfl (by rw[h.1];decide) (λq hq=>(h.2 q hq).1) ();refine⟨bh b (M.map (bh a)),⟨by rw[jy,h2.1],λq hq=>h2.2 q (eX.mp hq)⟩,?_⟩;exact aj (d:=.int a) (by simp only[RX,p1]) rfl (aj (d:=lI (M.map (bh a))) r1 rfl (aj (d:=.int b) (by simp only[RX,p2]) rfl (aq (by simp only[RX,c1,c2,c3]))))
theorem Gv{M:List (List Int)}(hN:3<=N)(h:yk 4 3 M):∃R,yk 4 3 R/\au fs N 28 [.bO ns,lI M,.bl ch] none= .ok (lI R,none):=by
 have cm:lim=1000000:=rfl;have go:∀{r},fin (aP (au fs (N-1)) Nw [some (.bO ns),some (lI M),some (.bl ch),none,none,none,none] none)=r->au fs N 28 [.bO ns,lI M,.bl ch] none=r:=λh=>ay (body:=Nw) rfl () rfl h
 cases ch with
 |true=>
  have hc:=gA (F:=au fs (N-1)) (cap:=[none,none,some 0]) (it:=.rng1 (.con (.int 6))) (e:=.bin .Add (.con (.int 1)) (.bin .Mod (.call 14 (.cons (.var 2) (.cons (.bin .Add (.con (.int 3)) (.var 1)) .nil)) []) (.con (.int 3)))) (ρ:=[some (.bO ns),some (lI M),some (.bl true),none,none,none,none]) (n:=6) (f:=λj=>1+aC ns (3+j) % 3) rfl ⋯ ⋯ λj hj=>by
   show ev _ _ [none,some (.int j),some (.bO ns)] none=_;have ec:(3:Int)+(j:Int)=((3+j:Nat):Int):=()
   have c:=cl (ns:=ns) hN (k:=3+j) ();have md:=bE (i:=aC ns (3+j)) (j:=3) ⋯;simp only[RX,ec,c,md]
  obtain⟨f,fe⟩:∃f:Nat->Int,f=λj=>1+aC ns (3+j) % 3:=⟨_,rfl⟩
  have hf:∀j,1<=f j/\f j<=3:=λj=>by rw[fe];show 1<=1+aC ns (3+j) % 3/\1+aC ns (3+j) % 3<=3;lia
  rw[<-fe]at hc;have h0:=hf 0;have h1:=hf 1;have h2:=hf 2;have h3:=hf 3;have h4:=hf 4;have h5:=hf 5;obtain⟨R,R1,R2⟩:=EJ (ns:=ns) (ch:=true) (M:=[[f 0,0-f 1,0,0],[0,f 2,0-f 3,0],[0,0,f 4,0-f 5]]) (x3:=some (iI ((List.range 6).map f))) (x4:=none) hN ⟨rfl,by simp;exact⟨⟨(),()⟩,⟨(),()⟩,(),()⟩⟩;exact⟨R,R1,go (dR rfl (aj (d:=iI ((List.range 6).map f)) hc rfl (aj (d:=lI [[f 0,0-f 1,0,0],[0,f 2,0-f 3,0],[0,0,f 4,0-f 5]]) rfl rfl R2)))⟩
 |false=>
  match M,h.1 with
  |[a,b,c],_=>
   have la:=h.2 a ∅;have lb:=h.2 b ∅;have lc:=h.2 c ∅;obtain⟨a0,a1,a2,a3,rfl⟩:=l4 la.1;obtain⟨b0,b1,b2,b3,rfl⟩:=l4 lb.1;obtain⟨c0,c1,c2,c3,rfl⟩:=l4 lc.1;have hk:=h.2;simp at hk;have i0:∀a b c:List Int,cF (lI [a,b,c]) (.int 0)= .ok (tI a)/\cF (lI [a,b,c]) (.int 1)= .ok (tI b)/\cF (lI [a,b,c]) (.int 2)= .ok (tI c):=λa b c=>⟨lU (k:=0) rfl,lU (k:=1) rfl,lU (k:=2) rfl⟩
   have t0:∀a b c d:Int,dQ (tI [a,b,c,d]) none (some 3)= .ok (tI [a,b,c]):=λa b c d=>qi [a,b,c,d] (p:=3) ∅
   have k0:∀a b c d:Int,kI .Add (tI [a,b,c]) (.tup [.int d])= .ok (tI [a,b,c,d]):=λa b c d=>tq (a:=[a,b,c]) (b:=[d]) (Nat.le_of_ble_eq_true rfl)
   have e:ev (au fs (N-1)) (.comp [none,none] (.seq (.sliH (.idx (.var 1) (.con (.int 2))) (.con (.int 3)))) (.nm 1) .nil (.bi .abs (.cons (.var 1) .nil))) [some (.bO ns),some (lI [[a0,a1,a2,a3],[b0,b1,b2,b3],[c0,c1,c2,c3]]),some (.bl false),none,none,none,none] none= .ok (.lst (([c0,c1,c2]:List Int).map λx=>.int x.natAbs),none):=aO (ds:=([c0,c1,c2]:List Int).map Dt.int) (gK (d:=tI [c0,c1,c2]) (by simp only[RX,i0,t0]) rfl) (Nat.le_of_ble_eq_true rfl) rfl (bY λx _=>by
    have:=lA x;exact aI (ρ1:=[none,some (.int x)]) rfl (by simp only[RX,this]) rfl)
   have te:c9 .tuple [.lst (([c0,c1,c2]:List Int).map λx=>.int x.natAbs)]= .ok (tI [(c0.natAbs:Int),(c1.natAbs:Int),(c2.natAbs:Int)]):=rfl;obtain⟨R,R1,R2⟩:=EJ (ns:=ns) (ch:=false) (M:=[[a0,a1,a2,0],[b0,b1,b2,0],[(c0.natAbs:Int),(c1.natAbs:Int),(c2.natAbs:Int),-1]]) (x3:=none) (x4:=some (tI [(c0.natAbs:Int),(c1.natAbs:Int),(c2.natAbs:Int),-1])) hN ⟨rfl,by simp;lia⟩;exact⟨R,R1,go (bu (by simp only[RX]) (aj (d:=tI [(c0.natAbs:Int),(c1.natAbs:Int),(c2.natAbs:Int),-1]) (by simp only[RX,e,te,k0]) rfl (aj (d:=lI [[a0,a1,a2,0],[b0,b1,b2,0],[(c0.natAbs:Int),(c1.natAbs:Int),(c2.natAbs:Int),-1]]) (by simp only[RX,i0,t0,k0];rfl) rfl R2)))⟩
end
def eL(q:Nat):Dt:=.lst (List.replicate q (.tup []))
theorem As:∀q,q<4->au fs 58 11 [eL q,.int 0] none= .ok (.lst [],none)
 |0,_=>by kernel_rfl
 |1,_=>by kernel_rfl
 |2,_=>by kernel_rfl
 |3,_=>by kernel_rfl
theorem KU:∀R:List Int,R.length<4->(∀x∈R,x=0\/x=1)->au fs 58 12 [eL R.length,.int 0,tI R] none= .ok (if 0<R.sum then .lst [] else .lst [.tup []],none)
 |[],_,_=>by kernel_rfl
 |[a],_,h=>by rcases h a ∅with rfl|rfl<;>kernel_rfl
 |[a,b],_,h=>by rcases h a ∅with rfl|rfl<;>rcases h b ∅with rfl|rfl<;>kernel_rfl
 |[a,b,c],_,h=>by rcases h a ∅with rfl|rfl<;>rcases h b ∅with rfl|rfl<;>rcases h c ∅with rfl|rfl<;>kernel_rfl
 |_::_::_::_::_,h,_=>by simp at h;lia
theorem C8:∀q,q<4->au fs 58 13 [eL q,.tup []] none= .ok (.lst [],none)/\au fs 58 12 [.tup (List.replicate q (.tup [])),.int 0,tI (zeros q)] none= .ok (.lst [.tup []],none)
 |0,_=>⟨by kernel_rfl,by kernel_rfl⟩
 |1,_=>⟨by kernel_rfl,by kernel_rfl⟩
 |2,_=>⟨by kernel_rfl,by kernel_rfl⟩
 |3,_=>⟨by kernel_rfl,by kernel_rfl⟩
theorem GY(ns:List Int):au fs 59 27 [.bO ns] none= .ok (.bl true,none):=by
 have cm:lim=1000000:=rfl;have p1:au fs 58 15 [.bO ns,.int 30,.int 4] none=_:=pk (N:=59) ⋯ 30 4 ⋯ ⋯;have l1:=gR (ns:=ns) (k:=30) (many:=4) ⋯;generalize b8 ns 30 4=q at p1 l1;have c1:ev (au fs 58) (.comp [none,none] (.rng1 (.call 15 (.cons (.var 0) (.cons (.con (.int 30)) (.cons (.con (.int 4)) .nil))) [])) (.nm 1) .nil (.tup .nil)) [some (.bO ns),none,none,none] none= .ok (eL q,none):=by
  have h:aE (aB (.nm 1) (a6 (au fs 58) .nil) (bf (au fs 58) (.tup .nil)) [none,none]) (aM 0 q) none= .ok (List.replicate q (.tup []),none):=by
   have:=aR (S:=none) (t:=λ(i:Nat)=>Dt.int (0+(i:Int))) (f:=aB (.nm 1) (a6 (au fs 58) .nil) (bf (au fs 58) (.tup .nil)) [none,none]) (g:=λ_=>.tup []) (l:=List.range q) λj _=>aI (ρ1:=[none,some (.int (0+(j:Int)))]) rfl rfl rfl
   rw[List.map_const',VM]at this;exact this
  exact aO (ds:=aM 0 q) (dJ (n:=q) (by simp only[RX,p1]) ()) (by simp[aM];lia) rfl h
 have Sn:c9 .len [eL q]= .ok (.int q):=by show R.ok (Dt.int ((List.replicate q (Dt.tup [])).length:Nat))=_;rw[VO]
 have c2:=gA (F:=au fs 58) (cap:=[none,none,some 0]) (it:=.rng1 (.bi .len (.cons (.var 1) .nil))) (e:=.call 15 (.cons (.var 2) (.cons (.bin .Add (.con (.int 31)) (.var 1)) (.cons (.con (.int 2)) .nil))) []) (ρ:=[some (.bO ns),some (eL q),none,none]) (n:=q) (f:=λj=>((b8 ns (31+j) 2:Nat):Int)) (dJ (n:=q) (by simp only[RX,Sn]) ()) ⋯ () λj hj=>by
  show ev _ _ [none,some (.int j),some (.bO ns)] none=_;have ec:(31:Int)+(j:Int)=((31+j:Nat):Int):=()
  have c:au fs 58 15 [.bO ns,.int ((31+j:Nat):Int),.int 2] none=_:=pk (N:=59) ⋯ (31+j) 2 () ⋯;simp only[RX,ec,c]
 obtain⟨R,hR⟩:∃R:List Int,R=(List.range q).map λj=>((b8 ns (31+j) 2:Nat):Int):=⟨_,rfl⟩
 have lR:R.length=q:=by rw[hR];simp
 have bR:∀x∈R,x=0\/x=1:=λx hx=>by
  rw[hR]at hx;obtain⟨j,_,rfl⟩:=Us.mp hx;have:=gR (ns:=ns) (k:=31+j) (many:=2) ⋯;show ((b8 ns (31+j) 2:Nat):Int)=0\/((b8 ns (31+j) 2:Nat):Int)=1
  lia
 rw[<-hR]at c2;have a1:=As q l1;have a2:=KU R () bR;obtain⟨a3,a4⟩:=C8 q l1;rw[lR]at a2;have SD:c9 .tuple [iI R]= .ok (tI R):=rfl;have QM:c9 .tuple [eL q]= .ok (.tup (List.replicate q (.tup []))):=rfl;have QN:c9 .tuple [iI (zeros q)]= .ok (tI (zeros q)):=rfl;have sm:=wF R;have z:∀x,ev (au fs 58) (.comp [none,none] (.seq (.var 1)) (.nm 1) .nil (.con (.int 0))) [some (.bO ns),some (eL q),some (tI R),x] none= .ok (iI (zeros q),none):=λx=>by have:=sI (N:=58) (M:=List.replicate q []) (ρ:=[some (.bO ns),some (eL q),some (tI R),x]) (e:=.var 1) (by simp;lia) ⋯ (by simp only[RX,eL,lI,List.map_replicate];rfl);rwa [VO]at this
 have q1:∀l:List Dt,(l=[]\/l=[.tup []])->cN .NotEq (.lst l) (.lst l)= .ok false/\cN .Eq (.lst l) (.lst l)= .ok true:=λl hl=>by rcases hl with rfl|rfl<;>exact⟨rfl,rfl⟩
 obtain⟨e1,e2⟩:=q1 [] (.inl rfl);obtain⟨e3,e4⟩:=q1 [.tup []] (.inr rfl);refine ay (body:=Nv) rfl ⋯ rfl ?_;show fin (aP (au fs 58) Nv [some (.bO ns),none,none,none] none)=_;refine aj (d:=eL q) c1 rfl (aj (d:=tI R) (by simp only[RX,c2,SD]) rfl (aj (d:=.lst [.tup []]) rfl rfl ?_));by_cases hs:0<R.sum
 ·rw[W0 hs]at a2;exact dR (by simp only[RX,sm,Uk hs]) (aj (d:=.lst []) rfl rfl (bu (by simp only[RX,a1,a2,e1];rfl) (aq (by simp only[RX,a3,a4,z,QM,QN,e2,e4]))))
 ·rw[WZ hs]at a2;exact bu (by simp only[RX,sm,Ug hs]) (bu (by simp only[RX,a1,a2,e1,e3];rfl) (aq (by simp only[RX,a3,a4,z,QM,QN,e2,e4])))
theorem gV{p:Nat}(hp:p<4){q x:List Int}(lq:q.length=4)(lx:x.length=4):aa (bh p q) (bh p x)=aa q x/\(bU (bh p q) (bh p x)=true↔bU q x=true)/\bh p (bh (4-p) x)=x/\bh (4-p) (bh p x)=x:=by
 obtain⟨a,b,c,d,rfl⟩:=l4 lq;obtain⟨s,t,u,v,rfl⟩:=l4 lx;rcases CY hp with rfl|rfl|rfl|rfl
 all_goals refine⟨by simp[aa,bh]<;>lia,by simp[bU,bh]<;>lia,rfl,rfl⟩
structure Pl(M D:List (List Int)):Prop where
 g:yk 4 2 M
 ln:D.length=2
 nd:D.Nodup
 d:∀d∈D,d.length=4/\(∀z∈d,(0:Int)<=z)/\(∀q∈M,aa q d=0)/\∃z∈d,(0:Int)<z
 an:∀d∈D,∀d'∈D,bU d d'=true->d=d'
 ov:∀x:List Int,x.length=4->(∀z∈x,(0:Int)<=z)->(∀q∈M,aa q x=0)->(∃z∈x,(0:Int)<z)->∃d∈D,bU d x=true
 rk:∀B:List (List Int),B.length<2->(∀q∈B,q∈M)->∃y:List Int,y.length=4/\(∀q∈B,aa q y=0)/\∃q∈M,aa q y≠0
 bd:∀t:Int,(∀q∈M,∀x∈q,(x.natAbs:Int)<=t)->∀d∈D,∀z∈d,z<=4*(t*t)
theorem Pl.MV{M D:List (List Int)}{p:Nat}(h:Pl M D)(hp:p<4):Pl (M.map (bh p)) (D.map (bh p)):=by
 refine⟨h.g.MV,by rw[TU,h.ln],?_,λd hd=>?_,λd hd d' pq u=>?_,λx lx nx sx px=>?_,λB hB hM=>?_,λt ht d hd z hz=>?_⟩
 ·unfold List.Nodup;rw[Wa];refine List.Pairwise.imp_of_mem (λ {a b} ha hb n e=>n ?_) h.nd;have la:=(h.d a ha).1;have lb:=(h.d b hb).1;rw[<-(gV hp la la).2.2.2,e,(gV hp lb lb).2.2.2]
 ·obtain⟨z,hz,rfl⟩:=Us.mp hd;obtain⟨z1,z2,z3,w,w1,w2⟩:=h.d z hz;refine⟨by rw[jy,z1],λy hy=>z2 y (eX.mp hy),λq hq=>?_,w,eX.mpr w1,w2⟩;obtain⟨y,hy,rfl⟩:=Us.mp hq;rw[(gV hp (h.g.2 y hy).1 z1).1];exact z3 y hy
 ·obtain⟨z,hz,rfl⟩:=Us.mp hd;obtain⟨y,hy,rfl⟩:=Us.mp pq;rw[h.an z hz y hy ((gV hp (h.d z hz).1 (h.d y hy).1).2.1.mp u)]
 ·have e:=(gV hp lx lx).2.2.1;have ly:(bh (4-p) x).length=4:=by rw[jy,lx]
  obtain⟨w,w1,w2⟩:=px;obtain⟨d,hd,u⟩:=h.ov (bh (4-p) x) ly (λz hz=>nx z (eX.mp hz)) (λq hq=>by
   rw[<-(gV hp (h.g.2 q hq).1 ly).1,e];exact sx _ (Us.mpr ⟨q,hq,rfl⟩)) ⟨w,eX.mpr w1,w2⟩
  refine⟨bh p d,Us.mpr ⟨d,hd,rfl⟩,?_⟩;have:=(gV hp (h.d d hd).1 ly).2.1.mpr u;rwa [e]at this
 ·obtain⟨y,y1,y2,q,hq,y3⟩:=h.rk (B.map (bh (4-p))) (by rw[TU];exact hB) λq hq=>by obtain⟨w,hw,rfl⟩:=Us.mp hq;obtain⟨v,hv,rfl⟩:=Us.mp (hM w hw);rw[(gV hp (h.g.2 v hv).1 (h.g.2 v hv).1).2.2.2];exact hv
  refine⟨bh p y,by rw[jy,y1],λw hw=>?_,bh p q,Us.mpr ⟨q,hq,rfl⟩,by rw[(gV hp (h.g.2 q hq).1 y1).1];exact y3⟩;obtain⟨v,hv,rfl⟩:=Us.mp (hM w hw);have:=y2 _ (Us.mpr ⟨_,hw,rfl⟩);rw[(gV hp (h.g.2 v hv).1 (h.g.2 v hv).1).2.2.2]at this;rw[(gV hp (h.g.2 v hv).1 y1).1,this]
 ·obtain⟨w,hw,rfl⟩:=Us.mp hd;exact h.bd t (λq hq x hx=>ht _ (Us.mpr ⟨q,hq,rfl⟩) x (eX.mpr hx)) w hw z (eX.mp hz)
theorem Pl.IP{M D:List (List Int)}(h:Pl M D):fH 4 M (zeros M.length):=⟨⋯,⋯,by rw[h.g.1];decide,by simp[zeros],λq hq=>(h.g.2 q hq).1,λq hq=>(h.g.2 q hq).2,λx hx=>by rw[Vv hx];decide⟩
theorem C0{x:List Int}(lx:x.length=4):((∀i,i<4->0<=gI x i)↔∀z∈x,(0:Int)<=z)/\((∃i,i<4/\0<gI x i)↔∃z∈x,(0:Int)<z):=by
 refine⟨⟨λh z hz=>?_,λh i hi=>h _ (bx ())⟩,λ⟨i,hi,p⟩=>⟨_,bx (),p⟩,λ⟨z,hz,p⟩=>?_⟩
 ·obtain⟨i,hi,rfl⟩:=dX hz;exact h i ()
 ·obtain⟨i,hi,rfl⟩:=dX hz;exact⟨i,(),p⟩
theorem Pl.Af{M D:List (List Int)}(h:Pl M D):a9 4 M=cJ D:=by
 refine l6 h.IP h.nd (λd hd=>?_) h.an λx lx nx sx px=>?_
 ·obtain⟨z1,z2,z3,z4⟩:=h.d d hd;have n0:=(C0 z1).1.mpr z2;refine⟨(bJ h.IP).mpr ⟨z1,n0,eY.mpr z3,λk hk=>?_⟩,k8 (by rw[z1];exact n0) (by rw[z1];exact(C0 z1).2.mpr z4)⟩;have b:=h.bd (bK M) (λq hq x hx=>Bf hq hx) d hd _ (bx (by rw[z1];exact(dC.mp hk).1));have s2:=AW h.IP h.rk;have f0:=lO (p:=0) h.IP.sq;have f1:1<=(cu 4 (cQ 4 M (zeros M.length))).length:=List.length_pos_of_mem hk;have t0:=uH M;unfold kA;rw[nO];generalize bK M=t at b t0;have hs:((cQ 4 M (zeros M.length)).length=2/\(cu 4 (cQ 4 M (zeros M.length))).length=2)\/((cQ 4 M (zeros M.length)).length=3/\(cu 4 (cQ 4 M (zeros M.length))).length=1):=()
  rcases hs with ⟨h1,h2⟩|⟨h1,h2⟩<;>rw[h1,h2]
  ·show _<=2*t*(0+(2:Nat)*t);rw[show 2*t*(0+(2:Nat)*t)=4*(t*t) by grind];exact b
  ·show _<=4*t*t*(0+(1:Nat)*t);rw[show 4*t*t*(0+(1:Nat)*t)=4*(t*t)*t by grind];by_cases e:t=0
   ·subst e;exact b
   ·exact Int.le_trans b (by have:=U2 (show 1<=t by lia) (show 0<=4*(t*t) by have:=U4 t0 t0;lia);lia)
 ·obtain⟨d,hd,u⟩:=h.ov x lx ((C0 lx).1.mp nx) sx ((C0 lx).2.mp px);exact Uu.mpr ⟨d,hd,u⟩
theorem sD{a b c d e f g h:Int}:bU [a,b,c,d] [e,f,g,h]=true↔a<=e/\b<=f/\c<=g/\d<=h:=by simp[bU]
theorem PL{x y:List Int}(h1:bU x y≠true)(h2:bU y x≠true):∀d∈[x,y],∀d'∈[x,y],bU d d'=true->d=d':=λd hd d' pq u=>by simp only[TY,TZ,W8]at hd pq;rcases hd with rfl|rfl<;>rcases pq with rfl|rfl<;>first|rfl|exact absurd u h1|exact absurd u h2
theorem QF{a b y z:List Int}(ly:y.length=4)(lz:z.length=4)(h1:aa a y=0)(h2:aa b y≠0)(h3:aa b z=0)(h4:aa a z≠0):∀B:List (List Int),B.length<2->(∀q∈B,q∈[a,b])->∃y:List Int,y.length=4/\(∀q∈B,aa q y=0)/\∃q∈[a,b],aa q y≠0
 |[],_,_=>⟨y,ly,∅,b,∅,h2⟩
 |[q],_,h=>by
  have:=h q ∅;simp only[TY,TZ,W8]at this;rcases this with rfl|rfl
  ·exact⟨y,ly,by simpa using h1,b,∅,h2⟩
  ·exact⟨z,lz,by simpa using h3,a,∅,h4⟩
 |_::_::_,h,_=>by simp at h;lia
theorem Hu{p q r s:Int}(hp:0<=p/\p<=3)(hq:0<=q/\q<=3)(hr:0<=r/\r<=3)(hs:0<=s/\s<=3):Pl [[p,q,-1,0],[r,0,s,-1]] [[1,0,p,r+s*p],[0,1,q,s*q]]:=by
 have sp:=U4 hs.1 hp.1;have sq:=U4 hs.1 hq.1;refine⟨⟨rfl,by simp;lia⟩,rfl,∅,?_,?_,λx lx nx sx px=>?_,QF (y:=[0,0,0,1]) (z:=[0,0,1,s]) rfl rfl (by simp[aa]) (by simp[aa]) (by simp[aa]<;>lia) (by simp[aa]),λt ht=>?_⟩
 ·simp[aa];refine⟨⟨(),(),()⟩,(),(),()⟩
 ·exact PL (by rw[Ne,sD];lia) (by rw[Ne,sD];lia)
 ·obtain⟨x,y,z,w,rfl⟩:=l4 lx;simp[aa]at nx sx px ⊢;have ez:z=p*x+q*y:=()
  have ew:w=r*x+s*z:=()
  obtain⟨x0,y0,z0,w0⟩:=nx;have Tt:=U4 hp.1 x0;have Tu:=U4 hq.1 y0;by_cases h1:1<=x
  ·left;have a1:=U2 h1 hp.1;have a2:=U2 h1 hr.1;have a3:p<=z:=()
   have a4:=U2 a3 hs.1;rw[sD]
   lia
  ·by_cases h2:1<=y
   ·right;have a1:=U2 h2 hq.1;have a3:q<=z:=()
    have a4:=U2 a3 hs.1;have a5:=U4 hr.1 x0;rw[sD]
    lia
   ·exfalso;have e1:x=0:=()
    have e2:y=0:=()
    subst e1 e2;have e3:z=0:=()
    subst e3
    lia
 ·simp at ht ⊢;have t1:1<=t:=()
  have tt:=U3 t1 (show 0<=t by lia);have a1:=Int.mul_le_mul (show s<=t by lia) (show p<=t by lia) hp.1 ();have a2:=Int.mul_le_mul (show s<=t by lia) (show q<=t by lia) hq.1 ()
  exact⟨⟨(),(),(),()⟩,(),(),(),()⟩
theorem QP{a b:Int}(ha:1<=a/\a<=3)(hb:1<=b/\b<=3):∃u v:Int,b.fdiv (Int.gcd a b)=u/\a.fdiv (Int.gcd a b)=v/\1<=u/\1<=v/\u<=b/\v<=a/\a*u=b*v/\(Int.gcd a b:Int)≠0/\(Int.gcd a b:Int).natAbs<=200/\∀x y:Int,0<=x->0<=y->a*x-b*y=0->(x=0/\y=0)\/(u<=x/\v<=y):=by
 have h1:a=1\/a=2\/a=3:=()
 have h2:b=1\/b=2\/b=3:=()
 rcases h1 with rfl|rfl|rfl<;>rcases h2 with rfl|rfl|rfl
 all_goals first
  |exact⟨1,1,⋯,⋯,⋯,⋯,⋯,⋯,⋯,⋯,⋯,λx y _ _ _=>()⟩
  |exact⟨2,1,⋯,⋯,⋯,⋯,⋯,⋯,⋯,⋯,⋯,λx y _ _ _=>()⟩
  |exact⟨3,1,⋯,⋯,⋯,⋯,⋯,⋯,⋯,⋯,⋯,λx y _ _ _=>()⟩
  |exact⟨1,2,⋯,⋯,⋯,⋯,⋯,⋯,⋯,⋯,⋯,λx y _ _ _=>()⟩
  |exact⟨3,2,⋯,⋯,⋯,⋯,⋯,⋯,⋯,⋯,⋯,λx y _ _ _=>()⟩
  |exact⟨1,3,⋯,⋯,⋯,⋯,⋯,⋯,⋯,⋯,⋯,λx y _ _ _=>()⟩
  |exact⟨2,3,⋯,⋯,⋯,⋯,⋯,⋯,⋯,⋯,⋯,λx y _ _ _=>()⟩
theorem Hv{a b c d u v s t:Int}(ha:1<=a/\a<=3)(hb:1<=b/\b<=3)(hc:1<=c/\c<=3)(hd:1<=d/\d<=3)(hu:1<=u)(hv:1<=v)(Tn:u<=b)(BL:v<=a)(e:a*u=b*v)(hs:1<=s)(ht:1<=t)(Ti:s<=d)(Tj:t<=c)(e':c*s=d*t)
  (k:∀x y:Int,0<=x->0<=y->a*x-b*y=0->(x=0/\y=0)\/(u<=x/\v<=y)) (k':∀x y:Int,0<=x->0<=y->c*x-d*y=0->(x=0/\y=0)\/(s<=x/\t<=y)):Pl [[a,0-b,0,0],[0,0,c,0-d]] [[u,v,0,0],[0,0,s,t]]:=by
 refine⟨⟨rfl,by simp;lia⟩,rfl,by simp;lia,?_,?_,λx lx nx sx px=>?_,QF (y:=[0,0,1,0]) (z:=[1,0,0,0]) rfl rfl (by simp[aa]) (by simp[aa];lia) (by simp[aa]) (by simp[aa];lia),λm hm=>?_⟩
 ·simp[aa,Int.neg_mul];refine⟨⟨(),(),()⟩,(),(),()⟩
 ·exact PL (by rw[Ne,sD];lia) (by rw[Ne,sD];lia)
 ·obtain⟨x,y,z,w,rfl⟩:=l4 lx;simp[aa,Int.neg_mul]at nx sx px ⊢;have k1:=k x y nx.1 nx.2.1 ();have k2:=k' z w nx.2.2.1 nx.2.2.2 ();rw[sD,sD]
  lia
 ·simp at hm ⊢;have tt:=U3 (show 1<=m by lia) (show 0<=m by lia)
  exact⟨⟨(),(),()⟩,(),(),()⟩
section
variable{N:Nat}{ns:List Int}
theorem EW{M D:List (List Int)}{x1 x2 x3 x4 x7 x8 x9 xa xb xc:Option Dt}(hN:8<=N)(h:Pl M D):fin (aP (au fs (N-1)) tP [some (.bO ns),x1,x2,x3,x4,some (lI M),some (lI D),x7,x8,x9,xa,xb,xc,none,none] none)= .ok (.bl true,none):=by
 have cm:lim=1000000:=rfl;have p1:au fs (N-1) 15 [.bO ns,.int 29,.int 4] none=_:=pk () 29 4 ⋯ ⋯;have l1:=gR (ns:=ns) (k:=29) (many:=4) ⋯;generalize b8 ns 29 4=a at p1 l1;have H:=h.MV l1;have r1:=uC (F:=au fs (N-1)) (e:=.var 5) (c:=some 13) (p:=a) (ρ:=[some (.bO ns),x1,x2,x3,x4,some (lI M),some (lI D),x7,x8,x9,xa,xb,xc,some (.int a),none]) (M:=M) rfl ⋯ rfl (by rw[h.g.1];decide) (λq hq=>(h.g.2 q hq).1) ();have L1:au fs (N-1) 11 [lI (M.map (bh a)),.int 4] none= .ok (lI (cJ (D.map (bh a))),none):=by rw[<-H.Af];exact(An NX (N:=N-1) (d9.lst _) () H.IP).1
 have r2:=uC (F:=au fs (N-1)) (e:=.var 6) (c:=some 13) (p:=a) (ρ:=[some (.bO ns),x1,x2,x3,x4,some (lI M),some (lI D),x7,x8,x9,xa,xb,xc,some (.int a),some (lI (cJ (D.map (bh a))))]) (M:=D) rfl ⋯ rfl (by rw[h.ln];decide) (λq hq=>(h.d q hq).1) ();obtain⟨P1,P2⟩:=kR H.IP;have A:au fs (N-1) 19 [lI (cJ (D.map (bh a))),.int 4] none= .ok (.bl true,none):=by rw[<-H.Af];exact yF (iw:=16) (ia:=19) (fs:=fs) rfl rfl (N:=N-1) (m:=4) () (λq hq=>(P1 q hq).1) (λq hq=>(P1 q hq).2.1) (P2.imp λh=>h.1)
 have s1:=qc (Q:=D.map (bh a)) (m:=4) ⋯ (by rw[H.ln];decide) λq hq=>(H.d q hq).1
 have e1:=(zj (cJ (D.map (bh a)))).1;exact aj (d:=.int a) (by simp only[RX,p1]) rfl (aj (d:=lI (cJ (D.map (bh a)))) (by simp only[RX,r1,L1]) rfl (aq (by simp only[RX,A,r2,s1,e1])))
theorem Hw(hN:8<=N):au fs N 29 [.bO ns] none= .ok (.bl true,none):=by
 have cm:lim=1000000:=rfl;have draw:∀(k:Nat)(e:C)(m:Nat)(f:Int->Int)(ρ:ai),k<100->fK [none,none,some 0] ρ=[none,none,some (.bO ns)]->(∀j:Nat,j<4->ev (au fs (N-1)) e [none,some (.int j),some (.bO ns)] none= .ok (.int (f (aC ns (k+j))),none))->ev (au fs (N-1)) (.comp [none,none,some 0] (.rng1 (.con (.int 4))) (.nm 1) .nil e) ρ none= .ok (iI [f (aC ns (k+0)),f (aC ns (k+1)),f (aC ns (k+2)),f (aC ns (k+3))],none):=λk e m f ρ _ hc he=>
  gA (F:=au fs (N-1)) (cap:=[none,none,some 0]) (it:=.rng1 (.con (.int 4))) (n:=4) (f:=λj=>f (aC ns (k+j))) rfl ⋯ ⋯ λj hj=>by rw[hc];exact he j hj
 have d1:=draw 3 (.bin .Mod (.call 14 (.cons (.var 2) (.cons (.bin .Add (.con (.int 3)) (.var 1)) .nil)) []) (.con (.int 4))) 4 (λz=>z % 4) [some (.bO ns),none,none,none,none,none,none,none,none,none,none,none,none,none,none] ⋯ rfl λj hj=>by
  have ec:(3:Int)+(j:Int)=((3+j:Nat):Int):=()
  have c:=cl (N:=N) (ns:=ns) () (k:=3+j) ();have md:=bE (i:=aC ns (3+j)) (j:=4) ⋯;simp only[RX,ec,c,md]
 have b1:∀z:Int,0<=z % 4/\z % 4<=3:=λz=>by lia
 have b2:∀z:Int,1<=1+z % 3/\1+z % 3<=3:=λz=>by lia
 have g0:=b1 (aC ns (3+0));have g1:=b1 (aC ns (3+1));have g2:=b1 (aC ns (3+2));have g3:=b1 (aC ns (3+3));have P:=Hu g0 g1 g2 g3;generalize aC ns (3+0) % 4=p at d1 g0 P;generalize aC ns (3+1) % 4=q at d1 g1 P;generalize aC ns (3+2) % 4=r at d1 g2 P;generalize aC ns (3+3) % 4=s at d1 g3 P;have OP:au fs (N-1) 15 [.bO ns,.int 28,.int 2] none=_:=pk () 28 2 ⋯ ⋯;have m1:=aG (i:=s) (j:=p) (.inl ());have m2:=aG (i:=s) (j:=q) (.inl ());refine ay (body:=Nx) rfl () rfl ?_;show fin (aP (au fs (N-1)) Nx [some (.bO ns),none,none,none,none,none,none,none,none,none,none,none,none,none,none] none)=_;refine cW ((WW (R.bind · _) d1).trans rfl) (aj (d:=lI [[p,q,-1,0],[r,0,s,-1]]) rfl rfl (aj (d:=lI [[1,0,p,r+s*p],[0,1,q,s*q]]) (by simp only[RX,m1,m2];rfl) rfl ?_));by_cases h:b8 ns 28 2=0
 ·have d2:=draw 7 (.bin .Add (.con (.int 1)) (.bin .Mod (.call 14 (.cons (.var 2) (.cons (.bin .Add (.con (.int 7)) (.var 1)) .nil)) []) (.con (.int 3)))) 3 (λz=>1+z % 3) [some (.bO ns),some (.int p),some (.int q),some (.int r),some (.int s),some (lI [[p,q,-1,0],[r,0,s,-1]]),some (lI [[1,0,p,r+s*p],[0,1,q,s*q]]),none,none,none,none,none,none,none,none] ⋯ rfl λj hj=>by
   have ec:(7:Int)+(j:Int)=((7+j:Nat):Int):=()
   have c:=cl (N:=N) (ns:=ns) () (k:=7+j) ();have md:=bE (i:=aC ns (7+j)) (j:=3) ⋯;simp only[RX,ec,c,md]
  have ha:=b2 (aC ns (7+0));have hb:=b2 (aC ns (7+1));have hc:=b2 (aC ns (7+2));have hd:=b2 (aC ns (7+3));generalize 1+aC ns (7+0) % 3=a at d2 ha;generalize 1+aC ns (7+1) % 3=b at d2 hb;generalize 1+aC ns (7+2) % 3=c at d2 hc;generalize 1+aC ns (7+3) % 3=d at d2 hd;obtain⟨u,v,e1,e2,u1,v1,u2,v2,e3,n0,n2,k⟩:=QP ha hb;obtain⟨s',t,JI,Ex,s1,t1,s2,t2,Mr,MR,BO,k'⟩:=QP hc hd;have G1:=tS (N:=N-1) (a:=a) (b:=b) () ();have G2:=tS (N:=N-1) (a:=c) (b:=d) () ();have f1:=eT (i:=b) n0 (Ie _ n2 n0);have f2:=eT (i:=a) n0 (Ie _ n2 n0);have f3:=eT (i:=d) MR (Ie _ BO MR);have f4:=eT (i:=c) MR (Ie _ BO MR);rw[e1]at f1;rw[e2]at f2;rw[JI]at f3;rw[Ex]at f4;have Q:=Hv ha hb hc hd u1 v1 u2 v2 e3 s1 t1 s2 t2 Mr k k';rw[h]at OP;exact dR (by simp only[RX,OP];rfl) (cW ((WW (R.bind · _) d2).trans rfl) (aj (d:=lI [[a,0-b,0,0],[0,0,c,0-d]]) rfl rfl (aj (d:=.int (Int.gcd a b)) (by simp only[RX,G1]) rfl (aj (d:=.int (Int.gcd c d)) (by simp only[RX,G2]) rfl (aj (d:=lI [[u,v,0,0],[0,0,s',t]]) (by simp only[RX,f1,f2,f3,f4];rfl) rfl (EW hN Q))))))
 ·have:(((b8 ns 28 2:Nat):Int)==0)=false:=WT.mpr ();exact bu (by simp only[RX,OP,this]) (EW hN P)
end
def C7:ai:=[none,none,none,none,none,none,none,none,none]
theorem DS{m n:Nat}{ns:List Int}(hm:m<=4)(hn:n<=4):∃M x3,yk m n M/\forL (.nm 3) (aP (au fs 59) Nz) (aM 0 n) (some (.bO ns)::some (.int m)::some (lI [])::none::C7) none= .ok (.next,some (.bO ns)::some (.int m)::some (lI M)::x3::C7,none):=by
 have cm:lim=1000000:=rfl;have loop:=bI (S:=none) (tg:=.nm 3) (body:=aP (au fs 59) Nz) (ds:=aM 0 n) (ρ:=some (.bO ns)::some (.int m)::some (lI [])::none::C7)
  (λpre ρ=>∃M x3,yk m pre.length M/\ρ=some (.bO ns)::some (.int m)::some (lI M)::x3::C7) ⟨[],none,⟨rfl,∅⟩,rfl⟩ (by
   rintro pre y post ρ e ⟨M,x3,hM,rfl⟩;obtain⟨h1,rfl⟩:=d8 e;have e1:(pre++[Dt.int pre.length]).length=pre.length+1:=by simp
   generalize pre.length=k at *;have hc:=gA (F:=au fs 59) (cap:=[none,none,some 3,some 1,some 0]) (it:=.rng1 (.var 1)) (e:=.bin .Sub (.bin .Mod (.call 14 (.cons (.var 4) (.cons (.bin .Add (.bin .Add (.con (.int 3)) (.bin .Mult (.var 3) (.var 2))) (.var 1)) .nil)) []) (.con (.int 7))) (.con (.int 3))) (ρ:=some (.bO ns)::some (.int m)::some (lI M)::some (.int k)::C7) (n:=m) (f:=λj=>aC ns (3+m*k+j) % 7-3) (dJ (n:=m) rfl ()) ⋯ () λj hj=>by
    show ev _ _ [none,some (.int j),some (.int k),some (.int m),some (.bO ns)] none=_;have Tq:m*k<=16:=TX (Wz hm (by lia:k<=4)) ⋯;have m1:=aG (i:=(m:Int)) (j:=k) (.inl ());have ec:(3:Int)+(m:Int)*(k:Int)+(j:Int)=((3+m*k+j:Nat):Int):=by rw[Int.natCast_add,Int.natCast_add,U7];rfl
    have c:=cl (N:=60) (ns:=ns) ⋯ (k:=3+m*k+j) ();have md:=bE (i:=aC ns (3+m*k+j)) (j:=7) ⋯;simp only[RX,m1,ec,c,md]
   obtain⟨q,hq⟩:∃q:List Int,q=(List.range m).map λj=>aC ns (3+m*k+j) % 7-3:=⟨_,rfl⟩
   have q1:q.length=m/\∀x∈q,x.natAbs<=3:=by
    rw[hq];refine⟨∅,λx hx=>?_⟩;obtain⟨j,_,rfl⟩:=Us.mp hx;show (aC ns (3+m*k+j) % 7-3).natAbs<=3
    lia
   rw[<-hq]at hc;have t:c9 .tuple [iI q]= .ok (tI q):=rfl;refine⟨_,_,rfl,uk (ds:=M.map tI) (d:=tI q) rfl (by show ev _ _ (some (.bO ns)::some (.int m)::some (lI M)::some (.int k)::C7) none=_;simp only[RX,hc,t]) (by unfold ba;rw[bZ,UT]) (by rw[TU,hM.1];lia) rfl,M++[q],some (.int k),⟨by rw[e1,T6,hM.1];rfl,λz hz=>?_⟩,?_⟩
   ·rcases Uc.mp hz with hz|hz
    ·exact hM.2 z hz
    ·rw[Ur]at hz;rw[hz];exact q1
   ·unfold lI;rw[UC];rfl)
 obtain⟨ρ1,h1,M,x3,hM,rfl⟩:=loop;rw[show (aM 0 n).length=n by simp[aM]]at hM;exact⟨M,x3,hM,h1⟩
theorem Ar:∀R:List (List Int),gj (R.map tI)=true
 |[]=>rfl
 |q::R=>by rw[UB,gj,bZ,Ar R];rfl
theorem DW{M:List (List Int)}{w:List Int}:bQ M (M.map λq=>aa q w) w:=λq hq=>by obtain⟨i,hi,e⟩:=List.mem_iff_getElem.mp hq;rw[List.getElem_zip,List.getElem_map]at e;rw[<-e]
theorem D1{m:Nat}{ns w:List Int}{M:List (List Int)}{x3 x4 x6 x7 x11:Option Dt}(hm:m=3\/m=4)(hM:yk m (m-1) M)(lw:w.length=m)(bw:∀i,i<m->(gI w i).natAbs<=2)(E:fH m M (M.map λq=>aa q w)):
  fin (aP (au fs 59) tL [some (.bO ns),some (.int m),some (lI M),x3,x4,some (iI w),x6,x7,some (lI (a9 m M)),some (lI (kH m M (M.map λq=>aa q w))),none,x11,none] none)= .ok (.bl true,none):=by
 have l:=CV (N:=59) ⋯ () () hM.1 hM.2;have H:=GD hm hM.1 hM.2;have bd:=vQ () () hM.1 hM.2;have N:=GY ns;generalize cL m M m=L at *;by_cases h0:dz L 0=0
 ·rw[W0 h0]at l;exact et (d:=.bg) (by simp only[RX,l]) rfl (bu rfl (aq (by simp only[RX,N])))
 ·rw[WZ h0]at l;have ln:=H.ln h0;have bP:=JO h0 bd;obtain⟨i,hi,ni⟩:=tQ h0;have Z:=H.mz ⟨i,by rw[<-H.len];exact hi,ni⟩;have hP:=λhn=>Z.LJ E.zero ln.len hn ln.CF λk hk=>JP h0 (by rw[H.len];exact hk)
  generalize L.map (·.fdiv (iW L))=P at *;obtain⟨T,T1,T2,T3⟩:=FQ (N:=59) ⋯ lw ln.len () () bw (λx hx=>TX (bP x hx) ⋯) ln.pos;have to:=Ln.to E ln hP (λx=>Z.big E) lw DW T1 T2;have nP:P≠[]:=λz=>by have:=ln.len;rw[z]at this;simp at this;lia
  have mn:c9 .minL [iI P]= .ok (.int (iP P)):=uY nP;obtain⟨n1,n2⟩:=jn P nP;obtain⟨q1,q2⟩:=zj (cJ (T.map (kl w P)));rw[to];refine et (d:=iI P) (by simp only[RX,l]) (by show (_||gj (P.map Dt.int))=true;rw[show gj (P.map Dt.int)=true from bZ P,UT]) (dR rfl (aj (d:=.lst []) rfl rfl ?_));by_cases hn:0<=iP P
  ·have nn:∀i,i<m->0<=gI P i:=λi hi=>Int.le_trans hn (n2 _ (bx (by rw[ln.len];exact hi)))
   rw[ln.least E.zero (hP nn) nn];have q3:cN .NotEq (lI [P]) (.lst [tI P])= .ok false:=(zj [P]).2;have t:c9 .tuple [iI P]= .ok (tI P):=rfl;exact dR (by simp only[RX,mn,Uk hn]) (aj (d:=.lst [tI P]) (by simp only[RX,t]) rfl (bu (by simp only[RX,T3,q2,q3];rfl) (aq (by simp only[RX,N]))))
  ·obtain⟨j,hj,ej⟩:=dX n1;rw[ln.Ae E.zero ⟨j,by rw[<-ln.len];exact hj,()⟩];have q3:cN .NotEq (lI []) (.lst [])= .ok false:=rfl;exact bu (by simp only[RX,mn,Ug hn]) (bu (by simp only[RX,T3,q2,q3];rfl) (aq (by simp only[RX,N])))
theorem law_true:∀ns:List Int,ns.length<=63->∃S,au fs 60 30 [.bO ns] none= .ok (.bl true,S):=λns _=>by
 refine⟨none,ay (body:=Ny) rfl ⋯ rfl ?_⟩;show fin (aP (au fs 59) Ny (some (.bO ns)::none::none::none::C7) none)=_;have cm:lim=1000000:=rfl;have pl:=Hw (N:=59) (ns:=ns) ⋯;have p0:au fs 59 15 [.bO ns,.int 0,.int 5] none=_:=pk (N:=60) ⋯ 0 5 ⋯ ⋯;have p1:au fs 59 15 [.bO ns,.int 1,.int 2] none=_:=pk (N:=60) ⋯ 1 2 ⋯ ⋯;have p2:au fs 59 15 [.bO ns,.int 2,.int 3] none=_:=pk (N:=60) ⋯ 2 3 ⋯ ⋯;generalize b8 ns 0 5=q at p0;have o1:=Aw (i:=(q:Int)) (j:=2) ⋯ ⋯;have o2:=bE (i:=(q:Int)/2) (j:=2) ⋯;obtain⟨m,hm,em⟩:∃m:Nat,(m=3\/m=4)/\(3:Int)+(q:Int)/2 % 2=(m:Int):=⟨3+q/2 % 2,(),()⟩;have e1:(m:Int)-1=((m-1:Nat):Int):=()
 have e5:(5:Int)-(m:Int)=((5-m:Nat):Int):=()
 obtain⟨M0,x3,h0,loop⟩:=DS (m:=m) (n:=m-1) (ns:=ns) () ();have tail:∀M:List (List Int),yk m (m-1) M->fin (aP (au fs 59) tM (some (.bO ns)::some (.int m)::some (lI M)::x3::C7) none)= .ok (.bl true,none):=λM hM=>by
  have hc:=gA (F:=au fs 59) (cap:=[none,none,some 4,some 0]) (it:=.rng1 (.var 1)) (e:=.bin .Sub (.bin .Mod (.call 14 (.cons (.var 3) (.cons (.bin .Add (.con (.int 20)) (.var 1)) .nil)) []) (.bin .Add (.bin .Mult (.con (.int 2)) (.var 2)) (.con (.int 1)))) (.var 2)) (ρ:=[some (.bO ns),some (.int m),some (lI M),x3,some (.int ((5-m:Nat):Int)),none,none,none,none,none,none,none,none]) (n:=m) (f:=λj=>aC ns (20+j) % (2*((5-m:Nat):Int)+1)-((5-m:Nat):Int)) (dJ (n:=m) rfl ()) ⋯ () λj hj=>by
   show ev _ _ [none,some (.int j),some (.int ((5-m:Nat):Int)),some (.bO ns)] none=_;have m1:=aG (i:=2) (j:=((5-m:Nat):Int)) (.inl ⋯);have ec:(20:Int)+(j:Int)=((20+j:Nat):Int):=()
   have c:=cl (N:=60) (ns:=ns) ⋯ (k:=20+j) ();have md:=bE (i:=aC ns (20+j)) (j:=2*((5-m:Nat):Int)+1) ();simp only[RX,m1,ec,c,md]
  obtain⟨w,hw⟩:∃w:List Int,w=(List.range m).map λj=>aC ns (20+j) % (2*((5-m:Nat):Int)+1)-((5-m:Nat):Int):=⟨_,rfl⟩
  have lw:w.length=m:=by rw[hw];simp
  have bw:∀x∈w,x.natAbs<=5-m:=λx hx=>by
   rw[hw]at hx;obtain⟨j,_,rfl⟩:=Us.mp hx;have a1:=Uv (aC ns (20+j)) (b:=2*((5-m:Nat):Int)+1) ();have a2:=Uw (aC ns (20+j)) (b:=2*((5-m:Nat):Int)+1) ();show (aC ns (20+j) % (2*((5-m:Nat):Int)+1)-((5-m:Nat):Int)).natAbs<=5-m
   lia
  rw[<-hw]at hc;have E:fH m M (M.map λq=>aa q w):=⟨(),(),by rw[hM.1];lia,∅,λq hq=>(hM.2 q hq).1,λq hq=>(hM.2 q hq).2,λx hx=>by
   obtain⟨q,hq,rfl⟩:=Us.mp hx;refine TX (pT (hM.2 q hq).2 bw) ?_;rw[(hM.2 q hq).1];rcases hm with rfl|rfl<;>decide⟩
  have R:=HK (N:=59) (M:=M) (w:=w) ⋯ (by rw[hM.1];lia) () hM.2 lw;obtain⟨D,hD,tD⟩:∃D,d9 D M/\∀{x8 x9 xa xb xc:Option Dt}{ts:Ts}{r},fin (aP (au fs 59) ts [some (.bO ns),some (.int m),some (lI M),x3,some (.int ((5-m:Nat):Int)),some (iI w),some (tI (M.map λq=>aa q w)),some D,x8,x9,xa,xb,xc] none)=r->fin (aP (au fs 59) (.cons (.ifs (.cmp .Eq (.call 15 (.cons (.var 0) (.cons (.con (.int 1)) (.cons (.con (.int 2)) .nil))) []) (.con (.int 0))) (.cons (.asg 7 (.bi .tuple (.cons (.mvr 2) .nil))) .nil) .nil) ts) [some (.bO ns),some (.int m),some (lI M),x3,some (.int ((5-m:Nat):Int)),some (iI w),some (tI (M.map λq=>aa q w)),some (lI M),x8,x9,xa,xb,xc] none)=r:=by
   by_cases h:b8 ns 1 2=0
   ·rw[h]at p1;exact⟨_,d9.tup M,λk=>dR (by simp only[RX,p1];rfl) (aj (d:=.tup (M.map tI)) rfl rfl k)⟩
   ·have:(((b8 ns 1 2:Nat):Int)==0)=false:=WT.mpr ();exact⟨_,d9.lst M,λk=>bu (by simp only[RX,p1,this]) k⟩
  have F1:=(An NX (N:=59) hD ⋯ E.zero).1;have F2:=(KH NX (it:=12) (N:=59) rfl hD ⋯ E).1;obtain⟨P1,P2⟩:=kR E.zero;have G1:=AD (N:=59) ⋯ E.zero (λq hq=>⟨(P1 q hq).1,(P1 q hq).2.1,eY.mpr (P1 q hq).2.2.1⟩) (P2.imp λh=>h.1);have G2:=AD (N:=59) ⋯ E (λq hq=>⟨(fv E hq).1,(fv E hq).2.1,(fv E hq).2.2.1⟩) (q9 E);have z:=sI (N:=59) (M:=M) (e:=.mvr 2) (ρ:=[some (.bO ns),some (.int m),some (lI M),x3,some (.int ((5-m:Nat):Int)),some (iI w),some (tI (M.map λq=>aa q w)),some D,some (lI (a9 m M)),some (lI (kH m M (M.map λq=>aa q w))),none,none,none]) (by rw[hM.1];lia) ⋯ rfl;have tz:c9 .tuple [iI (zeros M.length)]= .ok (tI (zeros M.length)):=rfl;have T:=D1 (ns:=ns) (x3:=x3) (x4:=some (.int ((5-m:Nat):Int))) (x6:=some (tI (M.map λq=>aa q w))) (x7:=some D) (x11:=some (tI (zeros M.length))) hm hM lw (λi hi=>by have:=bw _ (bx (l:=w) (p:=i) ());lia) E;exact aj (d:=.int ((5-m:Nat):Int)) (by simp only[RX,e5]) rfl (aj (d:=iI w) hc rfl (aj (d:=tI (M.map λq=>aa q w)) (by simp only[C7,RX,R]) (by unfold ba;rw[bZ,UT]) (aj (d:=lI M) rfl rfl (tD (aj (d:=lI (a9 m M)) (by simp only[RX,F1]) rfl (aj (d:=lI (kH m M (M.map λq=>aa q w))) (by simp only[RX,F2]) rfl (aj (d:=tI (zeros M.length)) (by simp only[RX,z,tz]) rfl (bu (by simp only[RX,G1,G2];rfl) T))))))))
 refine bu (by simp only[RX,pl];rfl) (aj (d:=.int m) (by simp only[RX,p0,o1,o2,em]) rfl (et (d:=lI []) rfl rfl (bD (ds:=aM 0 (m-1)) (dJ (n:=m-1) (by simp only[RX,e1]) ()) rfl loop ?_)));by_cases hj:m=4/\0<b8 ns 2 3
 ·obtain⟨R,R1,R2⟩:=Gv (N:=59) (ns:=ns) (ch:=(((b8 ns 2 3:Nat):Int)==1)) (M:=M0) ⋯ (by rw[hj.1]at h0;exact h0);have a1:((m:Int)==4)=true:=by rw[hj.1];rfl
  have a2:(0:Int)<((b8 ns 2 3:Nat):Int):=()
  exact dR (by simp only[RX,p2,a1,Uk a2];rfl) (et (d:=lI R) (by simp only[RX,p2,R2]) (by show (_||gj (R.map tI))=true;rw[Ar,UT]) (tail R (by rw[hj.1];exact R1)))
 ·refine bu ?_ (tail M0 h0);by_cases h4:m=4
  ·have a1:((m:Int)==4)=true:=by rw[h4];rfl
   have a2:¬(0:Int)<((b8 ns 2 3:Nat):Int):=λz=>hj ⟨h4,()⟩
   simp only[RX,p2,a1,Ug a2];rfl
  ·have a1:((m:Int)==4)=false:=WT.mpr ();simp only[RX,a1];rfl
end K27
end
section
namespace Rx
open PySem.W L2
theorem bindsN{K:Frag}{fd:FuncData}{ps:List Str}{T:Addr}{o:Obj}{k:Nat}(hk:ps.length=k+1)(hd:fd.defaults= .ref T)(hT:K.lookup T=some o)
  (h1:∀us:List Value,us.length=k->∀s:Shared,s.heap.get? T=some o->BindsTo s fd ⟨us,[]⟩ (ps.zip (us++[.none]))) (h2:∀us:List Value,us.length=k+1->∀s:Shared,s.heap.get? T=some o->BindsTo s fd ⟨us,[]⟩ (ps.zip (us++[]))):
  ∀j,j<=([.bg]:List Dt).length->∃ds,aw ((([.bg]:List Dt).drop j).map p6) ds/\Binds K fd ps ds:=
 FA (v:=.none) rfl (λs us GB hl=>h1 us (by rw[T6,hk]at hl;simpa using hl) s (GB _ _ hT)) λs us GB hl=>h2 us (by rw[Ux,hk]at hl;exact hl) s (GB _ _ hT)
end Rx
end
end Lake
section
namespace PySem.W.Fast
def tw2292796726983650215:=0
def tw15475327241870327205:=0
def tw10553492520797907973:=0
def tw16037705141064798245:=0
def tw11464076901852469756:=0
def tw10301043245666034273:=0
def tw8321464992325285163:=0
def tw11296692669217010423:=0
def tw6155088355082368450:=0
def tw4250286643747661571:=0
def tw10177452673986295074:=0
def tw3408225970464013700:=0
def tw5303487930060773754:=0
def tw2937864096412197244:=0
def tw15461083386387422425:=0
def tw13452588238362995888:=0
def tw4871403710433344076:=0
def tw2447914901814824731:=0
def tw12791911841878028172:=0
def tw5206513486767686570:=0
def tw12702973402365603742:=0
def tw2138675094904472817:=0
def tw13518817569429303553:=0
def tw11096986578169572692:=0
def tw9918342137301334598:=0
def tw16326818317165551839:=0
def tw140289847347553649:=0
def tw6537483553368701723:=0
def tw4735562110987151589:=0
def tw15101049149631173380:=0
def tw6922296743836558736:=0
def tw2418278629847130001:=0
def tw2780140704455230849:=0
def tw12853059035313127065:=0
def tw12484048919316654767:=0
def tw1961970062026421477:=0
def tw14125473159268063780:=0
def tw12977986867310053501:=0
def tw10930922995860558247:=0
def tw14182248948659796298:=0
def tw17261117928721296244:=0
def tw4230768955003868398:=0
def tw17264040712527169705:=0
def tw11287572660811165442:=0
def tw4893459852995328886:=0
def tw16718647720031702207:=0
def tw11630750652425583769:=0
def tw5435625192760852884:=0
def tw15049889784986943788:=0
def tw7518495484005783546:=0
def tw15015025524654287736:=0
def tw7699539444279046860:=0
def tw16417455182622894293:=0
def tw8648253887834112015:=0
def tw12942212142627070682:=0
def tw16021244861758602155:=0
def tw5390057750047248338:=0
def tw2250973837102503855:=0
def tw562568423628933904:=0
def tw8484821977260588460:=0
def tw14362293421220660148:=0
def tw14835025499244639416:=0
def tw17828149289460884986:=0
def tw17976102260916433981:=0
def tw13144748246486740521:=0
def tw16696456050276951650:=0
def tw7481180595709890272:=0
def tw11730424220751259996:=0
def tw4131063556714031963:=0
def tw16783692914750649143:=0
def tw17002445650133209395:=0
def tw16065152692047370745:=0
def tw1327581090845752966:=0
def tw1132686428303029362:=0
def tw9119159202144830035:=0
def tw11873249155631223257:=0
def tw5312464251808460666:=0
def tw2442516967047152296:=0
def tw226204705364868659:=0
def tw5646197325043313867:=0
def tw2153705317614265747:=0
def tw732526822711793089:=0
def tw6339015939121440009:=0
def tw5050518941931440134:=0
def tw6892034937515586114:=0
def tw16095337588262383960:=0
def tw1337188593643045966:=0
def tw7777486859374870139:=0
def tw9580242148293807550:=0
def tw13914051529849454690:=0
def tw4612037836547875085:=0
def tw5658773324102672567:=0
def tw12966953560833631185:=0
def tw4800390199177004510:=0
def tw9510971416982376875:=0
def tw4693211531234869231:=0
def tw4290043831253399487:=0
def tw11966229917764235697:=0
def tw5168862829711810299:=0
def tw12775262257530530310:=0
def tw3792749911569043976:=0
def tw16938943296248268281:=0
def tw12473589227376264482:=0
def tw15768685701200627909:=0
def tw6368588781359840388:=0
def tw18409671533976762853:=0
def tw15249579507773064688:=0
def tw2547238207160751026:=0
def tw10625952262200897355:=0
def tw15247552708080153625:=0
def tw442504672578613957:=0
def tw2233778277010234445:=0
def tw17505217716721550552:=0
def tw15250816702505276096:=0
def tw9746739210674688831:=0
def tw8954888705747084921:=0
def tw5161144982286397189:=0
def tw11666873392748756928:=0
def tw603117010534076750:=0
def tw5878286806509767385:=0
def tw1871500127441422772:=0
def tw1023979259091614067:=0
def tw917470152343027917:=0
def tw5544303353826960616:=0
def tw6673663331499958203:=0
def tw3154393645690630115:=0
def tw215528881464394167:=0
def tw777864211991545914:=0
def tw917453455117709921:=0
def tw2112171562239512036:=0
def tw12868831495263768259:=0
def tw15369575776481096137:=0
def tw2317876129453835296:=0
def tw17678468187006213418:=0
def tw13069651695239759022:=0
def tw1703206378671836452:=0
def tw15342842606812111963:=0
def tw8012128018401912375:=0
def tw12409083897423832857:=0
def tw6472296291614353496:=0
def tw10794766208186598639:=0
def tw7039260577021050574:=0
def tw12745696200924894896:=0
def tw15523098789782328723:=0
def tw869467730006119203:=0
end PySem.W.Fast
open PySem PySem.W PyProof.Rows Lake.Rx
set_option maxHeartbeats 0 in
theorem PySem.Challenge.cw_mixform_k27_lines_of_solutions_holds : PySem.Challenge.rw_mixform_k27_lines_of_solutions.Holds := by
 w_on;o_law;k_head;(case hw=>w_witness2)
 k_fill
 refine walkR (k:=60) (l:=PySem.Challenge.rw_mixform_k27_lines_of_solutions) rfl rfl ⟨rfl,by decide,by decide⟩ (λw h Y=>kIn_of Y) ?F
 case F=>
  intro w mg fa h KX G hmg;refine law_mk (rs:=Lake.K27.rows) (cons:=Lake.K27.cons) (bls:=Lake.K27.bls) (xs:=Lake.K27.xs) (L:=30) (n:=59) KX G hmg rfl Lake.K27.hok Lake.K27.hfs (λs v _ _ _ _ _ _=>.of_eq rfl) Lake.K27.law_true ?B ?C ?D ?E
  case B=>exact⟨by k_is,by k_is,by k_is,by k_is,by k_is,by k_is,by k_is,by k_is,by k_is,by k_is,by k_is,by k_is,by k_is,by k_is,by k_is,by k_is,trivial⟩
  case C=>exact⟨⟨_,by k_is,rfl,by first|rfl|exact⟨_,rfl⟩⟩,⟨_,by k_is,rfl,by first|rfl|exact⟨_,rfl⟩⟩,⟨_,by k_is,rfl,by first|rfl|exact⟨_,rfl⟩⟩,⟨_,by k_is,rfl,by first|rfl|exact⟨_,rfl⟩⟩,trivial⟩
  case D=>
   refine⟨?_,?_,?_,?_,?_,?_,?_,?_,?_,?_,?_,?_,?_,?_,?_,?_,?_,?_,?_,?_,?_,?_,?_,?_,?_,?_,?_,?_,?_,?_,?_,trivial⟩
   rotate_left 1
   ·refine⟨_,_,.ref _,_,_,_,_,_,_,_,_,by k_is,by k_is,by k_is,by k_is,nofun,bindsN (k:=2) rfl (by rfl) (by k_is) ?_ ?_⟩
    ·exact lenS λ_=>lenS λ_=>len0 λs h=>BindsTo.of_defaults rfl h rfl rfl rfl
    ·exact lenS λ_=>lenS λ_=>lenS λ_=>len0 λs h=>BindsTo.of_defaults rfl h rfl rfl rfl
   rotate_right 1
   all_goals exact⟨_,_,_,_,_,_,_,_,_,_,_,by k_is,by k_is,by k_is,by k_is,λ_=>rfl,binds0 (by repeat first|exact len0 rfl|refine lenS λ_=>?_)⟩
  case E=>exact rfl
end