import PyProof.Rows.All
import Wide.All
import OpenK.AllK
import Wide.FinOn
import Lean
import PyProof.EqAt
import PyProof.EqKinds
import PyProof.TupleCall
import KE.KUnpack
import PyProof.StrWalks
import PyProof.Rows.Range3
import PyProof.NeKinds
import PyProof.FactsAll.tuple_2
import PyProof.WalksMore
import KE.KIntText
import PyProof.AttrMissHeap
import KE.KDictOf
import PyProof.ExcBaseAll.ValueError
import KE.KTryMore
import PyProof.Rows.CallKwBuiltin
import KE.IntTextLaws
import PySem.Challenge.RW_mixform_k13_read_as_written
set_option Elab.async false
set_option linter.all false
set_option maxRecDepth 100000
set_option maxHeartbeats 4000000
set_option bootstrap.genMatcherCode false
set_option genSizeOf false
set_option genInjectivity false
set_option compiler.extract_closed false
local macro_rules|`(#[$a,$b,*])=>`(⟨$a,$b,*⟩)
local macro_rules(kind:=Lean.Parser.Command.declaration)|s=>if s.getPos?.isSome then pure ((if s[0].getPos?.isNone∧(s[1][0].isToken "def"∨s[1][0].isToken "abbrev")then s.modifyArg 0 (·.setArg 4 (.node .none `null #[.node .none `Lean.Parser.Command.noncomputable #[.atom .none "noncomputable"]]))else s).rewriteBottomUp (·.setInfo .none))else Lean.Macro.throwUnsupported
local macro_rules(kind:=Lean.Parser.Command.mutual)|s=>if s.getPos?.isSome then pure (s.rewriteBottomUp (·.setInfo .none))else Lean.Macro.throwUnsupported
local macro_rules|`(⋯)=>`(by lia)
open Option renaming some→U,none→y'
open Bool renaming true→B',false→G'
namespace Lake
section
open PySem PySem.W PySem.Spec PyProof.Rows
def Td:=@wpAny_bind
def Te:=@Option.bind_eq_some_iff
def Tf:=@Heap.get?_push_of_some
def Th:=@wpAny_pure
def Ti:=@Bool.and_eq_true
def Tj:=@List.size_toArray
def Tn:=@of_decide_eq_true
def To:=@List.getElem?_eq_some_iff
def Tp:=@List.mem_cons_of_mem
def Tq:=@kasC_bind
def Tr:=@Nat.le_refl
def Tt:=@List.mem_cons_self
def Tu:=@Heap.get?_push_size
def Tv:=@kasC_pure
def Tw:=@List.length_map
def Tx:=@Heap.lt_size
def Tz:=@Nat.le_trans
def TC:=@List.mem_cons
def TF:=@List.not_mem_nil
def TH:=@List.append_assoc
def TJ:=@Option.map_eq_some_iff
def TK:=@List.length_append
def TL:=@List.getElem?_set_ne
def TN:=@List.length_cons
def TQ:=@List.getElem?_map
def TR:=@Array.length_toList
def TU:=@Nat.lt_of_lt_of_le
def TV:=@List.mem_append
def TY:=@eq_of_beq
def TZ:=@List.getElem?_eq_getElem
def T1:=@decide_eq_false
def T2:=@List.lookup_cons
def T3:=@KeyOrd.kle_trans
def T4:=@Heap.get?_update_other
def T5:=@decide_eq_true
def T6:=@Heap.size_push
def T7:=@Nat.ne_of_lt
def T8:=@List.mem_append_right
def T9:=@wpAny_setField_rec
def Ua:=@List.mem_singleton
def Ub:=@List.mem_map
def Uc:=@List.all_eq_true
def Ud:=@List.any_eq_true
def Ue:=@Int.emod_nonneg
def Ug:=@Int.emod_lt_of_pos
def Uh:=@List.append_nil
def Ui:=@Bool.or_eq_true
def Uj:=@List.getElem?_append_left
def Uk:=@List.getElem?_append_right
def Ul:=@List.map_cons
def Um:=@List.map_append
def Uo:=@List.getElem?_set_self
def Uq:=@List.mem_range
def Ur:=@Array.eq_empty_of_size_eq_zero
def Us:=@Array.getD_eq_getD_getElem?
def Ut:=@Array.toList_append
def Uu:=@Array.toList_extract
def Uv:=@Array.toList_inj
def Uw:=@Array.toList_reverse
def Ux:=@Bool.and_false
def Uy:=@Bool.and_true
def Uz:=@Bool.eq_iff_iff
def UA:=@Bool.false_eq_true
def UB:=@Bool.false_ne_true
def UC:=@Bool.not_eq_true'
def UD:=@Bool.or_eq_true_iff
def UE:=@Bool.or_true
def UF:=@F.args_tuple_iterator_next_1
def UG:=@F.entry_tuple_iterator_next
def UH:=@F.slot_tuple_iterator_next
def UI:=@F.slot_zip_next
def UJ:=@Int.natCast_add
def UK:=@Int.sub_zero
def UL:=@Int.toNat_natCast
def UM:=@KeyOrd.kle_of_klt
def UN:=@KeyOrd.kle_refl
def UO:=@KeyOrd.klt_of_kle_of_klt
def UP:=@KeyOrd.klt_of_klt_of_kle
def UQ:=@List.Perm.append_left
def UR:=@List.Perm.refl
def US:=@List.all_cons
def UT:=@List.cons_append
def UU:=@List.dropLast_concat_getLast
def UV:=@List.drop_eq_getElem_cons
def UW:=@List.drop_of_length_le
def UX:=@List.drop_sublist
def UY:=@List.filterMap_cons
def UZ:=@List.forIn_cons
def U0:=@List.getD_eq_getElem?_getD
def U1:=@List.getElem?_replicate
def U2:=@List.getElem?_set
def U3:=@List.getElem?_take_of_lt
def U4:=@List.getElem_mem
def U5:=@List.getElem_of_mem
def U6:=@List.getElem_toArray
def U7:=@List.length_drop
def U8:=@List.length_nil
def U9:=@List.length_range
def Va:=@List.length_range'
def Vb:=@List.length_replicate
def Vc:=@List.length_set
def Vd:=@List.length_singleton
def Ve:=@List.length_take
def Vf:=@List.map_congr_left
def Vg:=@List.map_map
def Vh:=@List.map_nil
def Vi:=@List.mem_append_left
def Vj:=@List.mem_filterMap
def Vk:=@List.mem_iff_getElem?
def Vl:=@List.mem_of_getElem?
def Vm:=@List.mem_of_mem_take
def Vn:=@List.nil_append
def Vo:=@List.nodup_cons
def Vp:=@List.of_mem_zip
def Vq:=@List.pairwise_append
def Vr:=@List.pairwise_iff_getElem
def Vs:=@List.pairwise_map
def Vt:=@List.perm_append_comm
def Vu:=@List.take_append_drop
def Vv:=@List.take_of_length_le
def Vw:=@List.take_sublist
def Vx:=@List.take_succ_cons
def Vy:=@List.zipIdx_cons
def Vz:=@List.zip_cons_cons
def VA:=@List.zip_nil_left
def VB:=@List.zip_nil_right
def VC:=@Nat.le_of_lt
def VD:=@Nat.le_succ
def VE:=@Nat.lt_irrefl
def VF:=@Nat.lt_succ_of_lt
def VG:=@Nat.lt_succ_self
def VH:=@Nat.mul_le_mul_right
def VI:=@Nat.ne_of_gt
def VJ:=@Nat.zero_add
def VL:=@Nat.zero_le
def VM:=@Ne.symm
def VN:=@Option.some.inj
def VO:=@PyProof.Rows.callWith_type1
def VP:=@PyProof.Rows.slot_tuple_getitem
def VQ:=@PySem.F.args_tuple_add_2
def VR:=@PySem.F.entry_tuple_add
def VS:=@PySem.F.slot_tuple_add
def VT:=@PySem.W.cellsFrom_some
def VU:=@PySem.W.kia_one
def VV:=@PySem.mem_of_lookup
def VW:=@beq_eq_false_iff_ne
def VX:=@beq_self_eq_true
def VY:=@congrArg
def VZ:=@decide_eq_true_eq
def V0:=@if_false
def V1:=@if_neg
def V2:=@if_pos
def V3:=@if_true
def V4:=@kasC_get
def V5:=@kasC_lift
def V6:=@kasC_modify
def V7:=@kasC_range
def V8:=@noFill_tuple_add
def V9:=@of_decide_eq_false
def Wa:=@or_false
def Wb:=@pushCells_keeps
def Wc:=@sizeLine_eq
def Wd:=@wpAny_Call_Name_kw
def We:=@wpAny_callSpecial?_slot
def Wf:=@wpAny_call_entry
def Wg:=@wpAny_field
def Wh:=@wpAny_holding
def Wi:=@wpAny_mono
def Wj:=@wpAny_newObj_type
def Wl:=@wpAny_onRaise
def Wm:=@wpAny_passesOwn
def Wn:=@wpAny_pyIter_list
def Wo:=@wpAny_pyIter_tuple
def Wp:=@wpAny_rule
def Wq:=@wpAny_seqItems
def Wr:=@wpAny_standAt
def Ws:=@wpAny_truthy_bool
def Wt:=@wpAny_typeOf
def Wu:=@wpAny_updateSeq_pair
end
section
namespace L2
open PySem PySem.Spec PyProof.Rows
abbrev Key:=Sum Int Str
def DK:Key->Value->Bool
 |.inl k,v=>Value.isInt k v
 |.inr x,v=>Value.isStrOf x v
def Ol(w:World):Key->Int
 |.inl k=>hashInt k
 |.inr x=>hashStr w x
theorem a9:∀{k:Key}{v:Value},DK k v=B'->(∃i t,k=Sum.inl i/\v=Value.int i t)\/(∃x t,k=Sum.inr x/\v=Value.str x t)
 |.inl i,v,h=>by obtain⟨t,e⟩:=Value.isInt_shape (k:=i) (v:=v) h;exact .inl #[i,t,rfl,e]
 |.inr x,v,h=>by obtain⟨t,e⟩:=Value.isStrOf_shape (x:=x) (v:=v) h;exact .inr #[x,t,rfl,e]
theorem FC(a b:Int):decide ((Sum.inl a:Key)=Sum.inl b)=(a==b):=by
 by_cases e:a=b
 ·subst e;simp
 ·have h:¬(Sum.inl a:Key)=Sum.inl b:=λq=>e (Sum.inl.inj q)
  rw[T1 h];exact(VW.mpr e).symm
theorem FF(a b:Str):decide ((Sum.inr a:Key)=Sum.inr b)=decide (a=b):=by
 by_cases e:a=b
 ·subst e;simp
 ·have h:¬(Sum.inr a:Key)=Sum.inr b:=λq=>e (Sum.inr.inj q)
  rw[T1 h,T1 e]
theorem FD(a:Int)(b:Str):decide ((Sum.inl a:Key)=Sum.inr b)=G':=T1 (λq=>nomatch q)
theorem FE(a:Str)(b:Int):decide ((Sum.inr a:Key)=Sum.inl b)=G':=T1 (λq=>nomatch q)
def og(prog:Program)(w:World):PySem.KeyKind prog w Key where
 is:=DK
 hash:=Ol w
 inj:=λv a b ha hb=>by
  rcases a9 ha with ⟨i,t,rfl,rfl⟩|⟨x,t,rfl,rfl⟩
  ·rcases a9 hb with ⟨j,u,rfl,e⟩|⟨y,u,rfl,e⟩
   ·injection e with e1 _;rw[e1]
   ·exact nomatch e
  ·rcases a9 hb with ⟨j,u,rfl,e⟩|⟨y,u,rfl,e⟩
   ·exact nomatch e
   ·injection e with e1 _;rw[e1]
 byValue:=λk v h=>by rcases a9 h with ⟨i,t,rfl,rfl⟩|⟨x,t,rfl,rfl⟩<;>rfl
 pyHash:=λhv h=>by
  rcases a9 hv with ⟨i,t,rfl,rfl⟩|⟨x,t,rfl,rfl⟩
  ·exact wpAny_pyHash_int h
  ·exact wpAny_pyHash_str h
 eqBool:=λhu hv h=>by
  rcases a9 hu with ⟨i,t,rfl,rfl⟩|⟨x,t,rfl,rfl⟩
  ·rcases a9 hv with ⟨j,u,rfl,rfl⟩|⟨y,u,rfl,rfl⟩
   ·rw[FC]at h;exact wpAny_eqBool_int h
   ·rw[FD]at h;exact SeqAt.EqAt.int_str i t y u _ _ _ _ h
  ·rcases a9 hv with ⟨j,u,rfl,rfl⟩|⟨y,u,rfl,rfl⟩
   ·rw[FE]at h;exact SeqAt.EqAt.str_int x t j u _ _ _ _ h
   ·rw[FF]at h;exact wpAny_eqBool_str h
 «strs»:=λk x t v h=>by
  rcases a9 h with ⟨i,u,rfl,e⟩|⟨y,u,rfl,e⟩
  ·exact nomatch e
  ·injection e with e1 _;subst e1;cases v<;>rfl
end L2
namespace L2
open PySem PySem.Spec PyProof.Rows
inductive V where
 |aE|bl (b:Bool)|int (i:Int)|str (x:Str)|EB (b:Array UInt8)|A5 (b:UInt64)|ref (a:Addr)|ty (n:String)
 deriving DecidableEq
def RelV:V->Value->Prop
 |.aE,u=>u=Value.none
 |.bl b,u=>u=Value.bool b
 |.int i,u=>∃t,u=Value.int i t
 |.str x,u=>∃t,u=Value.str x t
 |.EB b,u=>∃t,u=Value.bytes b t
 |.A5 b,u=>∃t,u=Value.float b t
 |.ref a,u=>u=Value.ref a
 |.ty n,u=>u=Value.type n
abbrev ay:List V->List Value->Prop:=Paired RelV
theorem ay.length{xs:List V}{us:List Value}(r:ay xs us):xs.length=us.length:=Paired.length r
theorem ay.get:∀{xs:List V}{us:List Value}{i:Nat}{x:V},ay xs us->xs[i]?=U x->∃u,us[i]?=U u/\RelV x u
 |_,_,_,_,.nil,e=>by simp at e
 |_,_,0,_,.cons r _,e=>by simp at e;subst e;exact#[_,rfl,r]
 |_,_,i+1,x,.cons _ t,e=>by obtain⟨u,h1,h2⟩:=ay.get (i:=i) (x:=x) t (by simpa using e);exact#[u,by simpa using h1,h2]
theorem ay.set{x:V}{u:Value}(r:RelV x u):∀{xs:List V}{us:List Value}(i:Nat),ay xs us->ay (xs.set i x) (us.set i u)
 |_,_,_,.nil=>.nil
 |_,_,0,.cons _ t=>.cons r t
 |_,_,i+1,.cons q t=>.cons q (ay.set r i t)
theorem ay.append:∀{xs ys:List V}{us ws:List Value},ay xs us->ay ys ws->ay (xs++ys) (us++ws)
 |_,_,_,_,.nil,s=>s
 |_,_,_,_,.cons r t,s=>.cons r (ay.append t s)
theorem ay.take:∀{xs:List V}{us:List Value}(n:Nat),ay xs us->ay (xs.take n) (us.take n)
 |_,_,0,_=>.nil
 |_,_,_+1,.nil=>.nil
 |_,_,n+1,.cons r t=>.cons r (ay.take n t)
theorem ay.drop:∀{xs:List V}{us:List Value}(n:Nat),ay xs us->ay (xs.drop n) (us.drop n)
 |_,_,0,r=>r
 |_,_,_+1,.nil=>.nil
 |_,_,n+1,.cons _ t=>ay.drop n t
def Ei:Option V->Option Value->Prop
 |some v,U u=>RelV v u
 |none,y'=>True
 |_,_=>False
def KV{κ:Type}:List (κ×V)->List (κ×Value)->Prop:=Paired λ(p:κ×V)(q:κ×Value)=>p.1=q.1/\RelV p.2 q.2
def kV:Key->V
 |.inl i=>.int i
 |.inr x=>.str x
inductive HO where
 |lst (xs:List V)
 |tup (xs:List V)
 |dK (cT:List (Key×V))|dT (cT:List (List Key×V))
 |set (S:Int->Bool) (n:Nat)
 |ins (C dx:Addr) (fs:List (Str×V))
 |own (x:Addr)
 |xd (fs:List (Str×V))
 |met (f x:Addr)
 |OO (lo hi:Int)
 |ud (o:Obj) (u:HO)
 |sV (ps:Array Value)
 |ext (φ:Heap->Prop)
abbrev Hp:=Addr->Option HO
def upd(H:Hp)(a:Addr)(o:HO):Hp:=λb=>if b=a then U o else H b
theorem aJ{H:Hp}{a:Addr}{o:HO}:upd H a o a=U o:=by unfold upd;rw[V2 rfl]
theorem aG{H:Hp}{a b:Addr}{o:HO}(h:b≠a):upd H a o b=H b:=by unfold upd;rw[V1 h]
theorem aY{H:Hp}{a b:Addr}{o:HO}(h:H a=U o)(h':H b=y'):a≠b:=by intro e;subst e;rw[h]at h';cases h'
def pe(h:Heap)(a:Addr)(items:Array Value):Prop:=∃o,h.get? a=U o/\o.cls= .type "tuple"/\∃n,o.data= .seq items n/\o.dict=y'/\o.slots=#[]
theorem pe.is{h:Heap}{a:Addr}{items:Array Value}:pe h a items->IsTup h a items
 |#[o,a,b,n,c,_]=>#[o,a,b,n,c]
theorem pe.new(h:Heap)(items:Array Value):pe (h.push {cls:=.type "tuple",data:=.seq items}) h.objs.size items:=#[_,Tu _ rfl,rfl,_,rfl,rfl,rfl]
section
variable(P:Program)(w:World)
def bR(H:Hp)(h:Heap)(a:Addr):HO->Prop
 |.lst xs=>xs.length<=sizeLine/\∃(its:List Value)(n:Nat),ay xs its/\h.get? a=U {cls:=.type "list",data:=.seq its.toArray n}
 |.tup xs=>xs.length<=sizeLine/\∃its:List Value,ay xs its/\pe h a its.toArray
 |.dK cT=>cT.length<=sizeLine/\(a==sysModules)=G'/\∃vs,KV cT vs/\h.DictOf (og P w) a vs
 |.dT cT=>cT.length<=sizeLine/\(a==sysModules)=G'/\∃xs:List (List Key×Addr×Value),
   Paired (λ(p:List Key×V)(q:List Key×Addr×Value)=>p.1=q.1/\H q.2.1=U (.tup (p.1.map kV))/\RelV p.2 q.2.2) cT xs/\
   ∃o es ep,h.get? a=U o/\o.ExactDict/\o.data= .dict es ep/\es.toList=xs.map (entryOfKey (tupleKind (og P w)))/\(xs.map (·.1)).Nodup
 |.set S n=>h.SetOf (intKind P w) a S n
 |.ins C dx fs=>H dx=U (.own a)/\fs.length<=1000/\dx≠a/\h.get? a=U (PySem.W.instObj C dx)/\
   ∃mA,h.Ns1 dx mA/\(∀f,Ei (fs.lookup f) (mA f))/\PySem.Within mA (fs.map (·.1))
 |.own _=>∃o,h.get? a=U o
 |.xd fs=>∃mA,h.Ns1 a mA/\∀f,Ei (fs.lookup f) (mA f)
 |.OO lo hi=>∃t u v,h.get? a=U {cls:=.type "range",data:=.fields [.int lo t,.int hi u,.int 1 v].toArray}
 |.ud o u=>h.get? a=U o/\bR H h a u
 |.sV ps=>h.get? a=U {cls:=.none,data:=.fields ps}
 |.met f x=>h.get? a=U (PySem.W.methodObj (.ref f) (.ref x))
 |.ext φ=>φ h/\(∃o,h.get? a=U o)/\∀h1 h2:Heap,φ h1->(∀o,h1.get? a=U o->h2.get? a=U o)->φ h2
def dN(H:Hp)(h:Heap):Prop:=∀a o,H a=U o->bR P w H h a o
end
section
variable{P:Program}{w:World}{H H':Hp}{h h':Heap}{a:Addr}{o:HO}
theorem bR.lt(x:bR P w H h a o):a<h.objs.size:=by
 cases o with
 |lst xs=>obtain⟨_,_,_,_,e⟩:=x;exact Tx e
 |tup xs=>obtain⟨_,_,_,p⟩:=x;exact p.is.lt
 |dK cT=>obtain⟨_,_,_,_,o,_,_,e,_⟩:=x;exact Tx e
 |dT cT=>obtain⟨_,_,_,_,o,_,_,e,_⟩:=x;exact Tx e
 |set S n=>obtain⟨o,_,_,_,e,_⟩:=x;exact Tx e
 |ins C dx fs=>obtain⟨_,_,_,e,_⟩:=x;exact Tx e
 |own y=>obtain⟨_,e⟩:=x;exact Tx e
 |xd fs=>obtain⟨_,⟨_,_,_,e,_⟩,_⟩:=x;exact Tx e
 |OO lo hi=>obtain⟨_,_,_,e⟩:=x;exact Tx e
 |ud ob u=>obtain⟨e,_⟩:=x;exact Tx e
 |sV ps=>exact Tx (show h.get? a=U _ from x)
 |met f y=>exact Tx (show h.get? a=U _ from x)
 |ext φ=>obtain⟨_,⟨_,e⟩,_⟩:=x;exact Tx e
theorem Paired.J5{α β:Type}{F G:α->β->Prop}:∀{l₁:List α}{l₂:List β},Paired F l₁ l₂->(∀a b,F a b->G a b)->Paired G l₁ l₂
 |_,_,.nil,_=>.nil
 |_,_,.cons r t,f=>.cons (f _ _ r) (Paired.J5 t f)
theorem bR.oQ(x:bR P w H h a o)(k:∀b u,(b=a\/H b=U (.own a))->h.get? b=U u->h'.get? b=U u)
  (ho:∀b,H b=U (.own a)->H' b=U (.own a)) (ht:∀b xs,H b=U (.tup xs)->H' b=U (.tup xs)):bR P w H' h' a o:=by
 induction o with
 |lst xs=>obtain⟨z,its,n,r,e⟩:=x;exact#[z,its,n,r,k _ _ (.inl rfl) e]
 |tup xs=>obtain⟨z,its,r,ob,e,c⟩:=x;exact#[z,its,r,ob,k _ _ (.inl rfl) e,c]
 |dK cT=>obtain⟨z,y,vs,r,ob,es,ep,e,c⟩:=x;exact#[z,y,vs,r,ob,es,ep,k _ _ (.inl rfl) e,c]
 |dT cT=>obtain⟨z,y,xs,r,ob,es,ep,e,c⟩:=x;exact#[z,y,xs,Paired.J5 r λp q z=>#[z.1,ht _ _ z.2.1,z.2.2],ob,es,ep,k _ _ (.inl rfl) e,c]
 |set S n=>obtain⟨ob,es,ep,t,e,c⟩:=x;exact#[ob,es,ep,t,k _ _ (.inl rfl) e,c]
 |ins C dx fs=>obtain⟨d,z,ne,e,mA,⟨od,es,ep,e2,c⟩,r⟩:=x;exact#[ho _ d,z,ne,k _ _ (.inl rfl) e,mA,#[od,es,ep,k _ _ (.inr d) e2,c],r]
 |own y=>obtain⟨ob,e⟩:=x;exact#[ob,k _ _ (.inl rfl) e]
 |xd fs=>obtain⟨mA,⟨od,es,ep,e,c⟩,r⟩:=x;exact#[mA,#[od,es,ep,k _ _ (.inl rfl) e,c],r]
 |OO lo hi=>obtain⟨t,u,v,e⟩:=x;exact#[t,u,v,k _ _ (.inl rfl) e]
 |ud ob u ih=>obtain⟨e,q⟩:=x;exact#[k _ _ (.inl rfl) e,ih q]
 |sV ps=>have e:h.get? a=U {cls:=.none,data:=.fields ps}:=x;show h'.get? a=U {cls:=.none,data:=.fields ps};exact k a _ (.inl rfl) e
 |met f y=>have e:h.get? a=U (PySem.W.methodObj (.ref f) (.ref y)):=x;show h'.get? a=U (PySem.W.methodObj (.ref f) (.ref y));exact k a _ (.inl rfl) e
 |ext φ=>obtain⟨p,⟨o,e⟩,st⟩:=x;exact#[st _ _ p λo q=>k _ _ (.inl rfl) q,#[o,k _ _ (.inl rfl) e],st]
theorem dN.lt(x:dN P w H h)(e:H a=U o):a<h.objs.size:=(x a o e).lt
theorem dN.fresh(x:dN P w H h)(e:h.objs.size<=a):H a=y':=by
 cases q:H a with
 |none=>rfl
 |some u=>exact absurd (TU (x.lt q) e) (VE _)
theorem dN.kept(x:dN P w H h)(k:∀b u,h.get? b=U u->h'.get? b=U u):dN P w H h':=λa o e=>
 (x a o e).oQ (λb u _ q=>k b u q) (λ_ q=>q) λ_ _ q=>q
theorem dN.laid(x:dN P w H h)(k:∀b u,h.get? b=U u->h'.get? b=U u)(hp:h.objs.size<=a)(new:bR P w (upd H a o) h' a o):dN P w (upd H a o) h':=λb u e=>by
 have hn:=x.fresh hp;by_cases hb:b=a
 ·subst hb;rw[aJ]at e;cases e;exact new
 ·rw[aG hb]at e;exact(x b u e).oQ (λc v _ q=>k c v q) (λc q=>by rw[aG (aY q hn)];exact q) λc xs q=>by rw[aG (aY q hn)];exact q
end
def Rd(H:Hp)(a:Addr)(u:HO):Prop:=H a=U u\/∃o,H a=U (.ud o u)
theorem Rd.ok{P:Program}{w:World}{H:Hp}{h:Heap}{a:Addr}{u:HO}(r:Rd H a u)(x:dN P w H h):bR P w H h a u:=by
 rcases r with r|⟨o,r⟩
 ·exact x a u r
 ·obtain⟨_,q⟩:=x a _ r;exact q
def LK:Option HO->Prop
 |some (.lst _)=>True
 |some (.dK _)=>True
 |some (.dT _)=>True
 |some (.set _ _)=>True
 |some (.ins _ _ _)=>True
 |some (.ext _)=>True
 |_=>False
section
variable{P:Program}{w:World}{H:Hp}{h h':Heap}{x e:Addr}{o':HO}
theorem dN.write(ok:dN P w H h)(mu:LK (H x))(he:e=x\/H e=U (.own x))(k:∀b u,b≠e->h.get? b=U u->h'.get? b=U u)(HZ:∃u,h'.get? e=U u)
  (new:bR P w (upd H x o') h' x o'):dN P w (upd H x o') h':=λb u q=>by
 have Kf:∀c y,H c=U (.own y)->c≠x:=λc y r z=>by subst z;rw[r]at mu;exact mu
 have Oy:∀c xs,H c=U (.tup xs)->c≠x:=λc xs r z=>by subst z;rw[r]at mu;exact mu
 by_cases hb:b=x
 ·subst hb;rw[aJ]at q;cases q;exact new
 ·rw[aG hb]at q;by_cases hbe:b=e
  ·have q':H b=U (.own x):=by
    rcases he with z|z
    ·exact absurd (hbe.trans z) hb
    ·rw[hbe];exact z
   rw[q]at q';cases q';obtain⟨v,hv⟩:=HZ;exact#[v,by rw[hbe];exact hv]
  ·refine(ok b u q).oQ (λc v hc r=>k c v ?_ r) (λc r=>by rw[aG (Kf c b r)];exact r) λc xs r=>by rw[aG (Oy c xs r)];exact r
   rcases hc with rfl|hc
   ·exact hbe
   ·rintro rfl;rcases he with z|z
    ·exact Kf c b hc z
    ·rw[hc]at z;cases z;exact hb rfl
end
structure Un(fs ex:List Addr)(H H':Hp)(h h':Heap):Prop where
 keep:∀b o,h.get? b=U o->H b=y'->b∉fs->b∉ex->h'.get? b=U o
 slot:∀b o,h.get? b=U o->H b=y'->b∈fs->b∉ex->∃sl,h'.get? b=U {o with slots:=sl}
 free:∀b o,h.get? b=U o->H b=y'->b∉ex->H' b=y'
 there:∀b o,h.get? b=U o->b∉ex->∃o',h'.get? b=U o'
 tups:∀b xs,H b=U (.tup xs)->H' b=U (.tup xs)
 frzs:∀b o u,H b=U (.ud o u)->H' b=U (.ud o u)
 tbls:∀b ps,H b=U (.sV ps)->∃more,H' b=U (.sV (ps++more))
section
variable{fs ex:List Addr}{H H1 H2:Hp}{h h1 h2 h':Heap}{a x e:Addr}{o:HO}
theorem Un.any(u:Un fs ex H H1 h h1){b:Addr}{ob:Obj}(q:h.get? b=U ob)(n:H b=y')(hx:b∉ex):∃sl,h1.get? b=U {ob with slots:=sl}:=by
 by_cases hb:b∈fs
 ·exact u.slot b ob q n hb hx
 ·exact#[ob.slots,u.keep b ob q n hb hx]
theorem Un.trans(a:Un fs ex H H1 h h1)(b:Un fs ex H1 H2 h1 h2):Un fs ex H H2 h h2 where
 keep:=λc ob q n hc hx=>b.keep c ob (a.keep c ob q n hc hx) (a.free c ob q n hx) hc hx
 slot:=λc ob q n hc hx=>by obtain⟨sl,e1⟩:=a.slot c ob q n hc hx;obtain⟨KZ,e2⟩:=b.slot c _ e1 (a.free c ob q n hx) hc hx;exact#[KZ,e2]
 free:=λc ob q n hx=>by obtain⟨o',e1⟩:=a.there c ob q hx;exact b.free c o' e1 (a.free c ob q n hx) hx
 there:=λc ob q hx=>by obtain⟨o',e1⟩:=a.there c ob q hx;exact b.there c o' e1 hx
 tups:=λc xs q=>b.tups c xs (a.tups c xs q)
 frzs:=λc ob xs q=>b.frzs c ob xs (a.frzs c ob xs q)
 tbls:=λc ps q=>by obtain⟨m1,e1⟩:=a.tbls c ps q;obtain⟨m2,e2⟩:=b.tbls c _ e1;exact#[m1++m2,by rw[e2,Array.append_assoc]]
theorem Un.kept(k:∀b u,h.get? b=U u->h'.get? b=U u):Un fs ex H H h h':=
 #[λb ob q _ _ _=>k b ob q,λb ob q _ _ _=>#[ob.slots,k b ob q],λ_ _ _ n _=>n,λb ob q _=>#[ob,k b ob q],λ_ _ q=>q,λ_ _ _ q=>q,λ_ ps q=>#[#[],by rw[q];simp]]
theorem Un.refl:Un fs ex H H h h:=Un.kept λ_ _ q=>q
theorem Un.laid(k:∀b u,h.get? b=U u->h'.get? b=U u)(hp:h.objs.size<=a)(hn:H a=y'):Un fs ex H (upd H a o) h h' where
 keep:=λb u q _ _ _=>k b u q
 slot:=λb u q _ _ _=>#[u.slots,k b u q]
 free:=λb u q n _=>by rw[aG (T7 (TU (Tx q) hp))];exact n
 there:=λb u q _=>#[u,k b u q]
 tups:=λb xs q=>by rw[aG (aY q hn)];exact q
 frzs:=λb u xs q=>by rw[aG (aY q hn)];exact q
 tbls:=λb ps q=>#[#[],by rw[aG (aY q hn),q];simp]
theorem Un.write(mu:LK (H x))(he:e=x\/H e=U (.own x))(k:∀b u,b≠e->h.get? b=U u->h'.get? b=U u)(HZ:∃u,h'.get? e=U u):Un fs ex H (upd H x o) h h':=by
 have hx:∀b,H b=y'->b≠x:=λb n z=>by subst z;rw[n]at mu;exact mu
 have hb:∀b,H b=y'->b≠e:=λb n z=>by
  subst z;rcases he with r|r
  ·exact hx b n r
  ·rw[n]at r;cases r
 have hm:∀b u,H b=U u->¬LK (U u)->b≠x:=λb u q nm z=>by subst z;rw[q]at mu;exact nm mu
 refine#[λb u q n _ _=>k b u (hb b n) q,λb u q n _ _=>#[u.slots,k b u (hb b n) q],λb u q n _=>by rw[aG (hx b n)];exact n,λb u q _=>?_,
  λb xs q=>by rw[aG (hm b _ q λz=>z)];exact q,λb u xs q=>by rw[aG (hm b _ q λz=>z)];exact q,λb ps q=>#[#[],by rw[aG (hm b _ q λz=>z),q];simp]]
 by_cases hbe:b=e
 ·subst hbe;exact HZ
 ·exact#[u,k b u hbe q]
end
def Ho(h:Heap)(H:Hp):List Addr:=(List.range h.objs.size).filter λa=>(H a).isSome
def nX(h:Heap)(H:Hp):Heap:=PySem.W.hideAll h (Ho h H)
theorem vY(h:Heap)(H:Hp):(nX h H).objs.size=h.objs.size:=PySem.W.hideAll_size _ _
theorem yY{h:Heap}{H:Hp}{b:Addr}{o:Obj}(e:h.get? b=U o)(n:H b=y'):(nX h H).get? b=U o:=
 PySem.W.hideAll_get _ e λhm=>by have q:(H b).isSome=B':=(List.mem_filter.mp hm).2;rw[n]at q;simp at q
theorem Ck{h:Heap}{H:Hp}{b:Addr}{o:Obj}(e:(nX h H).get? b=U o):h.get? b=U o/\H b=y':=by
 have e':h.get? b=U o:=PySem.W.of_hideAll (Ho h H) e;refine#[e',?_];cases q:H b with
 |none=>rfl
 |some x=>have hm:b∈Ho h H:=List.mem_filter.mpr #[Uq.mpr (Tx e'),by simp[q]];have z:(nX h H).get? b=y':=PySem.W.hideAll_none (Ho h H) hm;rw[z]at e;cases e
end L2
namespace L2
open PySem PySem.Spec PyProof.Rows
structure Mod(K:PySem.W.Frag)(mg:Str->Option Value)(base:Heap):Prop where
 Om:K.In base
 glob:base.Ns mainGlobals mg
 blt:∃mb,base.Ns builtinsNs mb/\∀x:Str,x≠"__name__"->mb x=bootBuiltins x
 nolimit:base.NoLimit
structure Cx where
 prog:Program
 w:World
 K:PySem.W.Frag
 mg:Str->Option Value
 base:Heap
 A:Around
 N:List Str
 s₀:Shared
 H₀:Hp
 env:Env
 outer:List Env
 stack:List Env
 ex:List Addr
 fn:Str->Bool
 calm:Bool
 pn:List (Addr×Obj)
 xe:Value->Shared->Prop
def eD(l:List Env):List Addr:=l.filterMap (·.frame)
abbrev Cx.fs(X:Cx):List Addr:=eD X.outer
def En(sc:Scope)(x:Str):Prop:=sc.names.lookup x=U .local\/sc.names.lookup x=U .cell\/sc.names.lookup x=U .free
def Loc(sc:Scope)(x:Str):Prop:=sc.names.lookup x=U .local\/sc.names.lookup x=U .cell
def Look(env:Env)(h:Heap)(m:Str->Option Value)(x:Str)(u:Value):Prop:=
 (env.kindOf x=U .local/\m x=U u)\/((env.kindOf x=U .cell\/env.kindOf x=U .free)/\∃c,env.cells.lookup x=U c/\h.IsCell c (U u))
structure Cx.Ok(X:Cx):Prop where
 mod:Mod X.K X.mg X.base
 kind:X.env.scope.kind= .function
 glob:X.env.globals=mainGlobals
 blt:X.env.builtins=builtinsNs
 above:X.s₀.heap.objs.size<=X.env.locals
 inj:∀x y c,X.env.cells.lookup x=U c->X.env.cells.lookup y=U c->x=y
 has:∀x,(X.env.kindOf x=U .cell\/X.env.kindOf x=U .free)->∃c,X.env.cells.lookup x=U c
 A0:∀x c,X.fn x=B'->X.env.cells.lookup x=U c->X.s₀.heap.objs.size<=c
 hd:X.calm=B'->X.A.handled=y'
 frames:X.A.frames=U X.stack
 C7:X.stack=X.outer\/(X.stack=X.env::X.outer/\X.env.frame=U X.env.locals)
 DD:∀b∈X.ex,b≠X.env.locals/\∀x c,X.env.cells.lookup x=U c->c≠b
 bs:∀b o,X.base.get? b=U o->X.s₀.heap.get? b=U o/\X.H₀ b=y'
 AZ:X.base.objs.size<=X.s₀.heap.objs.size
 lP:∀b o,X.base.get? b=U o->b∉X.ex
 nL:∀b∈X.ex,b∉X.fs
 gA:X.s₀.heap.FunFrames X.base X.outer
 BJ:∀b∈X.fs,X.H₀ b=y'
structure Inv(X:Cx)(J':List (Addr×Obj))(σ:List (Option V))(H:Hp)(s:Shared):Prop where
 ok:X.Ok
 os:s.os=X.s₀.os
 bare:AllBare s.gens
 base:Un X.fs X.ex X.H₀ H X.s₀.heap s.heap
 loc:∃m,s.heap.Ns X.env.locals m/\∀(i:Nat)(x:Str)(v:V),X.N[i]?=U x->σ[i]?=U (U v)->En X.env.scope x->∃u,RelV v u/\Look X.env s.heap m x u
 cell:∀x c,X.env.cells.lookup x=U c->∃v,s.heap.IsCell c v
 free:H X.env.locals=y'
 cz:∀x c,X.env.cells.lookup x=U c->H c=y'
 pin:∀p∈X.pn++J',s.heap.get? p.1=U p.2/\H p.1=y'/\p.1≠X.env.locals/\p.1∉X.fs/\∀v,p.2.data≠ .cell v
 hok:dN X.prog X.w H s.heap
 len:σ.length=X.N.length
section
variable{X:Cx}{J':List (Addr×Obj)}{σ:List (Option V)}{H H':Hp}{s:Shared}{h':Heap}
theorem Cx.Ok.Ov(ok:X.Ok){b:Addr}{o:Obj}(e:X.base.get? b=U o):b∉X.fs:=λhb=>by have:=(ok.gA.mem hb).1;rw[e]at this;cases this
theorem Inv.bs(I:Inv X J' σ H s):∀b o,X.base.get? b=U o->s.heap.get? b=U o/\H b=y':=λb o e=>
 #[I.base.keep b o (I.ok.bs b o e).1 (I.ok.bs b o e).2 (I.ok.Ov e) (I.ok.lP b o e),I.base.free b o (I.ok.bs b o e).1 (I.ok.bs b o e).2 (I.ok.lP b o e)]
theorem Inv.bk(I:Inv X J' σ H s):∀b o,X.base.get? b=U o->s.heap.get? b=U o:=λb o e=>(I.bs b o e).1
theorem Inv.mod(I:Inv X J' σ H s):Mod X.K X.mg X.base:=I.ok.mod
theorem Inv.jH(I:Inv X J' σ H s):X.K.In s.heap:=I.ok.mod.Om.keeps I.bk
theorem Inv.lt(I:Inv X J' σ H s):X.env.locals<s.heap.objs.size:=let #[_,hn,_]:=I.loc;hn.lt
theorem Inv.sz(I:Inv X J' σ H s):X.s₀.heap.objs.size<=s.heap.objs.size:=Tz I.ok.above (VC I.lt)
theorem Inv.Ox(I:Inv X J' σ H s){a:Addr}(h:s.heap.objs.size<=a):a∉X.fs:=λhb=>by obtain⟨_,o,ho,_⟩:=I.ok.gA.mem hb;exact absurd (TU (Tx ho) (Tz I.sz h)) (VE _)
theorem Inv.EH(I:Inv X J' σ H s):∀x c,X.env.cells.lookup x=U c->c≠X.env.locals:=λx c e z=>by obtain⟨v,o,ho,hd⟩:=I.cell x c e;obtain⟨m,⟨o',es,ep,nY,rE,_⟩,_⟩:=I.loc;rw[z,nY]at ho;cases ho;rw[rE]at hd;cases hd
theorem Inv.gA(I:Inv X J' σ H s):s.heap.FunFrames X.base X.outer:=by
 have all:∀(l:List Env),(∀b∈eD l,b∈X.fs)->X.s₀.heap.FunFrames X.base l->s.heap.FunFrames X.base l:=by
  intro l
  induction l with
  |nil=>intro _ _;trivial
  |cons env r ih=>
   intro hs hl;obtain⟨hk,⟨L,o,hf,hn,ho,hd⟩,hr⟩:=hl;have hL:L∈X.fs:=hs L (by unfold eD;rw[UY,hf];exact Tt);obtain⟨sl,e⟩:=I.base.slot L o ho (I.ok.BJ L hL) hL λz=>I.ok.nL L z hL
   exact#[hk,#[L,_,hf,hn,e,hd],ih (λb hb=>hs b (by unfold eD;rw[UY,hf];exact Tp _ hb)) hr]
 exact all X.outer (λ_ hb=>hb) I.ok.gA
theorem Inv.stack(I:Inv X J' σ H s):s.heap.FunFrames X.base X.stack:=by
 rcases I.ok.C7 with e|⟨e,hf⟩
 ·rw[e];exact I.gA
 ·rw[e];obtain⟨m,hn,_⟩:=I.loc;refine .cons (by rw[I.ok.kind];decide) hf hn ?_ I.gA;exact Heap.get?_none_of_le (Tz I.ok.AZ I.ok.above)
theorem Inv.lu(I:Inv X J' σ H s):∀b∈eD X.stack,b∈X.env.locals::X.fs:=λb hb=>by
 rcases I.ok.C7 with e|⟨e,hf⟩
 ·rw[e]at hb;exact Tp _ hb
 ·rw[e]at hb;unfold eD at hb;rw[UY,hf]at hb;exact hb
theorem Inv.oR(I:Inv X J' σ H s):∀b∈eD X.stack,H b=y':=λb hb=>by
 rcases TC.mp (I.lu b hb)with e|hb
 ·rw[e];exact I.free
 ·obtain⟨_,o,ho,_⟩:=I.ok.gA.mem hb;exact I.base.free b o ho (I.ok.BJ b hb) λz=>I.ok.nL b z hb
theorem Inv.step{g':Array GenState}{t':Nat}{d':Drawn}{ch:List Addr}(I:Inv X J' σ H s)
  (A6:∀b∈ch,(b∈X.ex\/X.s₀.heap.objs.size<=b)/\b≠X.env.locals/\(∀x c,X.env.cells.lookup x=U c->c≠b)/\∀p∈X.pn++J',p.1≠b)
  (keep:∀b o,b≠X.env.locals->b∉X.fs->b∉ch->s.heap.get? b=U o->H b=y'->h'.get? b=U o)
  (slot:∀b o,b≠X.env.locals->b∈X.fs->b∉ch->s.heap.get? b=U o->H b=y'->∃sl,h'.get? b=U {o with slots:=sl}) (free:∀b o,b∉ch->s.heap.get? b=U o->H b=y'->H' b=y')
  (there:∀b o,b∉ch->s.heap.get? b=U o->∃o',h'.get? b=U o')
  (tups:∀b xs,H b=U (.tup xs)->H' b=U (.tup xs)) (frzs:∀b o u,H b=U (.ud o u)->H' b=U (.ud o u)) (tbls:∀b ps,H b=U (.sV ps)->∃more,H' b=U (.sV (ps++more)))
  (ns:∀m,s.heap.Ns X.env.locals m->h'.Ns X.env.locals m) (hok:dN X.prog X.w H' h') (hg:AllBare g'):
  Inv X J' σ H' {s with heap:=h',gens:=g',drawn:=d',toks:=t'}:=by
 have Mn:∀b o,X.s₀.heap.get? b=U o->b≠X.env.locals:=λb o e=>T7 (TU (Tx e) I.ok.above)
 have Mm:∀b o,X.s₀.heap.get? b=U o->b∉X.ex->b∉ch:=λb o e hx hb=>by
  rcases (A6 b hb).1 with z|z
  ·exact hx z
  ·exact absurd (TU (Tx e) z) (VE _)
 have cellK:∀x c,X.env.cells.lookup x=U c->∀v,s.heap.IsCell c v->h'.IsCell c v:=λx c e v#[o,ho,hd]=>by
  have J9:c∉ch:=λz=>(A6 c z).2.2.1 x c e rfl
  by_cases hc:c∈X.fs
  ·obtain⟨sl,q⟩:=slot c o (I.EH x c e) hc J9 ho (I.cz x c e);exact#[_,q,hd]
  ·exact#[o,keep c o (I.EH x c e) hc J9 ho (I.cz x c e),hd]
 refine#[I.ok,I.os,hg,#[λb o e n hb hx=>?_,λb o e n hb hx=>?_,λb o e n hx=>?_,λb o e hx=>?_,λb xs e=>tups b xs (I.base.tups b xs e),λb o xs e=>frzs b o xs (I.base.frzs b o xs e),λb ps e=>?_],?_,λx c e=>?_,?_,λx c e=>?_,λp hp=>?_,hok,I.len]
 ·exact keep b o (Mn b o e) hb (Mm b o e hx) (I.base.keep b o e n hb hx) (I.base.free b o e n hx)
 ·obtain⟨sl,e1⟩:=I.base.slot b o e n hb hx;obtain⟨KZ,e2⟩:=slot b _ (Mn b o e) hb (Mm b o e hx) e1 (I.base.free b o e n hx);exact#[KZ,e2]
 ·obtain⟨o',e1⟩:=I.base.there b o e hx;exact free b o' (Mm b o e hx) e1 (I.base.free b o e n hx)
 ·obtain⟨o',e1⟩:=I.base.there b o e hx;exact there b o' (Mm b o e hx) e1
 ·obtain⟨m1,e1⟩:=I.base.tbls b ps e;obtain⟨m2,e2⟩:=tbls b _ e1;exact#[m1++m2,by rw[e2,Array.append_assoc]]
 ·obtain⟨m,hn,hl⟩:=I.loc;refine#[m,ns m hn,λi x v e1 e2 e3=>?_];obtain⟨u,r,l⟩:=hl i x v e1 e2 e3;refine#[u,r,?_];rcases l with l|⟨k,c,e,z⟩
  ·exact .inl l
  ·exact .inr #[k,c,e,cellK x c e _ z]
 ·obtain⟨v,z⟩:=I.cell x c e;exact#[v,cellK x c e v z]
 ·obtain⟨m,⟨o,_,_,ho,_⟩,_⟩:=I.loc;exact free _ o (λz=>(A6 _ z).2.1 rfl) ho I.free
 ·obtain⟨v,o,ho,hd⟩:=I.cell x c e;exact free c o (λz=>(A6 c z).2.2.1 x c e rfl) ho (I.cz x c e)
 ·obtain⟨e,n,ne,nf,d⟩:=I.pin p hp;have J9:p.1∉ch:=λz=>(A6 p.1 z).2.2.2 p hp rfl
  exact#[keep p.1 p.2 ne nf J9 e n,free p.1 p.2 J9 e n,ne,nf,d]
theorem Inv.un{t':Nat}(I:Inv X J' σ H s)(u:Un X.fs [] H H' s.heap h')(hok:dN X.prog X.w H' h'):Inv X J' σ H' {s with heap:=h',toks:=t'}:=by
 obtain⟨m,⟨o,es,ep,ho,r⟩,_⟩:=id I.loc;obtain⟨sl,hL⟩:=u.any ho I.free (by simp);exact I.step (g':=s.gens) (d':=s.drawn) (ch:=[]) (λ_ z=>nomatch z) (λb o _ hb _ e n=>u.keep b o e n hb (by simp)) (λb o _ hb _ e n=>u.slot b o e n hb (by simp)) (λb o _ e n=>u.free b o e n (by simp)) (λb o _ e=>u.there b o e (by simp)) u.tups u.frzs u.tbls (λm' hm=>by
  obtain⟨o',gi,Nw,nY,r'⟩:=hm;rw[ho]at nY;cases nY;exact#[_,gi,Nw,hL,r']) hok I.bare
theorem Inv.call{g':Array GenState}{t':Nat}{d':Drawn}{ch:List Addr}(I:Inv X J' σ H s)(u:Un (eD X.stack) ch H H' s.heap h')(hok:dN X.prog X.w H' h')(hg:AllBare g')
  (A6:∀b∈ch,(b∈X.ex\/X.s₀.heap.objs.size<=b)/\b≠X.env.locals/\(∀x c,X.env.cells.lookup x=U c->c≠b)/\∀p∈X.pn++J',p.1≠b):
  Inv X J' σ H' {s with heap:=h',gens:=g',drawn:=d',toks:=t'}:=by
 obtain⟨m,⟨o,es,ep,ho,r⟩,_⟩:=id I.loc;obtain⟨sl,hL⟩:=u.any ho I.free λz=>(A6 _ z).2.1 rfl
 exact I.step (ch:=ch) A6 (λb o hL hb hc e n=>u.keep b o e n (λz=>(TC.mp (I.lu b z)).elim hL hb) hc) (λb o _ _ hc e n=>u.any e n hc) (λb o hc e n=>u.free b o e n hc) (λb o hc e=>u.there b o e hc) u.tups u.frzs u.tbls (λm' hm=>by
  obtain⟨o',gi,Nw,nY,r'⟩:=hm;rw[ho]at nY;cases nY;exact#[_,gi,Nw,hL,r']) hok hg
theorem Inv.turned{t':Nat}{it:Addr}(I:Inv X J' σ H s)(k:∀b o,b≠it->s.heap.get? b=U o->h'.get? b=U o)(hn:H it=y')(hL:it≠X.env.locals)
  (h1:it∈X.ex\/X.s₀.heap.objs.size<=it) (h2:∀x c,X.env.cells.lookup x=U c->c≠it) (h3:∀p∈X.pn++J',p.1≠it):Inv X J' σ H {s with heap:=h',toks:=t'}:=by
 have QA:∀b u,H b=U u->b≠it:=λb u e z=>by rw[z,hn]at e;cases e
 refine I.step (g':=s.gens) (d':=s.drawn) (ch:=[it]) (λb hb=>?_) (λb o _ _ hc e _=>k b o (λz=>hc (by simp[z])) e) (λb o _ _ hc e _=>#[o.slots,k b o (λz=>hc (by simp[z])) e]) (λ_ _ _ _ n=>n)
  (λb o hc e=>#[o,k b o (λz=>hc (by simp[z])) e]) (λ_ _ e=>e) (λ_ _ _ e=>e) (λb ps e=>#[#[],by rw[e];simp]) (λm hm=>?_) (λb u e=>?_) I.bare
 ·have e:b=it:=by simpa using hb
  subst e;exact#[h1,hL,h2,h3]
 ·obtain⟨o,es,ep,ho,r⟩:=hm;exact#[o,es,ep,k _ o (VM hL) ho,r]
 ·refine(I.hok b u e).oQ (λc v hc q=>k c v ?_ q) (λ_ q=>q) λ_ _ q=>q
  rcases hc with z|z
  ·rw[z];exact QA b u e
  ·exact QA c _ z
theorem Inv.tok(I:Inv X J' σ H s)(t:Nat):Inv X J' σ H {s with toks:=t}:=I.un (h':=s.heap) (t':=t) Un.refl I.hok
theorem Inv.kept{t':Nat}(I:Inv X J' σ H s)(k:∀b u,s.heap.get? b=U u->h'.get? b=U u):Inv X J' σ H {s with heap:=h',toks:=t'}:=I.un (Un.kept k) (I.hok.kept k)
theorem Inv.laid{a:Addr}{o:HO}{t':Nat}(I:Inv X J' σ H s)(k:∀b u,s.heap.get? b=U u->h'.get? b=U u)(hp:s.heap.objs.size<=a)(new:bR X.prog X.w (upd H a o) h' a o):
  Inv X J' σ (upd H a o) {s with heap:=h',toks:=t'}:=I.un (Un.laid k hp (I.hok.fresh hp)) (I.hok.laid k hp new)
theorem Inv.write{x e:Addr}{o:HO}{t':Nat}(I:Inv X J' σ H s)(mu:LK (H x))(he:e=x\/H e=U (.own x))(k:∀b u,b≠e->s.heap.get? b=U u->h'.get? b=U u)(HZ:∃u,h'.get? e=U u)
  (new:bR X.prog X.w (upd H x o) h' x o):Inv X J' σ (upd H x o) {s with heap:=h',toks:=t'}:=I.un (Un.write mu he k HZ) (I.hok.write mu he k HZ new)
theorem Inv.weak{σ':List (Option V)}(I:Inv X J' σ H s)(hl:σ'.length=σ.length)(w:∀(i:Nat)v,σ'[i]?=U (U v)->σ[i]?=U (U v)):Inv X J' σ' H s:=
 #[I.ok,I.os,I.bare,I.base,let #[m,hn,uk]:=I.loc;#[m,hn,λi x v e1 e2 e3=>uk i x v e1 (w i v e2) e3],I.cell,I.free,I.cz,I.pin,I.hok,hl.trans I.len]
theorem Inv.fR{pins':List (Addr×Obj)}(I:Inv X J' σ H s)(h:∀p∈pins',s.heap.get? p.1=U p.2/\H p.1=y'/\p.1≠X.env.locals/\p.1∉X.fs/\∀v,p.2.data≠ .cell v):Inv X pins' σ H s:=
 #[I.ok,I.os,I.bare,I.base,I.loc,I.cell,I.free,I.cz,λp hp=>(TV.mp hp).elim (λz=>I.pin p (Vi _ z)) (h p),I.hok,I.len]
theorem ir{N:List Str}(hN:N.Nodup){i j:Nat}{x:Str}(a:N[i]?=U x)(b:N[j]?=U x):i=j:=by obtain⟨h1,e1⟩:=To.mp a;obtain⟨h2,e2⟩:=To.mp b;exact(List.getElem_inj hN).mp (e1.trans e2.symm)
theorem mK{M:Model}{A:Around}{E:Value->Shared->Prop}{i:Nat}{x:Str}{v:V}{u:Value}{Q:Unit->Shared->Prop}(I:Inv X J' σ H s)(hN:X.N.Nodup)(hi:X.N[i]?=U x)(hx:Loc X.env.scope x)(r:RelV v u)
  (h:∀s',Inv X J' (σ.set i (U v)) H s'->(∃a,Heap.SameBut a s.heap s'.heap/\(a=X.env.locals\/X.env.cells.lookup x=U a))->Q () s') (hf:X.fn x=B'\/X.env.scope.names.lookup x=U .local:=by first|exact .inl rfl|exact .inr rfl|assumption):wpAny M A (storeName X.env x u) Q E s:=by
 obtain⟨m,hn,hl⟩:=id I.loc;have pT:(X.env.scope.kind== .class||(X.env.scope.kind== .module&&X.env.locals != X.env.globals))=G':=by rw[I.ok.kind];rfl
 have hiσ:i<σ.length:=by rw[I.len];exact(To.mp hi).1
 have EH:=I.EH;have tracked:∀{a:Addr}{h':Heap},(∃o,s.heap.get? a=U o/\H a=y')->Heap.SameBut a s.heap h'->dN X.prog X.w H h':=λ {a h'} ha hs b ob e=>by
  obtain⟨_,_,DI⟩:=ha;refine(I.hok b ob e).oQ (λc w' hc q=>(hs.2 c ?_).trans q) (λ_ q=>q) λ_ _ q=>q
  rintro rfl;rcases hc with rfl|hc
  ·rw[DI]at e;cases e
  ·rw[DI]at hc;cases hc
 rcases hx with hk|hk
 ·refine wpAny_storeName_local hk hn (λh' RU hs=>?_) pT;obtain⟨oL,_,_,Me,_⟩:=id hn;refine h _ #[I.ok,I.os,I.bare,#[λb o e n hb hx=>?_,λb o e n hb hx=>?_,I.base.free,λb o e hx=>?_,I.base.tups,I.base.frzs,I.base.tbls],#[_,RU,λj y v' e1 e2 e3=>?_],λy c e=>?_,I.free,I.cz,λp hp=>?_,tracked #[oL,Me,I.free] hs,by simpa using I.len] #[_,hs,.inl rfl]
  ·exact(hs.2 b (T7 (TU (Tx e) I.ok.above))).trans (I.base.keep b o e n hb hx)
  ·obtain⟨sl,e1⟩:=I.base.slot b o e n hb hx;exact#[sl,(hs.2 b (T7 (TU (Tx e) I.ok.above))).trans e1]
  ·obtain⟨o',e1⟩:=I.base.there b o e hx;exact#[o',(hs.2 b (T7 (TU (Tx e) I.ok.above))).trans e1]
  ·by_cases hj:j=i
   ·subst hj;rw[hi]at e1;cases e1;rw[Uo hiσ]at e2;cases e2;exact#[u,r,.inl #[hk,by simp]]
   ·rw[TL (VM hj)]at e2;obtain⟨u',r',q⟩:=hl j y v' e1 e2 e3;refine#[u',r',?_];rcases q with ⟨k,e⟩|⟨k,c,e,z⟩
    ·refine .inl #[k,?_];have:y≠x:=λe=>hj (ir hN e1 (e▸hi))
     simp[this,e]
    ·exact .inr #[k,c,e,z.sameBut hs (EH y c e)]
  ·obtain⟨w',z⟩:=I.cell y c e;exact#[w',z.sameBut hs (EH y c e)]
  ·obtain⟨e,n,ne,nf,d⟩:=I.pin p hp;exact#[(hs.2 p.1 ne).trans e,n,ne,nf,d]
 ·have yX:X.fn x=B':=by
   rcases hf with z|z
   ·exact z
   ·rw[z]at hk;cases hk
  obtain⟨c,hc⟩:=I.ok.has x (.inl hk);obtain⟨w',z⟩:=I.cell x c hc;refine wpAny_storeName_cell I.ok.kind hk hc z (λh' lN hs=>?_);obtain⟨oc,Qf,N3⟩:=id z;refine h {s with heap:=h'} #[I.ok,I.os,I.bare,#[λb o e n hb hx=>?_,λb o e n hb hx=>?_,I.base.free,λb o e hx=>?_,I.base.tups,I.base.frzs,I.base.tbls],#[m,hn.sameBut hs (VM (EH x c hc)),λj y v' e1 e2 e3=>?_],λy c' e=>?_,I.free,I.cz,λp hp=>?_,tracked #[oc,Qf,I.cz x c hc] hs,by simpa using I.len] #[c,hs,.inr hc]
  ·exact(hs.2 b (T7 (TU (Tx e) (I.ok.A0 x c yX hc)))).trans (I.base.keep b o e n hb hx)
  ·obtain⟨sl,e1⟩:=I.base.slot b o e n hb hx;exact#[sl,(hs.2 b (T7 (TU (Tx e) (I.ok.A0 x c yX hc)))).trans e1]
  ·obtain⟨o',e1⟩:=I.base.there b o e hx;exact#[o',(hs.2 b (T7 (TU (Tx e) (I.ok.A0 x c yX hc)))).trans e1]
  ·by_cases hj:j=i
   ·subst hj;rw[hi]at e1;cases e1;rw[Uo hiσ]at e2;cases e2;exact#[u,r,.inr #[.inl hk,c,hc,lN]]
   ·rw[TL (VM hj)]at e2;obtain⟨u',r',q⟩:=hl j y v' e1 e2 e3;refine#[u',r',?_];rcases q with q|⟨k,c',e,z'⟩
    ·exact .inl q
    ·refine .inr #[k,c',e,z'.sameBut hs ?_];rintro rfl;exact hj (ir hN e1 (I.ok.inj _ _ _ e hc▸hi))
  ·by_cases hcc:c'=c
   ·subst hcc;exact#[_,lN]
   ·obtain⟨w2,z2⟩:=I.cell y c' e;exact#[w2,z2.sameBut hs hcc]
  ·obtain⟨e,n,ne,nf,d⟩:=I.pin p hp;refine#[(hs.2 p.1 ?_).trans e,n,ne,nf,d];intro q;rw[q,Qf]at e;have q':oc=p.2:=VN e;exact d w' (by rw[<-q'];exact N3)
theorem iI{M:Model}{A:Around}{E:Value->Shared->Prop}{i:Nat}{x:Str}{v:V}{u:Value}{Q:Unit->Shared->Prop}(I:Inv X J' σ H s)(hN:X.N.Nodup)(hi:X.N[i]?=U x)(hx:Loc X.env.scope x)(r:RelV v u)
  (h:∀s',Inv X J' (σ.set i (U v)) H s'->Q () s') (hf:X.fn x=B'\/X.env.scope.names.lookup x=U .local:=by first|exact .inl rfl|exact .inr rfl|assumption):wpAny M A (storeName X.env x u) Q E s:=
 mK I hN hi hx r (λs' I' _=>h s' I') hf
theorem Inv.xZ{s':Shared}{ch:List Addr}(I:Inv X J' σ H s)(ho:s'.os=s.os)(u:Un (eD X.stack) ch H H' s.heap s'.heap)(hok:dN X.prog X.w H' s'.heap)(hg:AllBare s'.gens)
  (A6:∀b∈ch,(b∈X.ex\/X.s₀.heap.objs.size<=b)/\b≠X.env.locals/\(∀x c,X.env.cells.lookup x=U c->c≠b)/\∀p∈X.pn++J',p.1≠b):Inv X J' σ H' s':=by
 obtain⟨h',g',d',t',o'⟩:=s';have e:o'=s.os:=ho;subst e;exact I.call (g':=g') (t':=t') (d':=d') u hok hg A6
end
abbrev XK:=Value->Option Addr->Hp->Prop
abbrev St:=List (Option V)
abbrev VK:=V->Hp->Prop
abbrev TE:=St->Hp->VK->Prop
abbrev TT:=St->Hp->(Bool->Hp->Prop)->Prop
abbrev TA:=St->Hp->(List V->Hp->Prop)->Prop
structure Ends where
 nx:St->Hp->Prop
 rt:VK
 bk:St->Hp->Prop:=λ_ _=>False
 ct:St->Hp->Prop:=λ_ _=>False
abbrev TS:=Ends->St->Hp->Prop
inductive EP(X:Cx)(J':List (Addr×Obj))(σ:St)(Q:VK)(u:Value)(s':Shared):Prop
 |mk (v:V) (H':Hp) (i:Inv X J' σ H' s') (r:RelV v u) (q:Q v H'):EP X J' σ Q u s'
inductive TP(X:Cx)(J':List (Addr×Obj))(σ:St)(Q:Bool->Hp->Prop)(b:Bool)(s':Shared):Prop
 |mk (H':Hp) (i:Inv X J' σ H' s') (q:Q b H'):TP X J' σ Q b s'
inductive AP(X:Cx)(J':List (Addr×Obj))(σ:St)(Q:List V->Hp->Prop)(us:List Value)(s':Shared):Prop
 |mk (vs:List V) (H':Hp) (i:Inv X J' σ H' s') (r:ay vs us) (q:Q vs H'):AP X J' σ Q us s'
def SP(X:Cx)(J':List (Addr×Obj))(D:Ends)(f:Flow)(s':Shared):Prop:=
 match f with
 |.next=>∃σ' H',Inv X J' σ' H' s'/\D.nx σ' H'
 |.brk=>∃σ' H',Inv X J' σ' H' s'/\D.bk σ' H'
 |.cont=>∃σ' H',Inv X J' σ' H' s'/\D.ct σ' H'
 |.ret u=>∃v σ' H',Inv X J' σ' H' s'/\RelV v u/\D.rt v H'
def PE(X:Cx)(e:Expr)(t:TE):Prop:=
 ∀(J':List (Addr×Obj))(s:Shared)(σ:St)(H:Hp)(Q:VK),Inv X J' σ H s->t σ H Q->wpAny (model X.prog X.w) X.A (eval e X.env) (EP X J' σ Q) X.xe s
def PT(X:Cx)(e:Expr)(t:TT):Prop:=
 ∀(J':List (Addr×Obj))(s:Shared)(σ:St)(H:Hp)(Q:Bool->Hp->Prop),Inv X J' σ H s->t σ H Q->wpAny (model X.prog X.w) X.A (isTrue e X.env (eval e X.env)) (TP X J' σ Q) X.xe s
def PW(X:Cx)(e:Expr)(t:TT):Prop:=
 ∀(whole:Sem Value)(J':List (Addr×Obj))(s:Shared)(σ:St)(H:Hp)(Q:Bool->Hp->Prop),Inv X J' σ H s->t σ H Q->wpAny (model X.prog X.w) X.A (isTrue e X.env whole) (TP X J' σ Q) X.xe s
theorem PW.pt{X:Cx}{e:Expr}{t:TT}(h:PW X e t):PT X e t:=h _
def PA(X:Cx)(es:List Expr)(t:TA):Prop:=
 ∀(pos:Pos)(J':List (Addr×Obj))(s:Shared)(σ:St)(H:Hp)(Q:List V->Hp->Prop),Inv X J' σ H s->t σ H Q->wpAny (model X.prog X.w) X.A (spliced (backTo pos (starEach es X.env))) (AP X J' σ Q) X.xe s
def PS(X:Cx)(st:Stmt)(t:TS):Prop:=
 ∀(J':List (Addr×Obj))(s:Shared)(σ:St)(H:Hp)(D:Ends),Inv X J' σ H s->t D σ H->wpAny (model X.prog X.w) X.A (exec st X.env) (SP X J' D) X.xe s
def oY(X:Cx)(st:List Stmt)(t:TS):Prop:=
 ∀(J':List (Addr×Obj))(s:Shared)(σ:St)(H:Hp)(D:Ends),Inv X J' σ H s->t D σ H->wpAny (model X.prog X.w) X.A (execs st X.env) (SP X J' D) X.xe s
theorem bt{α:Type}{t:Sem α}{Q Q':α->Shared->Prop}{M:Model}{A:Around}{E:Value->Shared->Prop}{s:Shared}(h:wpAny M A t Q E s)(hQ:∀a s,Q a s->Q' a s):wpAny M A t Q' E s:=Wi h hQ λ_ _ x=>x
end L2
namespace L2
open PySem PySem.Spec PyProof.Rows
section
variable{X:Cx}
def lC(i:Nat):TE:=λσ H Q=>∃v,σ[i]?=U (U v)/\Q v H
def tC(v:V):TE:=λ_ H Q=>Q v H
theorem sr{i:Nat}{x:Str}{pos:Pos}(hN:X.N[i]?=U x)(hv:En X.env.scope x)(hd:(x==("__debug__":Str))=G':=by decide)(xl:(x==("__classdict__":Str))=G':=by decide):PE X (.Name x pos) (lC i):=by
 intro J' s σ H Q I h;obtain⟨v,e,h⟩:=h;obtain⟨m,hn,hl⟩:=I.loc;obtain⟨u,r,l⟩:=hl i x v hN e hv;have fin:EP X J' σ Q u s:=#[v,H,I,r,h];rcases l with ⟨hk,hm⟩|⟨hk,c,hc,kv⟩
 ·exact wpAny_Name (wpAny_loadName_local I.ok.kind hk hn hm fin) hd
 ·rcases hk with hk|hk
  ·exact wpAny_Name (wpAny_loadName_cell I.ok.kind hk hc kv fin) hd
  ·exact wpAny_Name (wpAny_loadName_free I.ok.kind hk hc kv fin xl) hd
theorem Gv{i j pos}:PE X (.Constant (.int i) j pos) (tC (.int i)):=λ_ _ _ H _ I h=>wpAny_Constant_int #[.int i,H,I.tok _,#[_,rfl],h]
theorem DS{b j pos}:PE X (.Constant (.bool b) j pos) (tC (.bl b)):=λ_ _ _ H _ I h=>Constant_bool #[.bl b,H,I,rfl,h]
theorem Gw{j pos}:PE X (.Constant .none j pos) (tC .aE):=λ_ _ _ H _ I h=>Constant_none #[.aE,H,I,rfl,h]
theorem Gx{x j pos}:PE X (.Constant (.str x) j pos) (tC (.str x)):=λ_ _ _ H _ I h=>Calls.Constant_str #[.str x,H,I.tok _,#[_,rfl],h]
def Gl(X:Cx)(x:Str):Prop:=X.env.kindOf x=U .globalImplicit
theorem ij{E:Value->Shared->Prop}{J':List (Addr×Obj)}{s:Shared}{σ:St}{H:Hp}{x:Str}{u:Value}{pos:Pos}{Q:Value->Shared->Prop}(I:Inv X J' σ H s)(hg:Gl X x)(hm:X.mg x=U u)(h:Q u s)
  (hd:(x==("__debug__":Str))=G':=by decide):wpAny (model X.prog X.w) X.A (eval (.Name x pos) X.env) Q E s:=
 Calls.Name_function_global I.ok.kind hg (Calls.loadGlobal_global (by rw[I.ok.glob];exact I.mod.glob.keeps I.bk) hm h) hd
theorem iY{E:Value->Shared->Prop}{J':List (Addr×Obj)}{s:Shared}{σ:St}{H:Hp}{x:Str}{u:Value}{pos:Pos}{Q:Value->Shared->Prop}(I:Inv X J' σ H s)(hg:Gl X x)(hm:X.mg x=y')(hv:bootBuiltins x=U u)(h:Q u s)
  (hn:x≠"__name__":=by decide) (hd:(x==("__debug__":Str))=G':=by decide):wpAny (model X.prog X.w) X.A (eval (.Name x pos) X.env) Q E s:=by
 obtain⟨mb,h1,h2⟩:=I.mod.blt;exact Calls.Name_function_global I.ok.kind hg (Calls.loadGlobal_builtin (by rw[I.ok.glob];exact I.mod.glob.keeps I.bk) hm (by rw[I.ok.blt];exact h1.keeps I.bk) ((h2 x hn).trans hv) h) hd
theorem u4{x:Str}{v:V}{u:Value}{pos:Pos}(hg:Gl X x)(hm:X.mg x=U u)(r:RelV v u)(hd:(x==("__debug__":Str))=G':=by decide):PE X (.Name x pos) (tC v):=
 λ_ _ _ H _ I h=>ij I hg hm #[v,H,I,r,h] hd
theorem uY{x:Str}{v:V}{u:Value}{pos:Pos}(hg:Gl X x)(hm:X.mg x=y')(hv:bootBuiltins x=U u)(r:RelV v u)(hn:x≠"__name__":=by decide)(hd:(x==("__debug__":Str))=G':=by decide):PE X (.Name x pos) (tC v):=
 λ_ _ _ H _ I h=>iY I hg hm hv #[v,H,I,r,h] hn hd
variable{a b:Expr}{ta tb:TE}{pos:Pos}
theorem zx(b:Expr){op:CmpOp}(h:op≠ .In)(h2:op≠ .NotIn):behindInMarks op b=G':=by
 have e1:(op==CmpOp.In)=G':=by cases op<;>first|rfl|exact absurd rfl h
 have e2:(op==CmpOp.NotIn)=G':=by cases op<;>first|rfl|exact absurd rfl h2
 cases b<;>simp[behindInMarks,e1,e2]
variable{tA Ms:TT}{rest:List Expr}
def O3(t u:TT):TT:=λσ H Q=>t σ H λc H1=>if c=B' then u σ H1 Q else Q G' H1
def Su(t u:TT):TT:=λσ H Q=>t σ H λc H1=>if c=B' then Q B' H1 else u σ H1 Q
def O7(t:TT):TT:=λσ H Q=>t σ H λc H1=>Q (!c) H1
theorem CO(ha:PT X a tA):PW X (.BoolOp .And [a] pos) tA:=by
 intro wh J' s σ H Q I h;refine isTrue_and (bt (ha J' s σ H Q I h) λc s1 e=>?_);cases c with
 |true=>exact isTrue_and_nil e
 |false=>exact e
theorem GK(ha:PT X a tA):PW X (.BoolOp .Or [a] pos) tA:=by
 intro wh J' s σ H Q I h;refine isTrue_or (bt (ha J' s σ H Q I h) λc s1 e=>?_);cases c with
 |false=>exact isTrue_or_nil e
 |true=>exact e
theorem GJ(ha:PT X a tA)(hb:PW X (.BoolOp .And (b::rest) pos) Ms):PW X (.BoolOp .And (a::b::rest) pos) (O3 tA Ms):=by
 intro wh J' s σ H Q I h;refine isTrue_and (bt (ha J' s σ H _ I h) λc s1#[H1,I1,q1]=>?_);cases c with
 |true=>exact hb wh J' s1 σ H1 Q I1 q1
 |false=>exact#[H1,I1,q1]
theorem Ku(ha:PT X a tA)(hb:PW X (.BoolOp .Or (b::rest) pos) Ms):PW X (.BoolOp .Or (a::b::rest) pos) (Su tA Ms):=by
 intro wh J' s σ H Q I h;refine isTrue_or (bt (ha J' s σ H _ I h) λc s1#[H1,I1,q1]=>?_);cases c with
 |true=>exact#[H1,I1,q1]
 |false=>exact hb wh J' s1 σ H1 Q I1 q1
theorem GI(ha:PT X a tA):PT X (.UnaryOp .Not a pos) (O7 tA):=by intro J' s σ H Q I h;exact isTrue_not (bt (ha J' s σ H (λc H1=>Q (!c) H1) I h) λ_ _#[H1,i,q]=>#[H1,i,q])
def K6(ta tb:TE):TE:=λσ H Q=>ta σ H λx H1=>∃c,x= .bl c/\if c=B' then tb σ H1 Q else Q (.bl G') H1
def O8(ta tb:TE):TE:=λσ H Q=>ta σ H λx H1=>∃c,x= .bl c/\if c=B' then Q (.bl B') H1 else tb σ H1 Q
def Ld(ta:TE):TE:=λσ H Q=>ta σ H λx H1=>∃c,x= .bl c/\Q (.bl (!c)) H1
theorem zN{op}{t:TE}(h:PE X a t):PE X (.BoolOp op [a] pos) t:=λJ' s σ H Q I hw=>BoolOp_one (h J' s σ H Q I hw)
theorem zH(ha:PE X a ta)(hb:PE X (.BoolOp .And (b::rest) pos) tb):PE X (.BoolOp .And (a::b::rest) pos) (K6 ta tb):=by
 intro J' s σ H Q I h;refine BoolOp_and (bt (ha J' s σ H _ I h) λv s1#[x,H1,I1,r1,q1]=>?_);obtain⟨c,rfl,q1⟩:=q1;cases r1;refine Ws ?_;cases c with
 |true=>exact hb J' s1 σ H1 Q I1 q1
 |false=>exact#[.bl G',H1,I1,rfl,q1]
theorem DW(ha:PE X a ta)(hb:PE X (.BoolOp .Or (b::rest) pos) tb):PE X (.BoolOp .Or (a::b::rest) pos) (O8 ta tb):=by
 intro J' s σ H Q I h;refine BoolOp_or (bt (ha J' s σ H _ I h) λv s1#[x,H1,I1,r1,q1]=>?_);obtain⟨c,rfl,q1⟩:=q1;cases r1;refine Ws ?_;cases c with
 |false=>exact hb J' s1 σ H1 Q I1 q1
 |true=>exact#[.bl B',H1,I1,rfl,q1]
theorem zM(ha:PE X a ta):PE X (.UnaryOp .Not a pos) (Ld ta):=by intro J' s σ H Q I h;refine UnaryOp_ (bt (ha J' s σ H _ I h) λv s1#[x,H1,I1,r1,q1]=>?_);obtain⟨c,rfl,q1⟩:=q1;cases r1;exact not_of (Ws #[.bl (!c),H1,I1,rfl,q1])
end
end L2
namespace L2
open PySem PySem.Spec PyProof.Rows
def du(K:PySem.W.Frag)(H:Hp)(a:Addr)(xs:List V):Prop:=
 Rd H a (.lst xs)\/
  ∃(o:Obj)(its:Array Value)(n:Nat),K.lookup a=U o/\o.cls= .type "list"/\o.dict=y'/\o.data= .seq its n/\its.size<=sizeLine/\ay xs its.toList
def dO(K:PySem.W.Frag)(H:Hp)(a:Addr)(xs:List V):Prop:=
 Rd H a (.tup xs)\/
  ∃(o:Obj)(its:Array Value)(n:Nat),K.lookup a=U o/\o.cls= .type "tuple"/\o.data= .seq its n/\its.size<=sizeLine/\ay xs its.toList
def MW:Value->Option V
 |.none=>U .aE
 |.bool b=>U (.bl b)
 |.int i _=>U (.int i)
 |.str x _=>U (.str x)
 |.bytes b _=>U (.EB b)
 |.float b _=>U (.A5 b)
 |.ref a=>U (.ref a)
 |.type n=>U (.ty n)
 |_=>y'
theorem RelV.abs{x:V}{u:Value}(r:RelV x u):MW u=U x:=by
 cases x with
 |aE=>cases r;rfl
 |bl _=>cases r;rfl
 |int _=>obtain⟨t,rfl⟩:=r;rfl
 |str _=>obtain⟨t,rfl⟩:=r;rfl
 |EB _=>obtain⟨t,rfl⟩:=r;rfl
 |A5 _=>obtain⟨t,rfl⟩:=r;rfl
 |ref _=>cases r;rfl
 |ty _=>cases r;rfl
theorem RelV.inj{x y:V}{u:Value}(r:RelV x u)(q:RelV y u):x=y:=VN (r.abs.symm.trans q.abs)
theorem ay.inj:∀{xs ys:List V}{us:List Value},ay xs us->ay ys us->xs=ys
 |_,_,_,.nil,.nil=>rfl
 |_,_,_,.cons r t,.cons r' t'=>by rw[r.inj r',ay.inj t t']
section
variable{X:Cx}{J':List (Addr×Obj)}{σ:St}{H:Hp}{s:Shared}{a:Addr}{xs ys:List V}
theorem du.of{K:PySem.W.Frag}(h:H a=U (.lst xs)):du K H a xs:=.inl (.inl h)
theorem dO.of{K:PySem.W.Frag}(h:H a=U (.tup xs)):dO K H a xs:=.inl (.inl h)
theorem Inv.list(I:Inv X J' σ H s)(h:du X.K H a xs):∃its:List Value,ay xs its/\PlainL s.heap a its.toArray/\xs.length<=sizeLine:=by
 rcases h with h|⟨o,its,n,hk,hc,hd,hs,hz,r⟩
 ·obtain⟨z,its,n,r,e⟩:=h.ok I.hok;exact#[its,r,#[_,n,e,rfl,rfl,rfl],z]
 ·refine#[its.toList,r,#[o,n,I.jH a o hk,hc,hd,by simpa using hs],?_];have e:=r.length;simp only[TR]at e
  lia
theorem Inv.tuple(I:Inv X J' σ H s)(h:dO X.K H a xs):∃its:List Value,ay xs its/\IsTup s.heap a its.toArray/\xs.length<=sizeLine:=by
 rcases h with h|⟨o,its,n,hk,hc,hs,hz,r⟩
 ·obtain⟨z,its,r,p⟩:=h.ok I.hok;exact#[its,r,p.is,z]
 ·refine#[its.toList,r,#[o,I.jH a o hk,hc,n,by simpa using hs],?_];have e:=r.length;simp only[TR]at e
  lia
theorem Inv.zp(I:Inv X J' σ H s)(h:du X.K H a xs)(h':du X.K H a ys):xs=ys:=by
 obtain⟨its,r,⟨o,n,e,_,_,d⟩,_⟩:=I.list h;obtain⟨its',r',⟨o',n',e',_,_,d'⟩,_⟩:=I.list h';rw[e]at e';cases e';rw[d]at d';injection d' with d1 _;have:its=its':=by simpa using VY Array.toList d1
 subst this;exact r.inj r'
theorem Inv.wY(I:Inv X J' σ H s)(h:dO X.K H a xs)(h':dO X.K H a ys):xs=ys:=by
 obtain⟨its,r,⟨o,e,_,n,d⟩,_⟩:=I.tuple h;obtain⟨its',r',⟨o',e',_,n',d'⟩,_⟩:=I.tuple h';rw[e]at e';cases e';rw[d]at d';injection d' with d1 _;have:its=its':=by simpa using VY Array.toList d1
 subst this;exact r.inj r'
end
abbrev Cx.cy(X:Cx)(E:Value->Shared->Prop):Cx:={X with xe:=E}
theorem Cx.Ok.cy{X:Cx}(ok:X.Ok)(E:Value->Shared->Prop):(X.cy E).Ok:=
 #[ok.mod,ok.kind,ok.glob,ok.blt,ok.above,ok.inj,ok.has,ok.A0,ok.hd,ok.frames,ok.C7,ok.DD,ok.bs,ok.AZ,ok.lP,ok.nL,ok.gA,ok.BJ]
theorem Cx.Ok.dM{X:Cx}{E:Value->Shared->Prop}(ok:(X.cy E).Ok):X.Ok:=
 #[ok.mod,ok.kind,ok.glob,ok.blt,ok.above,ok.inj,ok.has,ok.A0,ok.hd,ok.frames,ok.C7,ok.DD,ok.bs,ok.AZ,ok.lP,ok.nL,ok.gA,ok.BJ]
section
variable{X:Cx}{J':List (Addr×Obj)}{σ:St}{H:Hp}{s:Shared}{E:Value->Shared->Prop}
theorem Inv.cy(I:Inv X J' σ H s)(E:Value->Shared->Prop):Inv (X.cy E) J' σ H s:=#[I.ok.cy E,I.os,I.bare,I.base,I.loc,I.cell,I.free,I.cz,I.pin,I.hok,I.len]
theorem Inv.dM(I:Inv (X.cy E) J' σ H s):Inv X J' σ H s:=#[I.ok.dM,I.os,I.bare,I.base,I.loc,I.cell,I.free,I.cz,I.pin,I.hok,I.len]
theorem SP.dM{D:Ends}{f:Flow}{s':Shared}(h:SP (X.cy E) J' D f s'):SP X J' D f s':=by
 cases f with
 |next=>obtain⟨σ',H',I,q⟩:=h;exact#[σ',H',I.dM,q]
 |brk=>obtain⟨σ',H',I,q⟩:=h;exact#[σ',H',I.dM,q]
 |cont=>obtain⟨σ',H',I,q⟩:=h;exact#[σ',H',I.dM,q]
 |ret u=>obtain⟨v,σ',H',I,r,q⟩:=h;exact#[v,σ',H',I.dM,r,q]
end
section
variable{X:Cx}{st:Stmt}{rest:List Stmt}{t u:TS}{e:Expr}{te:TE}{pos:Pos}
def AB:TS:=λD σ H=>D.nx σ H
def Lh(t u:TS):TS:=λD σ H=>t {D with nx:=u D} σ H
theorem CK:oY X [] AB:=λ_ _ σ H _ I h=>wpAny_execs_nil #[σ,H,I,h]
theorem qg(h1:PS X st t)(h2:oY X rest u):oY X (st::rest) (Lh t u):=by
 intro J' s σ H D I h;refine wpAny_execs_cons (bt (h1 J' s σ H {D with nx:=u D} I h) λf s1 q=>?_);cases f with
 |next=>obtain⟨σ',H',I',q⟩:=q;exact h2 J' s1 σ' H' D I' q
 |ret v=>exact q
 |brk=>exact q
 |cont=>exact q
theorem u9(h1:PS X st t):oY X [st] t:=by
 intro J' s σ H D I h;refine wpAny_execs_cons (bt (h1 J' s σ H D I h) λf s1 q=>?_);cases f with
 |next=>exact wpAny_execs_nil q
 |ret v=>exact q
 |brk=>exact q
 |cont=>exact q
def Ay:TS:=λD σ H=>D.bk σ H
def D5:TS:=λD σ H=>D.ct σ H
theorem CH:PS X (.Pass pos) AB:=λ_ _ σ H _ I h=>wpAny_Pass #[σ,H,I,h]
theorem zV:PS X (.Break pos) Ay:=λ_ _ σ H _ I h=>wpAny_Break #[σ,H,I,h]
theorem qd:PS X (.Continue pos) D5:=λ_ _ σ H _ I h=>wpAny_Continue #[σ,H,I,h]
theorem Inv.quiet{J':List (Addr×Obj)}{σ:St}{H:Hp}{s:Shared}(I:Inv X J' σ H s):interactive X.env=G':=by simp[interactive,I.ok.kind]
def vC(te:TE):TS:=λD σ H=>te σ H λ_ H1=>D.nx σ H1
theorem oF(he:PE X e te)(hs:swapsWith e y' pos.line X.env=pure G':=by rfl):PS X (.Expr e pos) (vC te):=by intro J' s σ H D I h;exact wpAny_Expr_any (bt (he J' s σ H _ I h) λv s1#[x,H1,I1,r1,q1]=>#[σ,H1,I1,q1]) I.quiet hs
def Hl(te:TE):TS:=λD σ H=>te σ H D.rt
theorem k7(he:PE X e te):PS X (.Return (U e) pos) (Hl te):=by intro J' s σ H D I h;exact wpAny_Return_some (bt (he J' s σ H _ I h) λv s1#[x,H1,I1,r1,q1]=>#[x,σ,H1,I1,r1,q1])
def D6:TS:=λD _ H=>D.rt .aE H
theorem CI:PS X (.Return y' pos) D6:=λ_ _ σ H _ I h=>wpAny_Return_none #[.aE,σ,H,I,rfl,h]
def Lb(c:TT)(t u:TS):TS:=λD σ H=>c σ H λb H1=>if b=B' then t D σ H1 else u D σ H1
theorem Kt{c:Expr}{a b:List Stmt}{tc:TT}(hc:PT X c tc)(ha:oY X a t)(hb:oY X b u):PS X (.If c a b pos) (Lb tc t u):=by
 intro J' s σ H D I h;refine wpAny_If (bt (hc J' s σ H _ I h) λd s1#[H1,I1,q1]=>?_);cases d with
 |true=>exact ha J' s1 σ H1 D I1 q1
 |false=>exact hb J' s1 σ H1 D I1 q1
end
abbrev TG:=V->St->Hp->(St->Hp->Prop)->Prop
abbrev xg:=List V->St->Hp->(St->Hp->Prop)->Prop
def PG(X:Cx)(target:Expr)(t:TG):Prop:=
 ∀(J':List (Addr×Obj))(s:Shared)(σ:St)(H:Hp)(v:V)(u:Value)(Q:St->Hp->Prop),Inv X J' σ H s->RelV v u->t v σ H Q->
  wpAny (model X.prog X.w) X.A (assign target X.env u) (λ_ s'=>∃σ' H',Inv X J' σ' H' s'/\Q σ' H') X.xe s
def HL(X:Cx)(ts:List Expr)(t:xg):Prop:=
 ∀(J':List (Addr×Obj))(s:Shared)(σ:St)(H:Hp)(vs:List V)(us:List Value)(Q:St->Hp->Prop),Inv X J' σ H s->ay vs us->t vs σ H Q->
  wpAny (model X.prog X.w) X.A (assignInOrder ((assignEach ts X.env).map (·.2)) us) (λ_ s'=>∃σ' H',Inv X J' σ' H' s'/\Q σ' H') X.xe s
abbrev El:=V->V->V->Hp->(Hp->Prop)->Prop
def Iv(X:Cx)(t:El):Prop:=
 ∀(J':List (Addr×Obj))(s:Shared)(σ:St)(H:Hp)(o i v:V)(ov iv u:Value)(Q:Hp->Prop),Inv X J' σ H s->RelV o ov->RelV i iv->RelV v u->t o i v H Q->
  wpAny (model X.prog X.w) X.A (setItem ov iv u) (λ_ s'=>∃H',Inv X J' σ H' s'/\Q H') X.xe s
abbrev LO:=V->V->Hp->VK->Prop
def Po(X:Cx)(op:Operator)(t:LO):Prop:=
 ∀(J':List (Addr×Obj))(s:Shared)(σ:St)(H:Hp)(x y:V)(v u:Value)(Q:VK),Inv X J' σ H s->RelV x v->RelV y u->t x y H Q->
  wpAny (model X.prog X.w) X.A (inplaceOp op v u) (EP X J' σ Q) X.xe s
section
variable{X:Cx}{pos:Pos}
def eY(i:Nat):TG:=λv σ H Q=>Q (σ.set i (U v)) H
theorem Cz{i:Nat}{x:Str}(hN:X.N.Nodup)(hi:X.N[i]?=U x)(hx:Loc X.env.scope x)(hf:X.fn x=B'\/X.env.scope.names.lookup x=U .local:=by first|exact .inl rfl|exact .inr rfl|assumption):PG X (.Name x pos) (eY i):=by intro J' s σ H v u Q I r h;exact wpAny_assign_Name (iI I hN hi hx r (λs' I'=>#[_,H,I',h]) hf)
def EY:xg:=λvs σ H Q=>vs=[]/\Q σ H
def yF(t:TG)(u:xg):xg:=λvs σ H Q=>∃v r,vs=v::r/\t v σ H λσ' H'=>u r σ' H' Q
theorem CA:HL X [] EY:=by intro J' s σ H vs us Q I r h;obtain⟨e,h⟩:=h;subst e;cases r;exact assignInOrder_nil #[σ,H,I,h]
theorem zO{e:Expr}{es:List Expr}{t:TG}{u:xg}(h1:PG X e t)(h2:HL X es u)
  (hs:(assignEach (e::es) X.env).map (·.2)=assign e X.env::(assignEach es X.env).map (·.2):=by rfl):HL X (e::es) (yF t u):=by
 intro J' s σ H vs us Q I r h;obtain⟨v,vr,e1,h⟩:=h;subst e1;cases r with
 |cons r rr=>rw[hs];refine assignInOrder_cons (bt (h1 J' s σ H _ _ _ I r h) λ_ s1#[σ1,H1,I1,q1]=>?_);exact h2 J' s1 σ1 H1 _ _ Q I1 rr q1
def NB(K:PySem.W.Frag)(n:Nat)(t:xg):TG:=λv σ H Q=>∃a xs,v= .ref a/\dO K H a xs/\xs.length=n/\t xs σ H Q
theorem GA{es:List Expr}{k:Nat}{t:xg}{n:Nat}(hc:X.calm=B')(h:HL X es t)
  (hn:(assignEach es X.env).length=n:=by rfl) (kC:(assignEach es X.env).findIdx? (·.1)=y':=by rfl):PG X (.Tuple es k pos) (NB X.K n t):=by
 intro J' s σ H v u Q I r hw;obtain⟨a,xs,e1,hq,hl,hw⟩:=hw;subst e1;cases r;obtain⟨its,rv,ht,hz⟩:=I.tuple hq;refine assign_Tuple_tuple (I.ok.hd hc) ht (by simp[hn,<-hl,rv.length]) kC λh' hx=>?_
 have I1:Inv X J' σ H {s with heap:=h'}:=I.kept (t':=s.toks) λb o e=>hx b o (T7 (Tx e)) e
 exact h J' _ σ H xs _ Q I1 (by simpa using rv) hw
def Jh(to ti:TE)(t:El):TG:=λv σ H Q=>to σ H λo H1=>ti σ H1 λi H2=>t o i v H2 λH3=>Q σ H3
theorem Gz{o i:Expr}{to ti:TE}{t:El}(ho:PE X o to)(hi:PE X i ti)(hs:Iv X t)
  (ha:∀v,assign (.Subscript o i pos) X.env v=(do
   let ov<-holding [v] (eval o X.env)
   let iv<-holding [v,ov] (eval i X.env)
   standAt pos
   holding [v,ov,iv] (setItem ov iv v)
   release [v,ov,iv] []):=by intro _;rfl):PG X (.Subscript o i pos) (Jh to ti t):=by
 intro J' s σ H v u Q I r h;rw[ha];refine Td (Wh (bt (ho J' s σ H _ I h) λov s1#[x,H1,I1,r1,q1]=>?_));refine Td (Wh (bt (hi J' s1 σ H1 _ I1 q1) λiv s2#[y,H2,I2,r2,q2]=>?_));refine Td (Wr (Td (Wh (bt (hs J' s2 σ H2 x y v ov iv u _ I2 r1 r2 r q2) λ_ s3#[H3,I3,q3]=>?_))));exact wpAny_release #[σ,H3,I3,q3]
def oS(te:TE)(g:TG):TS:=λD σ H=>te σ H λx H1=>g x σ H1 D.nx
theorem zU{tg e:Expr}{te:TE}{g:TG}(he:PE X e te)(hg:PG X tg g)(hs:swapsWithSole [tg] e pos.line X.env=pure G':=by rfl)(hw:swappedStores [tg] e X.env=pure y':=by rfl)
  (h1:(assignEach [tg] X.env).map (·.2)=[assign tg X.env]:=by rfl):PS X (.Assign [tg] e pos) (oS te g):=by
 intro J' s σ H D I h;refine wpAny_Assign_stores (bt (he J' s σ H _ I h) λv s1#[x,H1,I1,r1,q1]=>?_) hs hw;rw[h1];exact bt (hg J' s1 σ H1 x v _ I1 r1 q1) λ_ s2 q=>q
theorem sD{i:Nat}{x:Str}{e:Expr}{te:TE}{pos':Pos}(hN:X.N.Nodup)(hi:X.N[i]?=U x)(hx:Loc X.env.scope x)(he:PE X e te)(hs:swapsWith e (U (.Name x pos')) pos.line X.env=pure G':=by rfl)(hf:X.fn x=B'\/X.env.scope.names.lookup x=U .local:=by first|exact .inl rfl|exact .inr rfl|assumption):
  PS X (.Assign [.Name x pos'] e pos) (oS te (eY i)):=by
 intro J' s σ H D I h;refine wpAny_Assign_Name (bt (he J' s σ H _ I h) λv s1#[y,H1,I1,r1,q1]=>?_) hs;exact iI I1 hN hi hx r1 (λs2 I2=>#[_,H1,I2,q1]) hf
def K7(i:Nat)(te:TE)(ti:LO):TS:=λD σ H=>∃x,σ[i]?=U (U x)/\te σ H λy H1=>ti x y H1 λz H2=>D.nx (σ.set i (U z)) H2
theorem GF{i:Nat}{x:Str}{e:Expr}{te:TE}{op:Operator}{ti:LO}{pos':Pos}(hN:X.N.Nodup)(hi:X.N[i]?=U x)(hx:Loc X.env.scope x)(he:PE X e te)(ho:Po X op ti)(hf:X.fn x=B'\/X.env.scope.names.lookup x=U .local:=by first|exact .inl rfl|exact .inr rfl|assumption):
  PS X (.AugAssign (.Name x pos') op e pos) (K7 i te ti):=by
 intro J' s σ H D I h;obtain⟨v,e1,h⟩:=h;obtain⟨m,hn,hl⟩:=I.loc;have vis:En X.env.scope x:=by rcases hx with k|k;exact .inl k;exact .inr (.inl k)
 obtain⟨u,r,l⟩:=hl i x v hi e1 vis;refine wpAny_AugAssign_Name ?_;have go:wpAny (model X.prog X.w) X.A (eval e X.env) (λw s₂=>wpAny (model X.prog X.w) X.A (inplaceOp op u w) (λr s₃=>wpAny (model X.prog X.w) X.A (storeName X.env x r) (λ_=>SP X J' D .next) X.xe s₃) X.xe s₂) X.xe s:=by
  refine bt (he J' s σ H _ I h) λw s1#[y,H1,I1,r1,q1]=>?_
  refine bt (ho J' s1 σ H1 v y u w _ I1 r r1 q1) λz s2#[zv,H2,I2,r2,q2]=>?_
  exact iI I2 hN hi hx r2 (λs3 I3=>#[_,H2,I3,q2]) hf
 rcases l with ⟨hk,hm⟩|⟨hk,c,hc,kv⟩
 ·exact wpAny_loadName_local I.ok.kind hk hn hm go
 ·rcases hk with hk|hk
  ·exact wpAny_loadName_cell I.ok.kind hk hc kv go
  ·rcases hx with k|k
   ·have:X.env.scope.names.lookup x=U .free:=hk;rw[k]at this;cases this
   ·have:X.env.scope.names.lookup x=U .free:=hk;rw[k]at this;cases this
def Qr(f:Int->Int->Int):LO:=λx y H Q=>∃i j,x= .int i/\y= .int j/\Q (.int (f i j)) H
theorem Fq:Po X .Add (Qr λi j=>i+j):=by intro J' s σ H x y v u Q I r1 r2 h;obtain⟨i,j,e1,e2,q⟩:=h;subst e1;subst e2;obtain⟨t,rfl⟩:=r1;obtain⟨t',rfl⟩:=r2;exact iadd_int #[.int _,H,I.tok _,#[_,rfl],q]
end
section
variable{X:Cx}{pos:Pos}
def AC(c:TT)(tb:TS):TS:=λD σ H=>∃W:Nat->St->Hp->Prop,(∃m,W m σ H)/\∀m σ H,W m σ H->
 c σ H λb H1=>if b=B' then∃N:St->Hp->Prop,(∀σ' H',N σ' H'->∃m',m'<m/\W m' σ' H')/\tb {D with nx:=N,ct:=N,bk:=D.nx} σ H1 else D.nx σ H1
theorem zY{c:Expr}{body:List Stmt}{tc:TT}{tb:TS}(hp:PassesOwn (model X.prog X.w) X.A X.env X.xe)(hc:PT X c tc)(hb:oY X body tb):PS X (.While c body [] pos) (AC tc tb):=by
 intro J' s σ H D I h;obtain⟨W,⟨m0,w0⟩,turn⟩:=h;refine wpAny_While (codeAny_whileLoop (λn s'=>∃σ' H',Inv X J' σ' H' s'/\W n σ' H') ?_ m0 #[σ,H,I,w0]);rintro n s1 ⟨σ1,H1,I1,w1⟩;refine Wm hp (bt (hc J' s1 σ1 H1 _ I1 (turn n σ1 H1 w1)) λb s2#[H2,I2,q2]=>?_);cases b with
 |true=>
  obtain⟨N,hN,q2⟩:=q2;rw[V2 rfl];refine Wm hp (bt (hb J' s2 σ1 H2 _ I2 q2) λf s3 q3=>?_);cases f with
  |next=>obtain⟨σ3,H3,I3,n3⟩:=q3;obtain⟨m',hm,w3⟩:=hN σ3 H3 n3;exact#[m',hm,σ3,H3,I3,w3]
  |cont=>obtain⟨σ3,H3,I3,n3⟩:=q3;obtain⟨m',hm,w3⟩:=hN σ3 H3 n3;exact#[m',hm,σ3,H3,I3,w3]
  |brk=>exact q3
  |ret v=>exact q3
 |false=>rw[V1 UB];exact wpAny_execs_nil #[σ1,H2,I2,q2]
end
structure It where
 go:Nat->Hp->Prop
 yld:Nat->Hp->V->Hp->Prop
 stop:Nat->Hp->Prop
def gq(X:Cx)(J':List (Addr×Obj))(H:Hp)(b:Addr):Prop:=
 H b=y'/\b≠X.env.locals/\b∉X.fs/\(b∈X.ex\/X.s₀.heap.objs.size<=b)/\(∀x c,X.env.cells.lookup x=U c->c≠b)/\∀p∈X.pn++J',p.1≠b
theorem Inv.nS{X:Cx}{J':List (Addr×Obj)}{σ:St}{H H':Hp}{s:Shared}{b:Addr}(I:Inv X J' σ H s)(hb:s.heap.objs.size<=b)(hn:H' b=y'):gq X J' H' b:=by
 refine#[hn,VI (TU I.lt hb),I.Ox hb,.inr (Tz I.sz hb),λx c e z=>?_,λp hp z=>?_]
 ·obtain⟨v,q⟩:=I.cell x c e;exact absurd (TU q.lt (by rw[z];exact hb)) (VE _)
 ·exact absurd (TU (Tx (I.pin p hp).1) (by rw[z];exact hb)) (VE _)
structure Turn(P:Program)(w:World)(K:PySem.W.Frag)(tg:Expr)(J:It)(fp:List Addr)(it:Addr)(tn:Nat->Heap->Prop):Prop where
 mem:it∈fp
 obj:∀i h,tn i h->∀b∈fp,∃o,h.get? b=U o/\∀v,o.data≠ .cell v
 keep:∀i h h',tn i h->(∀b∈fp,∀o,h.get? b=U o->h'.get? b=U o)->tn i h'
 item:∀(X:Cx),X.prog=P->X.w=w->X.K=K->X.calm=B'->∀(i:Nat)(J':List (Addr×Obj))(s:Shared)(σ:St)(H:Hp)(E:Value->Shared->Prop),Inv X J' σ H s->(∀b∈fp,gq X J' H b)->tn i s.heap->J.go i H->
  wpAny (model P w) X.A (pyNext (.ref it)) (λr s1=>∃u,r=U u/\
   wpAny (model P w) X.A (letOwnedTupleGo tg (.ref it) u) (λ_ s2=>∃x H',Inv X J' σ H' s2/\RelV x u/\J.yld i H x H'/\tn (i+1) s2.heap/\∀b∈fp,H' b=y') E s1) E s
 done:∀(X:Cx),X.prog=P->X.w=w->X.K=K->X.calm=B'->∀(i:Nat)(J':List (Addr×Obj))(s:Shared)(σ:St)(H:Hp)(E:Value->Shared->Prop),Inv X J' σ H s->(∀b∈fp,gq X J' H b)->tn i s.heap->J.stop i H->
  wpAny (model P w) X.A (pyNext (.ref it)) (λr s1=>r=y'/\Inv X J' σ H s1) E s
 self:∀(A:Around)(i:Nat)(s:Shared)(Q:Value->Shared->Prop)(E:Value->Shared->Prop),tn i s.heap->Q (.ref it) s->wpAny (model P w) A (pyIter (.ref it)) Q E s
abbrev TI:=St->Hp->(It->Hp->Prop)->Prop
def MO(X:Cx)(J':List (Addr×Obj))(σ:St)(tg:Expr)(R:It->Hp->Prop)(rM:Value)(s2:Shared):Prop:=
 ∃(it:Addr)(fp:List Addr)(tn:Nat->Heap->Prop)(J:It)(H':Hp),rM= .ref it/\Inv X J' σ H' s2/\Turn X.prog X.w X.K tg J fp it tn/\tn 0 s2.heap/\(∀b∈fp,gq X J' H' b)/\R J H'
def PI(X:Cx)(tg iter:Expr)(wi:TI):Prop:=
 ∀(J':List (Addr×Obj))(s:Shared)(σ:St)(H:Hp)(R:It->Hp->Prop),Inv X J' σ H s->wi σ H R->
  wpAny (model X.prog X.w) X.A (eval iter X.env) (λv s1=>wpAny (model X.prog X.w) X.A (pyIter v) (MO X J' σ tg R) X.xe s1) X.xe s
theorem pP{M:Model}{A:Around}{E:Value->Shared->Prop}{s:Shared}{tg:Expr}{it:Addr}{u:Value}{o:Obj}{n:String}{vs:Array Value}{Q:Unit->Shared->Prop}(ho:s.heap.get? it=U o)(hc:o.cls= .type n)(hd:o.data= .fields vs)
  (hn:["enumerate","zip","dict_itemiterator","dict_reverseitemiterator","odict_iterator","itertools.zip_longest","itertools.pairwise"].contains n=G') (hQ:Q () s):wpAny M A (letOwnedTupleGo tg (.ref it) u) Q E s:=by
 unfold letOwnedTupleGo;cases tg<;>first
  |exact Th hQ
  |(cases u<;>first
    |exact Th hQ
    |(refine Td (wpAny_load ho ?_);rw[hc,hd];show wpAny M A (if (["enumerate","zip","dict_itemiterator","dict_reverseitemiterator","odict_iterator","itertools.zip_longest","itertools.pairwise"].contains n&&vs[0]?==U (rawInt _))=B' then _ else _) Q E s;rw[V1 (by intro h;rw[hn,Bool.false_and]at h;cases h)];exact Th hQ))
def LH(K:PySem.W.Frag)(a:Addr):It:=
 #[λi H=>∃xs x,du K H a xs/\xs[i]?=U x,λi H x H'=>H'=H/\∀xs,du K H a xs->xs[i]?=U x,λi H=>∃xs,du K H a xs/\xs.length<=i]
def MJ(K:PySem.W.Frag)(a:Addr):It:=
 #[λi H=>∃xs x,dO K H a xs/\xs[i]?=U x,λi H x H'=>H'=H/\∀xs,dO K H a xs->xs[i]?=U x,λi H=>∃xs,dO K H a xs/\xs.length<=i]
def LI(lo:Int)(n:Nat):It:=#[λi _=>i<n,λi H x H'=>H'=H/\x= .int (lo+i),λi _=>n<=i]
theorem wZ{P:Program}{w:World}{K:PySem.W.Frag}{tg:Expr}(a it:Addr):Turn P w K tg (LH K a) [it] it (λi h=>h.IsListIter it a i) where
 mem:=by simp
 obj:=λi h st b hb=>by
  have e:b=it:=by simpa using hb
  subst e;obtain⟨o,e,c,d⟩:=st;exact#[o,e,λv z=>by rw[d]at z;cases z]
 keep:=λi h h' st k=>st.at λo e=>k it (by simp) o e
 item:=by
  intro X hP hw hK hc i J' s σ H E I hf st hg;subst hP hw hK;obtain⟨xs,x,hq,hx⟩:=hg;obtain⟨its,rv,p,hz⟩:=I.list hq;obtain⟨u,hu,ru⟩:=rv.get hx;obtain⟨f0,f1,f2,f3,f4,f5⟩:=hf it (by simp);refine wpAny_pyNext_list_item st p.isList (x:=u) (by simpa using hu) λh' ak sb=>?_
  have I1:Inv X J' σ H {s with heap:=h'}:=I.turned (t':=s.toks) (λb o hb e=>(sb.2 b hb).trans e) f0 f1 f3 f4 f5;obtain⟨o,e,c,d⟩:=id ak;exact#[u,rfl,pP (s:={s with heap:=h'}) e c d (by decide) #[x,H,I1,ru,#[rfl,λys hy=>by rw[I.zp hy hq];exact hx],ak,λb hb=>(hf b hb).1]]
 done:=by intro X hP hw hK hc i J' s σ H E I hf st hg;subst hP hw hK;obtain⟨xs,hq,hx⟩:=hg;obtain⟨its,rv,p,hz⟩:=I.list hq;obtain⟨f0,f1,f2,f3,f4,f5⟩:=hf it (by simp);have hl:=rv.length;exact wpAny_pyNext_list_end (I.ok.hd hc) st p.isList (by simp;lia) λh' eb=>#[rfl,I.turned (t':=s.toks) (λb o hb e=>eb b o hb e) f0 f1 f3 f4 f5]
 self:=λ_ _ _ _ _ st h=>wpAny_pyIter_listiter st h
theorem sY{P:Program}{w:World}{K:PySem.W.Frag}{tg:Expr}(a it:Addr):Turn P w K tg (MJ K a) [it] it (λi h=>h.IsTupleIter it a i) where
 mem:=by simp
 obj:=λi h st b hb=>by
  have e:b=it:=by simpa using hb
  subst e;obtain⟨o,e,c,d⟩:=st;exact#[o,e,λv z=>by rw[d]at z;cases z]
 keep:=λi h h' st k=>st.at λo e=>k it (by simp) o e
 item:=by
  intro X hP hw hK hc i J' s σ H E I hf st hg;subst hP hw hK;obtain⟨xs,x,hq,hx⟩:=hg;obtain⟨its,rv,p,hz⟩:=I.tuple hq;obtain⟨u,hu,ru⟩:=rv.get hx;obtain⟨f0,f1,f2,f3,f4,f5⟩:=hf it (by simp);refine wpAny_pyNext_tuple_item st (show s.heap.IsTuple a its.toArray from p) (x:=u) (by simpa using hu) λh' ak sb=>?_
  have I1:Inv X J' σ H {s with heap:=h'}:=I.turned (t':=s.toks) (λb o hb e=>(sb.2 b hb).trans e) f0 f1 f3 f4 f5;obtain⟨o,e,c,d⟩:=id ak;exact#[u,rfl,pP (s:={s with heap:=h'}) e c d (by decide) #[x,H,I1,ru,#[rfl,λys hy=>by rw[I.wY hy hq];exact hx],ak,λb hb=>(hf b hb).1]]
 done:=by intro X hP hw hK hc i J' s σ H E I hf st hg;subst hP hw hK;obtain⟨xs,hq,hx⟩:=hg;obtain⟨its,rv,p,hz⟩:=I.tuple hq;obtain⟨f0,f1,f2,f3,f4,f5⟩:=hf it (by simp);have hl:=rv.length;exact wpAny_pyNext_tuple_end (I.ok.hd hc) st (show s.heap.IsTuple a its.toArray from p) (by simp;lia) λh' eb=>#[rfl,I.turned (t':=s.toks) (λb o hb e=>eb b o hb e) f0 f1 f3 f4 f5]
 self:=λ_ _ _ _ _ st h=>wpAny_pyIter_tupleiter st h
theorem lD{P:Program}{w:World}{K:PySem.W.Frag}{tg:Expr}(it:Addr)(lo:Int)(n:Nat):Turn P w K tg (LI lo n) [it] it (λi h=>IsRangeIter h it (lo+(i:Nat)*1) ((n:Int)-(i:Nat)) 1) where
 mem:=by simp
 obj:=λi h st b hb=>by
  have e:b=it:=by simpa using hb
  subst e;exact#[_,st,λv z=>by
   have z':Data.fields _=Data.cell v:=z;cases z']
 keep:=λi h h' st k=>k it (by simp) _ st
 item:=by
  intro X hP hw hK hc i J' s σ H E I hf st hg;subst hP hw hK;obtain⟨f0,f1,f2,f3,f4,f5⟩:=hf it (by simp);have W:=Walks.range (prog:=X.prog) (w:=X.w) (I.ok.hd hc) it lo 1 n;refine W.item i s _ _ hg st λv h' tk hv ak kk=>?_
  obtain⟨t,rfl⟩:=hv;have I1:Inv X J' σ H {s with heap:=h',toks:=tk}:=I.turned (λb o hb e=>kk b o (by simpa using hb) e) f0 f1 f3 f4 f5;refine#[_,rfl,pP (s:={s with heap:=h',toks:=tk}) (n:="range_iterator") ak rfl rfl (by decide) #[.int (lo+i),H,I1,#[t,?_],#[rfl,rfl],ak,λb hb=>(hf b hb).1]];rw[Int.mul_one]
 done:=by intro X hP hw hK hc i J' s σ H E I hf st hg;subst hP hw hK;obtain⟨f0,f1,f2,f3,f4,f5⟩:=hf it (by simp);exact wpAny_pyNext_range_end (I.ok.hd hc) st (by have:n<=i:=hg;lia) λh' eb=>#[rfl,I.turned (t':=s.toks) (λb o hb e=>eb b o hb e) f0 f1 f3 f4 f5]
 self:=λ_ _ _ _ _ st h=>wpAny_pyIter_rangeiter st h
end L2
namespace L2
open PySem PySem.Spec PyProof.Rows
section
variable{X:Cx}{tg:Expr}
theorem Ak{J':List (Addr×Obj)}{σ:St}{H:Hp}{s:Shared}{R:It->Hp->Prop}{E:Value->Shared->Prop}{lo hi:Int}{t u v:Tok}{tk:Nat}(I:Inv X J' σ H s)(h1: -(2^62)<=lo)(h2:lo<2^62)(h3: -(2^62)<=hi)(h4:hi<2^62)
  (q:R (LI lo (hi-lo).toNat) H):wpAny (model X.prog X.w) X.A (pyIter (.ref s.heap.objs.size)) (MO X J' σ tg R) E {s with heap:=s.heap.push {cls:=.type "range",data:=.fields [.int lo t,.int hi u,.int 1 v].toArray},toks:=tk}:=by
 refine wpAny_pyIter_range (IsRange.new ..) (small_one h1 h2 h3 h4) ?_;have I1:Inv X J' σ H {s with heap:=s.heap.push {cls:=.type "range",data:=.fields [.int lo t,.int hi u,.int 1 v].toArray},toks:=tk}:=I.kept λb o e=>Tf _ e
 refine#[(s.heap.push {cls:=.type "range",data:=.fields [.int lo t,.int hi u,.int 1 v].toArray}).objs.size,[(s.heap.push {cls:=.type "range",data:=.fields [.int lo t,.int hi u,.int 1 v].toArray}).objs.size],_,_,H,rfl,
  I1.kept (t':=tk) λb o e=>Tf _ e,lD _ lo (hi-lo).toNat,?_,λb hb=>?_,q]
 ·have e1:lo+((0:Nat):Int)*1=lo:=by simp
  have e2:(((hi-lo).toNat:Nat):Int)-((0:Nat):Int)=Builtin.Range.rangeSize lo hi 1:=by rw[rangeSize_one];split<;>lia
  show IsRangeIter _ _ (lo+((0:Nat):Int)*1) ((((hi-lo).toNat:Nat):Int)-((0:Nat):Int)) 1;rw[e1,e2];exact Tu _ rfl
 ·have e:b=(s.heap.push {cls:=.type "range",data:=.fields [.int lo t,.int hi u,.int 1 v].toArray}).objs.size:=by simpa using hb
  subst e;exact I1.nS (Tr _) (I1.hok.fresh (Tr _))
def JN(ta:TA):TI:=λσ H R=>ta σ H λvs H1=>∃j:Int,vs=[.int j]/\ -(2^62)<=j/\j<2^62/\R (LI 0 j.toNat) H1
theorem wD{a:Expr}{ta:TA}{p pos:Pos}(hg:Gl X "range")(hm:X.mg "range"=y')(ha:PA X [a] ta)(hs:starEach [a] X.env=[(G',eval a X.env)]:=by rfl):PI X tg (.Call (.Name "range" p) [a] [] pos) (JN ta):=by
 intro J' s σ H R I h;refine Call_ (iY I hg hm boot_range (VO (bt (ha pos J' s σ H _ I h) λus s1#[vs,H1,I1,r1,q1]=>?_) hs rfl));obtain⟨j,e,q1,q2,q⟩:=q1;subst e;cases r1 with
 |cons r rr=>cases rr;obtain⟨t,rfl⟩:=r;exact call_range_1 (Ak I1 ⋯ ⋯ q1 q2 (by simpa using q))
def La(wi:TI)(g:TG)(tb:TS):TS:=λD σ H=>wi σ H λJ H1=>∃W:Nat->Nat->St->Hp->Prop,(∃m,W 0 m σ H1)/\∀i m σ H,W i m σ H->
 (J.stop i H/\D.nx σ H)\/(J.go i H/\∃N:St->Hp->Prop,(∀σ' H',N σ' H'->∃m',m'<m/\W (i+1) m' σ' H')/\∀x H',J.yld i H x H'->g x σ H' λσ2 H2=>tb {D with nx:=N,ct:=N,bk:=D.nx} σ2 H2)
def kX(fp:List Addr)(h:Heap):List (Addr×Obj):=fp.filterMap λb=>(h.get? b).map λo=>(b,o)
theorem eJ{fp:List Addr}{h:Heap}{b:Addr}{o:Obj}(hb:b∈fp)(e:h.get? b=U o):(b,o)∈kX fp h:=Vj.mpr #[b,hb,by rw[e];rfl]
theorem wy{fp:List Addr}{h:Heap}{p:Addr×Obj}(hp:p∈kX fp h):p.1∈fp/\h.get? p.1=U p.2:=by
 obtain⟨b,hb,e⟩:=Vj.mp hp;cases q:h.get? b with
 |none=>rw[q]at e;cases e
 |some o=>rw[q]at e;have e':(b,o)=p:=VN e;subst e';exact#[hb,q]
theorem Inv.pinned{J':List (Addr×Obj)}{σ:St}{H:Hp}{s:Shared}{fp:List Addr}(I:Inv X J' σ H s)(hf:∀b∈fp,gq X J' H b)(ho:∀b∈fp,∃o,s.heap.get? b=U o/\∀v,o.data≠ .cell v):Inv X (J'++kX fp s.heap) σ H s:=
 I.fR λp hp=>(TV.mp hp).elim (λz=>I.pin p (T8 _ z)) λz=>by obtain⟨hb,e⟩:=wy z;obtain⟨f0,f1,f2,_⟩:=hf p.1 hb;obtain⟨o,e',d⟩:=ho p.1 hb;rw[e]at e';cases e';exact#[e,f0,f1,f2,d]
theorem Inv.iN{J' pl:List (Addr×Obj)}{σ:St}{H:Hp}{s:Shared}(I:Inv X (J'++pl) σ H s):Inv X J' σ H s:=I.fR λp hp=>I.pin p (T8 _ (Vi _ hp))
theorem GG{iter:Expr}{body:List Stmt}{wi:TI}{g:TG}{tb:TS}{pos:Pos}(hp:PassesOwn (model X.prog X.w) X.A X.env X.xe)(hc:X.calm=B')(hi:PI X tg iter wi)(hg:PG X tg g)(hb:oY X body tb)
  (hs:∀x,foldedSetIterable iter X.env x=pure x:=by intro _;rfl):PS X (.For tg iter body [] pos) (La wi g tb):=by
 intro J' s σ H D I h;refine wpAny_For (bt (hi J' s σ H _ I h) λv s1 h1=>bt h1 λrM s2 h2=>?_) hs;obtain⟨it,fp,tn,J,H2,e,I2,T,dJ,f2,W,⟨m0,w0⟩,turn⟩:=h2;subst e;have oP:∀{H':Hp},(∀b∈fp,H' b=y')->∀b∈fp,gq X J' H' b:=λhn b hb=>#[hn b hb,(f2 b hb).2]
 refine codeAny_forLoop_any (λn s'=>∃i σ' H',Inv X J' σ' H' s'/\tn i s'.heap/\(∀b∈fp,H' b=y')/\W i n σ' H') ?_ m0 #[0,σ,H2,I2,dJ,λb hb=>(f2 b hb).1,w0];rintro n s3 ⟨i,σ3,H3,I3,Il,PN,w3⟩;rcases turn i n σ3 H3 w3 with ⟨stop,qn⟩|⟨go,N,hN,step⟩
 ·refine Wm hp (bt (T.done X rfl rfl rfl hc i J' s3 σ3 H3 X.xe I3 (oP PN) Il stop) λr s4#[hr,I4]=>?_);subst hr;exact wpAny_execs_nil #[σ3,H3,I4,qn]
 ·refine Wm hp (bt (T.item X rfl rfl rfl hc i J' s3 σ3 H3 X.xe I3 (oP PN) Il go) λr s4#[u,hr,h4]=>?_);subst hr;refine Wm hp (bt h4 λ_ s5#[x,H5,I5,r5,y5,OZ,Nz]=>?_);have QR:=I5.pinned (oP Nz) (T.obj _ _ OZ);refine Wm hp (bt (hg _ s5 σ3 H5 x u _ QR r5 (step x H5 y5)) λ_ s6#[σ6,H6,I6,q6]=>?_);refine Wm hp (bt (hb _ s6 σ6 H6 _ I6 q6) λf s7 q7=>?_);have again:∀{σ7:St}{H7:Hp},Inv X (J'++kX fp s5.heap) σ7 H7 s7->N σ7 H7->∃m,m<n/\∃i σ' H',Inv X J' σ' H' s7/\tn i s7.heap/\(∀b∈fp,H' b=y')/\W i m σ' H':=λ {σ7 H7} I7 n7=>by obtain⟨m',hm,w7⟩:=hN σ7 H7 n7;refine#[m',hm,i+1,σ7,H7,I7.iN,T.keep _ _ _ OZ λb hb o e=>(I7.pin (b,o) (T8 _ (T8 _ (eJ hb e)))).1,λb hb=>?_,w7];obtain⟨o,e,d⟩:=T.obj _ _ OZ b hb;exact(I7.pin (b,o) (T8 _ (T8 _ (eJ hb e)))).2.1
  cases f with
  |next=>obtain⟨σ7,H7,I7,n7⟩:=q7;exact again I7 n7
  |cont=>obtain⟨σ7,H7,I7,n7⟩:=q7;exact again I7 n7
  |brk=>obtain⟨σ7,H7,I7,q7⟩:=q7;exact#[σ7,H7,I7.iN,q7]
  |ret v=>obtain⟨x7,σ7,H7,I7,r7,q7⟩:=q7;exact#[x7,σ7,H7,I7.iN,r7,q7]
end
end L2
namespace L2
open PySem PySem.Spec PyProof.Rows
abbrev R2:=V->V->Hp->VK->Prop
def gP(X:Cx)(f:Value->Value->Sem Value)(r:R2):Prop:=
 ∀(J':List (Addr×Obj))(s:Shared)(σ:St)(H:Hp)(x y:V)(v u:Value)(Q:VK),Inv X J' σ H s->RelV x v->RelV y u->r x y H Q->
  wpAny (model X.prog X.w) X.A (f v u) (EP X J' σ Q) X.xe s
def MS(X:Cx)(f:Value->Sem Value)(r:V->Hp->VK->Prop):Prop:=
 ∀(J':List (Addr×Obj))(s:Shared)(σ:St)(H:Hp)(x:V)(v:Value)(Q:VK),Inv X J' σ H s->RelV x v->r x H Q->
  wpAny (model X.prog X.w) X.A (f v) (EP X J' σ Q) X.xe s
def dy(X:Cx)(f:Value)(r:List V->Hp->VK->Prop):Prop:=
 ∀(J':List (Addr×Obj))(s:Shared)(σ:St)(H:Hp)(xs:List V)(us:List Value)(Q:VK),Inv X J' σ H s->ay xs us->r xs H Q->
  wpAny (model X.prog X.w) X.A (call f us) (EP X J' σ Q) X.xe s
def MR(X:Cx)(r:V->Hp->(Bool->Hp->Prop)->Prop):Prop:=
 ∀(J':List (Addr×Obj))(s:Shared)(σ:St)(H:Hp)(x:V)(v:Value)(Q:Bool->Hp->Prop),Inv X J' σ H s->RelV x v->r x H Q->
  wpAny (model X.prog X.w) X.A (truthy v) (TP X J' σ Q) X.xe s
def Mt(r:R2)(ta tb:TE):TE:=λσ H Q=>ta σ H λx H1=>tb σ H1 λy H2=>r x y H2 Q
def Sw(r:V->Hp->VK->Prop)(ta:TE):TE:=λσ H Q=>ta σ H λx H1=>r x H1 Q
def rI(C:Int->Int->Prop)(g:Int->Int->V):R2:=λx y H Q=>∃i j,x= .int i/\y= .int j/\C i j/\Q (g i j) H
def DY(g:Int->Int->V):R2:=λx y H Q=>∃i j,x= .int i/\y= .int j/\Q (g i j) H
def rU(g:Int->V):V->Hp->VK->Prop:=λx H Q=>∃i,x= .int i/\Q (g i) H
section
variable{X:Cx}{a b:Expr}{ta tb:TE}{pos:Pos}
theorem Ex(ha:PE X a ta)(hb:PE X b tb){J':List (Addr×Obj)}{s:Shared}{σ:St}{H:Hp}{R:V->V->Hp->Prop}(I:Inv X J' σ H s)
  (h:ta σ H λx H1=>tb σ H1 λy H2=>R x y H2) {Q:Value->Shared->Prop} {f:Value->Value->Sem Value}
  (hf:∀v u s2 x y H2,Inv X J' σ H2 s2->RelV x v->RelV y u->R x y H2->wpAny (model X.prog X.w) X.A (f v u) Q X.xe s2):
  wpAny (model X.prog X.w) X.A (eval a X.env) (λv s₁=>wpAny (model X.prog X.w) X.A (eval b X.env) (λu s₂=>wpAny (model X.prog X.w) X.A (f v u) Q X.xe s₂) X.xe s₁) X.xe s:=by
 refine bt (ha J' s σ H _ I h) λv s1#[x,H1,I1,r1,q1]=>?_
 refine bt (hb J' s1 σ H1 _ I1 q1) λu s2#[y,H2,I2,r2,q2]=>?_
 exact hf v u s2 x y H2 I2 r1 r2 q2
theorem DU{op:Operator}{r:R2}(ho:gP X (binaryOp op) r)(ha:PE X a ta)(hb:PE X b tb):PE X (.BinOp a op b pos) (Mt r ta tb):=by intro J' s σ H Q I h;exact wpAny_BinOp (Ex ha hb I h λv u s2 x y H2 I2 rx ry q=>ho J' s2 σ H2 x y v u Q I2 rx ry q)
theorem Kr{op:UnaryOp}{r:V->Hp->VK->Prop}(ho:MS X (unaryOp op) r)(ha:PE X a ta):PE X (.UnaryOp op a pos) (Sw r ta):=by intro J' s σ H Q I h;exact UnaryOp_ (bt (ha J' s σ H _ I h) λv s1#[x,H1,I1,r1,q1]=>ho J' s1 σ H1 x v Q I1 r1 q1)
theorem Mp{f:Value->Value->Sem Value}{C:Int->Int->Prop}{g:Int->Int->Int}
  (rule:∀(i j:Int)(t u:Tok)(s:Shared)(Q:Value->Shared->Prop)(E:Value->Shared->Prop),C i j->Q (.int (g i j) s.toks) {s with toks:=s.toks+1}->wpAny (model X.prog X.w) X.A (f (.int i t) (.int j u)) Q E s):
  gP X f (rI C λi j=>.int (g i j)):=by
 intro J' s σ H x y v u Q I rx ry h;obtain⟨i,j,rfl,rfl,hc,q⟩:=h;obtain⟨t,rfl⟩:=rx;obtain⟨t',rfl⟩:=ry;exact rule i j t t' s _ _ hc #[.int (g i j),H,I.tok _,#[_,rfl],q]
theorem Kk{f:Value->Value->Sem Value}{g:Int->Int->Int}
  (rule:∀(i j:Int)(t u:Tok)(s:Shared)(Q:Value->Shared->Prop)(E:Value->Shared->Prop),Q (.int (g i j) s.toks) {s with toks:=s.toks+1}->wpAny (model X.prog X.w) X.A (f (.int i t) (.int j u)) Q E s):
  gP X f (DY λi j=>.int (g i j)):=by
 intro J' s σ H x y v u Q I rx ry h;obtain⟨i,j,rfl,rfl,q⟩:=h;obtain⟨t,rfl⟩:=rx;obtain⟨t',rfl⟩:=ry;exact rule i j t t' s _ _ #[.int (g i j),H,I.tok _,#[_,rfl],q]
theorem Cn{f:Value->Value->Sem Value}{g:Int->Int->Bool}
  (rule:∀(i j:Int)(t u:Tok)(s:Shared)(Q:Value->Shared->Prop)(E:Value->Shared->Prop),Q (.bool (g i j)) s->wpAny (model X.prog X.w) X.A (f (.int i t) (.int j u)) Q E s):
  gP X f (DY λi j=>.bl (g i j)):=by
 intro J' s σ H x y v u Q I rx ry h;obtain⟨i,j,rfl,rfl,q⟩:=h;obtain⟨t,rfl⟩:=rx;obtain⟨t',rfl⟩:=ry;exact rule i j t t' s _ _ #[.bl (g i j),H,I,rfl,q]
def MB(i j:Int):Prop:=0<=j/\j<=1000000/\i.natAbs<2^64
def Ec(i j:Int):Prop:=(-(2^64)<i/\i<2^64)\/(-(2^64)<j/\j<2^64)
theorem Ec.ok{i j:Int}(h:Ec i j):IntMulOk i j:=by
 rcases h with ⟨h1,h2⟩|⟨h1,h2⟩
 ·exact .of_left (intBits_le_64 h1 h2)
 ·exact .of_right (intBits_le_64 h1 h2)
theorem Ga:gP X (binaryOp .Add) (DY λi j=>.int (i+j)):=Kk λ_ _ _ _ _ _ _ q=>add_int q
theorem Gi:gP X (binaryOp .Sub) (DY λi j=>.int (i-j)):=Kk λ_ _ _ _ _ _ _ q=>sub_int q
theorem Gg:gP X (binaryOp .Mult) (rI Ec λi j=>.int (i*j)):=Mp λ_ _ _ _ _ _ _ hc q=>mul_int q hc.ok
theorem Cq:gP X (binaryOp .Mod) (rI (λ_ j=>j≠0) λi j=>.int (i.fmod j)):=Mp λ_ _ _ _ _ _ _ hc q=>mod_int' hc q
theorem Gh:gP X (binaryOp .Pow) (rI MB λi j=>.int (i^j.toNat)):=Mp λ_ _ _ _ _ _ _ hc q=>pow_int_small hc.1 hc.2.1 hc.2.2 q
theorem SA{f:Value->Sem Value}{g:Int->Int}
  (rule:∀(i:Int)(t:Tok)(s:Shared)(Q:Value->Shared->Prop)(E:Value->Shared->Prop),Q (.int (g i) s.toks) {s with toks:=s.toks+1}->wpAny (model X.prog X.w) X.A (f (.int i t)) Q E s):
  MS X f (rU λi=>.int (g i)):=by
 intro J' s σ H x v Q I rx h;obtain⟨i,rfl,q⟩:=h;obtain⟨t,rfl⟩:=rx;exact rule i t s _ _ #[.int (g i),H,I.tok _,#[_,rfl],q]
theorem Hu:MS X (unaryOp .USub) (rU λi=>.int (-i)):=SA λ_ _ _ _ _ q=>neg_int q
end
section
variable{X:Cx}{a b c:Expr}{ta tb tc:TE}{pos:Pos}
theorem rz{J':List (Addr×Obj)}{σ:St}{H:Hp}{s:Shared}{Q:VK}{k k':Bool}(I:Inv X J' σ H s)(q:Q (.bl k) H)(e:k=k'):EP X J' σ Q (.bool k') s:=by subst e;exact#[.bl k,H,I,rfl,q]
theorem Ko:gP X (compareOp .Lt) (DY λi j=>.bl (decide (i<j))):=Cn λ_ _ _ _ _ _ _ q=>lt_int q
theorem Kn:gP X (compareOp .LtE) (DY λi j=>.bl (decide (i<=j))):=Cn λ_ _ _ _ _ _ _ q=>le_int q
theorem Km:gP X (compareOp .Gt) (DY λi j=>.bl (decide (j<i))):=Cn λ_ _ _ _ _ _ _ q=>gt_int q
theorem Kl:gP X (compareOp .GtE) (DY λi j=>.bl (decide (j<=i))):=Cn λ_ _ _ _ _ _ _ q=>ge_int q
theorem Gf:gP X (compareOp .Is) (λx y H Q=>y= .aE/\Q (.bl (decide (x= .aE))) H):=by
 intro J' s σ H x y v u Q I rx ry h;obtain⟨rfl,q⟩:=h;cases ry;refine is_none_gen (rz I q ?_);cases x<;>first
  |(cases rx;rfl)
  |(obtain⟨t,rfl⟩:=rx;rfl)
theorem Cr:gP X (compareOp .IsNot) (λx y H Q=>y= .aE/\Q (.bl (!decide (x= .aE))) H):=by
 intro J' s σ H x y v u Q I rx ry h;obtain⟨rfl,q⟩:=h;cases ry;refine isnot_none_gen (rz I q ?_);cases x<;>first
  |(cases rx;rfl)
  |(obtain⟨t,rfl⟩:=rx;rfl)
theorem uZ{op:CmpOp}{r:R2}(ho:gP X (compareOp op) r)(ha:PE X a ta)(hb:PE X b tb)(hm:behindInMarks op b=G'):PE X (.Compare a [op] [b] pos) (Mt r ta tb):=by intro J' s σ H Q I h;exact wpAny_Compare1 (Ex ha hb I h λv u s2 x y H2 I2 rx ry q=>ho J' s2 σ H2 x y v u Q I2 rx ry q) hm
def D7(t:TE):TT:=λσ H Q=>t σ H λx H'=>∃k,x= .bl k/\Q k H'
theorem CL{op:CmpOp}{r:R2}(ho:gP X (compareOp op) r)(ha:PE X a ta)(hb:PE X b tb)(hm:behindInMarks op b=G'):PT X (.Compare a [op] [b] pos) (D7 (Mt r ta tb)):=by
 intro J' s σ H Q I h;refine wpAny_isTrue_Compare1 (bt (ha J' s σ H _ I h) λv s1#[x,H1,I1,r1,q1]=>bt (hb J' s1 σ H1 _ I1 q1) λu s2#[y,H2,I2,r2,q2]=>
  bt (ho J' s2 σ H2 x y v u _ I2 r1 r2 q2) λc s3#[z,H3,I3,r3,k,e,q3]=>?_) hm
 subst e;cases r3;exact Ws #[H3,I3,q3]
def Az(r r':R2)(ta tb tc:TE):TE:=λσ H Q=>ta σ H λx H1=>tb σ H1 λy H2=>r x y H2 λz H3=>∃k,z= .bl k/\
 (if k=B' then tc σ H3 λw' H4=>r' y w' H4 Q else Q (.bl G') H3)
theorem zI{op oy:CmpOp}{r r':R2}(ho:gP X (compareOp op) r)(nY:gP X (compareOp oy) r')(ha:PE X a ta)(hb:PE X b tb)(hc:PE X c tc)
  (hm:lastMarks [op,oy] [b,c]=G':=by with_unfolding_all rfl):PE X (.Compare a [op,oy] [b,c] pos) (Az r r' ta tb tc):=by
 intro J' s σ H Q I h;refine Compare_chain (bt (ha J' s σ H _ I h) λv s1#[x,H1,I1,r1,q1]=>chain_link (bt (hb J' s1 σ H1 _ I1 q1) λu s2#[y,H2,I2,r2,q2]=>
  bt (ho J' s2 σ H2 x y v u _ I2 r1 r2 q2) λd s3#[z,H3,I3,r3,k,e,q3]=>?_)) hm
 subst e;cases r3;refine Ws ?_;cases k with
 |false=>exact ite_ff #[.bl G',H3,I3,rfl,q3]
 |true=>exact ite_tt (chain_last (bt (hc J' s3 σ H3 _ I3 q3) λw' s4#[z',H4,I4,r4,q4]=>nY J' s4 σ H4 y z' u w' Q I4 r2 r4 q4))
theorem zZ{op oy:CmpOp}{r r':R2}(ho:gP X (compareOp op) r)(nY:gP X (compareOp oy) r')(ha:PE X a ta)(hb:PE X b tb)(hc:PE X c tc)
  (hm:lastMarks [op,oy] [b,c]=G':=by with_unfolding_all rfl):PT X (.Compare a [op,oy] [b,c] pos) (D7 (Az r r' ta tb tc)):=by
 intro J' s σ H Q I h;refine isTrue_chain (bt (ha J' s σ H _ I h) λv s1#[x,H1,I1,r1,q1]=>test_link (bt (hb J' s1 σ H1 _ I1 q1) λu s2#[y,H2,I2,r2,q2]=>
  bt (ho J' s2 σ H2 x y v u _ I2 r1 r2 q2) λd s3#[z,H3,I3,r3,k,e,q3]=>?_)) hm
 subst e;cases r3;refine Ws ?_;cases k with
 |false=>obtain⟨k',e',q'⟩:=q3;cases e';exact ite_ff #[H3,I3,q']
 |true=>refine ite_tt (test_last (bt (hc J' s3 σ H3 _ I3 q3) λw' s4#[z',H4,I4,r4,q4]=>bt (nY J' s4 σ H4 y z' u w' _ I4 r2 r4 q4) λd' s5#[z2,H5,I5,r5,k2,e2,q5]=>?_));subst e2;cases r5;exact Ws #[H5,I5,q5]
def Iw(K:PySem.W.Frag)(x:V)(H:Hp)(k:Bool):Prop:=
 match x with
 |.aE=>k=G'
 |.bl b=>k=b
 |.int i=>k=(i != 0)
 |.str y=>y.length<=sizeLine/\k=((y.length:Int) != 0)
 |.EB y=>y.size<=sizeLine/\k=((y.size:Int) != 0)
 |.ref p=>(∃xs,du K H p xs/\k= !xs.isEmpty)\/(∃xs,dO K H p xs/\k= !xs.isEmpty)\/∃cT,H p=U (.dK cT)/\k= !cT.isEmpty
 |_=>False
theorem rL{κ:Type}{cT:List (κ×V)}{vs:List (κ×Value)}(r:KV cT vs):(!vs.isEmpty)= !cT.isEmpty:=by cases r<;>rfl
theorem kF{xs:List V}{its:List Value}(r:ay xs its):(!its.toArray.isEmpty)= !xs.isEmpty:=by cases r<;>simp
theorem i7:(sizeLine:Nat)<2^63:=by rw[Wc];decide
theorem eS:MR X (λx H Q=>∃k,Iw X.K x H k/\Q k H):=by
 intro J' s σ H x v Q I rx h;obtain⟨k,e,q⟩:=h;have hl:=i7;have hs:sizeLine=16777216:=Wc;cases x with
 |aE=>cases rx;have e':k=G':=e;subst e';exact truthy_none #[H,I,q]
 |bl b=>cases rx;have e':k=b:=e;subst e';exact Ws #[H,I,q]
 |int i=>obtain⟨t,rfl⟩:=rx;have e':k=(i != 0):=e;subst e';exact PySem.P.truthy_int #[H,I,q]
 |str y=>obtain⟨t,rfl⟩:=rx;obtain⟨hy,e'⟩:y.length<=sizeLine/\k=((y.length:Int) != 0):=e;subst e';exact PySem.P.truthy_str ⋯ #[H,I.tok _,q]
 |EB y=>obtain⟨t,rfl⟩:=rx;obtain⟨hy,e'⟩:y.size<=sizeLine/\k=((y.size:Int) != 0):=e;subst e';exact PySem.W.truthy_bytes ⋯ #[H,I.tok _,q]
 |ref p=>
  cases rx;have e':(∃xs,du X.K H p xs/\k= !xs.isEmpty)\/(∃xs,dO X.K H p xs/\k= !xs.isEmpty)\/∃cT,H p=U (.dK cT)/\k= !cT.isEmpty:=e;rcases e' with ⟨xs,hx,e'⟩|⟨xs,hx,e'⟩|⟨cT,hx,e'⟩
  ·subst e';obtain⟨its,r,pl,hz⟩:=I.list hx;have hlen:=r.length;exact wpAny_truthy_list pl.isList (by simp only[Tj];lia) #[H,I.tok _,by rw[kF r];exact q]
  ·subst e';obtain⟨its,r,pl,hz⟩:=I.tuple hx;have hlen:=r.length;exact truthy_tuple pl (by simp only[Tj];lia) #[H,I.tok _,by rw[kF r];exact q]
  ·subst e';obtain⟨hz,hS,vs,r,m⟩:cT.length<=sizeLine/\(p==sysModules)=G'/\∃vs,KV cT vs/\s.heap.DictOf (og X.prog X.w) p vs:=I.hok p _ hx;have hlen:cT.length=vs.length:=Paired.length r;exact wpAny_truthy_dict hS m ⋯ #[H,I.tok _,by rw[rL r];exact q]
 |_=>exact(show False from e).elim
theorem z9(ha:PE X a ta)(he:∀whole,isTrue a X.env whole=(do let v<-whole;standAt a.pos;holding [v] (truthy v))):
  PT X a (λσ H Q=>ta σ H λx H'=>∃k,Iw X.K x H' k/\Q k H'):=by
 intro J' s σ H Q I h;exact isTrue_plain (bt (ha J' s σ H _ I h) λv s1#[x,H1,I1,r1,q1]=>eS J' s1 σ H1 x v Q I1 r1 q1) (he _)
theorem sf:gP X (binaryOp .Add) (λx y H Q=>∃i j,x= .str i/\y= .str j/\i.length+j.length<=sizeLine/\Q (.str (i++j)) H):=by intro J' s σ H x y v u Q I rx ry h;obtain⟨i,j,rfl,rfl,hz,q⟩:=h;obtain⟨t,rfl⟩:=rx;obtain⟨t',rfl⟩:=ry;exact add_str (λt' tk=>#[.str (i++j),H,I.tok _,#[_,rfl],q]) hz
theorem vals1{x:V}{us:List Value}(r:ay [x] us):∃u,us=[u]/\RelV x u:=by
 cases r with
 |cons r1 r2=>cases r2;exact#[_,rfl,r1]
theorem vals2{x y:V}{us:List Value}(r:ay [x,y] us):∃u w',us=[u,w']/\RelV x u/\RelV y w':=by
 cases r with
 |cons r1 r2=>
  cases r2 with
  |cons r3 r4=>cases r4;exact#[_,_,rfl,r1,r3]
theorem vL(hc:X.calm=B'):dy X (.builtin "max") (λxs H Q=>∃i j,xs=[.int i,.int j]/\Q (.int (if j>i then j else i)) H):=by
 intro J' s σ H xs us Q I r h;obtain⟨i,j,rfl,q⟩:=h;obtain⟨u,w',rfl,⟨t,rfl⟩,⟨t',rfl⟩⟩:=vals2 r;refine max_two_ints (I.ok.hd hc) λh' tk k=>#[_,H,I.kept k,?_,q]
 by_cases hj:j>i
 ·rw[V2 hj,V2 hj];exact#[_,rfl]
 ·rw[V1 hj,V1 hj];exact#[_,rfl]
theorem vM(hc:X.calm=B'):dy X (.builtin "min") (λxs H Q=>∃i j,xs=[.int i,.int j]/\Q (.int (if j<i then j else i)) H):=by
 intro J' s σ H xs us Q I r h;obtain⟨i,j,rfl,q⟩:=h;obtain⟨u,w',rfl,⟨t,rfl⟩,⟨t',rfl⟩⟩:=vals2 r;refine min_two_ints (I.ok.hd hc) λh' tk k=>#[_,H,I.kept k,?_,q]
 by_cases hj:j<i
 ·rw[V2 hj,V2 hj];exact#[_,rfl]
 ·rw[V1 hj,V1 hj];exact#[_,rfl]
theorem l7:dy X (.type "int") (λxs H Q=>(∃i,xs=[.int i]/\Q (.int i) H)\/∃k,xs=[.bl k]/\Q (.int (if k then 1 else 0)) H):=by
 intro J' s σ H xs us Q I r h;rcases h with ⟨i,rfl,q⟩|⟨k,rfl,q⟩
 ·obtain⟨u,rfl,t,rfl⟩:=vals1 r;exact call_int_int #[.int i,H,I,#[_,rfl],q]
 ·obtain⟨u,rfl,r1⟩:=vals1 r;cases r1;exact call_int_bool #[.int (if k then 1 else 0),H,I.tok _,#[_,rfl],q]
theorem ny:dy X (.type "str") (λxs H Q=>∃i,xs=[.int i]/\i.natAbs.log2<1920/\Q (.str (toString i)) H):=by intro J' s σ H xs us Q I r h;obtain⟨i,rfl,hz,q⟩:=h;obtain⟨u,rfl,t,rfl⟩:=vals1 r;exact PySem.P.str_of_int hz #[.str _,H,I.tok _,#[_,rfl],q]
def MK(K:PySem.W.Frag)(x:V)(H:Hp)(n:Nat):Prop:=
 match x with
 |.str y=>y.length<=sizeLine/\n=y.length
 |.EB y=>y.size<=sizeLine/\n=y.size
 |.ref p=>(∃xs,du K H p xs/\n=xs.length)\/∃xs,dO K H p xs/\n=xs.length
 |_=>False
theorem gT:dy X (.builtin "len") (λxs H Q=>∃x n,xs=[x]/\MK X.K x H n/\Q (.int n) H):=by
 intro J' s σ H xs us Q I r h;obtain⟨x,n,rfl,e,q⟩:=h;obtain⟨u,rfl,rx⟩:=vals1 r;have hl:=i7;have hs:sizeLine=16777216:=Wc;cases x with
 |str y=>obtain⟨t,rfl⟩:=rx;obtain⟨hy,e'⟩:y.length<=sizeLine/\n=y.length:=e;subst e';exact len_str ⋯ #[.int _,H,I.tok _,#[_,rfl],q]
 |EB y=>obtain⟨t,rfl⟩:=rx;obtain⟨hy,e'⟩:y.size<=sizeLine/\n=y.size:=e;subst e';exact PySem.W.len_bytes ⋯ #[.int _,H,I.tok _,#[_,rfl],q]
 |ref p=>
  cases rx;have e':(∃xs,du X.K H p xs/\n=xs.length)\/∃xs,dO X.K H p xs/\n=xs.length:=e;rcases e' with ⟨xs,hx,e'⟩|⟨xs,hx,e'⟩
  ·subst e';obtain⟨its,r',pl,hz⟩:=I.list hx;have hlen:=r'.length;exact Calls.call_len_list pl.isList (by simp only[Tj];lia) #[.int xs.length,H,I.tok _,#[_,by simp only[Tj];rw[hlen]],q]
  ·subst e';obtain⟨its,r',pl,hz⟩:=I.tuple hx;have hlen:=r'.length;exact len_tuple pl (by simp only[Tj];lia) #[.int xs.length,H,I.tok _,#[_,by simp only[Tj];rw[hlen]],q]
 |_=>exact(show False from e).elim
end
end L2
namespace L2
open PySem PySem.Spec PyProof.Rows
structure Ef(h:Heap)(x dx C:Addr)(mA:Str->Option Value):Prop where
 obj:h.get? x=U (PySem.W.instObj C dx)
 ns:h.Ns1 dx mA
 ne:dx≠x
theorem wq{h:Heap}{dx:Addr}{mA:Str->Option Value}(n:h.Ns1 dx mA):∃od,h.get? dx=U od/\∀name,PySem.W.lookIn name od=U (mA name):=by
 obtain⟨o,es,ep,ho,hd,hk,_,hm⟩:=n;refine#[o,ho,λname=>?_];have e:=hm name;unfold nsFind findBy at e;rw[<-Array.find?_toList]at e;unfold PySem.W.lookIn;rw[hd];dsimp only;split
 ·rename_i y q;rw[q]at e;exact VY U e
 ·rename_i q;rw[q]at e;have a:es.toList.any (·.refKey)=G':=by rw[List.any_eq_false];intro y hy;obtain⟨z,t,NY⟩:=hk y (Array.mem_toList_iff.mp hy);simp[DictEntry.refKey,NY]
  have a':¬es.toList.any (·.refKey)=B':=by rw[a];exact UB
  rw[V1 a'];exact VY U e
theorem Ef.look{h:Heap}{x dx C:Addr}{mA:Str->Option Value}(I:Ef h x dx C mA):∃od,PySem.W.InstAt h x (PySem.W.instObj C dx) C (U od)/\∀name,PySem.W.lookIn name od=U (mA name):=
 let #[od,ho,hl]:=wq I.ns
 #[od,#[I.obj,rfl,rfl,ho],hl]
section
variable{P:Program}{w:World}{H:Hp}{h:Heap}{a C dx:Addr}{fs:List (Str×V)}
theorem B0(hok:dN P w H h)(e:H a=U (.ins C dx fs)):∃mA,Ef h a dx C mA/\(∀f,Ei (fs.lookup f) (mA f))/\PySem.Within mA (fs.map (·.1))/\fs.length<=1000/\H dx=U (.own a):=by obtain⟨d,z,ne,ob,mA,n,r,q⟩:=(show bR P w H h a (.ins C dx fs) from hok a _ e);exact#[mA,#[ob,n,ne],r,q,z,d]
end
structure AX(K:PySem.W.Frag)(C:Addr):Prop where
 pg:PySem.W.plainGet K C Str.empty=B'
 hd:PySem.W.hasDictIn K C=B'
 po:PySem.W.plainOver K C=B'
 sa:PySem.W.findIn K (.ref C) "__setattr__"=U (U (.builtin "object.__setattr__"))
theorem AX.get{K:PySem.W.Frag}{C:Addr}(c:AX K C)(f:Str):PySem.W.plainGet K C f=B':=c.pg
section
variable{X:Cx}{J':List (Addr×Obj)}{σ:St}{H:Hp}{s:Shared}{A:Around}{E:Value->Shared->Prop}{Q:Value->Shared->Prop}{c:Value}{b:Bool}
inductive gS(K:PySem.W.Frag)(H:Hp):V->Value->Prop where
 |aE:gS K H .aE (.type "NoneType")
 |bl (x:Bool):gS K H (.bl x) (.type "bool")
 |int (i:Int):gS K H (.int i) (.type "int")
 |str (x:Str):gS K H (.str x) (.type "str")
 |A5 (x:UInt64):gS K H (.A5 x) (.type "float")
 |lst {a:Addr} {xs:List V} (e:H a=U (.lst xs)):gS K H (.ref a) (.type "list")
 |ud {a:Addr} {o:Obj} {xs:List V} (e:H a=U (.ud o (.lst xs))):gS K H (.ref a) (.type "list")
 |tup {a:Addr} {xs:List V} (e:H a=U (.tup xs)):gS K H (.ref a) (.type "tuple")
 |dK {a:Addr} {cT:List (Key×V)} (e:H a=U (.dK cT)):gS K H (.ref a) (.type "dict")
 |dT {a:Addr} {cT:List (List Key×V)} (e:H a=U (.dT cT)):gS K H (.ref a) (.type "dict")
 |ins {a C dx:Addr} {fs:List (Str×V)} (e:H a=U (.ins C dx fs)) (cl:AX K C) (ha:PySem.W.findIn K (.ref C) "__class__"=U (U (.builtin "object.__class__")))
   (hn:PySem.W.specialIn K (.builtin "object.__class__") "__get__"=U (U (.builtin "getset_descriptor.__get__"))) (wc:PySem.W.takesIn K (.builtin "object.__class__")=U B')
   (hm:PySem.W.mroIn K C (.type "object")=U B'):gS K H (.ref a) (.ref C)
theorem wm{x:V}{u t:Value}(I:Inv X J' σ H s)(rx:RelV x u)(ty:gS X.K H x t)(e:PySem.W.kitOne X.K t c=U b)(h:∀tk,Q (.bool b) {s with toks:=tk}):
  wpAny (model X.prog X.w) A (call (.builtin "isinstance") [u,c]) Q E s:=by
 cases ty with
 |aE=>cases (show u=Value.none from rx);exact VU PySem.W.kitx_none I.jH True.intro e (λz=>nomatch z) h
 |bl y=>cases (show u=Value.bool y from rx);exact VU PySem.W.kitx_bool I.jH True.intro e (λz=>nomatch z) h
 |int i=>obtain⟨t,q⟩:=(show∃t,u=Value.int i t from rx);cases q;exact VU PySem.W.kitx_int I.jH True.intro e (λz=>nomatch z) h
 |str y=>obtain⟨t,q⟩:=(show∃t,u=Value.str y t from rx);cases q;exact VU PySem.W.kitx_str I.jH True.intro e (λz=>nomatch z) h
 |A5 y=>obtain⟨t,q⟩:=(show∃t,u=Value.float y t from rx);cases q;exact VU PySem.W.kitx_float I.jH True.intro e (λz=>nomatch z) h
 |@lst a xs ea=>cases (show u=Value.ref a from rx);obtain⟨_,_,n,_,h1⟩:=(show bR X.prog X.w H s.heap a (.lst xs) from I.hok a _ ea);exact VU PySem.W.kitx_list I.jH #[_,h1,rfl] e (λz=>nomatch z) h
 |@ud a ob xs ea=>cases (show u=Value.ref a from rx);obtain⟨_,_,_,n,_,h1⟩:=(show bR X.prog X.w H s.heap a (.ud ob (.lst xs)) from I.hok a _ ea);exact VU PySem.W.kitx_list I.jH #[_,h1,rfl] e (λz=>nomatch z) h
 |@tup a xs ea=>cases (show u=Value.ref a from rx);obtain⟨_,_,_,p⟩:=(show bR X.prog X.w H s.heap a (.tup xs) from I.hok a _ ea);obtain⟨o,h1,h2,_⟩:=p;exact VU PySem.W.kitx_tuple I.jH #[o,h1,h2] e (λz=>nomatch z) h
 |@dK a cT ea=>cases (show u=Value.ref a from rx);obtain⟨_,_,vs,_,p⟩:=(show bR X.prog X.w H s.heap a (.dK cT) from I.hok a _ ea);obtain⟨o,es,ep,h1,h2,_⟩:=p;exact VU PySem.W.kitx_dict I.jH #[o,h1,h2.1] e (λz=>nomatch z) h
 |@dT a cT ea=>cases (show u=Value.ref a from rx);obtain⟨_,_,xs,_,o,es,ep,h1,h2,_⟩:=(show bR X.prog X.w H s.heap a (.dT cT) from I.hok a _ ea);exact VU PySem.W.kitx_dict I.jH #[o,h1,h2.1] e (λz=>nomatch z) h
 |@ins a C dx fs ea cl ha hn wc hm=>cases (show u=Value.ref a from rx);obtain⟨mA,O,_⟩:=B0 I.hok ea;obtain⟨od,J,_⟩:=O.look;exact VU (PySem.W.kitx_own (cl.get _) cl.hd ha hn wc hm) I.jH J e (λz=>nomatch z) h
end
end L2
namespace L2
open PySem PySem.Spec PyProof.Rows
structure gQ(k:Nat)(A:Around):Prop where
 hd:A.handled=y'
 dp:A.depth+3*k+5<recursionLimit
 un:A.units+16*k+200<cLine
theorem gQ.deeper{k:Nat}{A:Around}(r:gQ (k+1) A)(env:Env):gQ k (A.deeper env):=
 #[r.hd,by have:=r.dp;show A.depth+1+3*k+5<_;lia,by have:=r.un;show A.units+3+16*k+200<_;lia]
theorem gQ.depth{k:Nat}{A:Around}(r:gQ k A):A.depth<recursionLimit:=by have:=r.dp;lia
def Lc:TA:=λ_ H Q=>Q [] H
def D4(ta:TE)(tr:TA):TA:=λσ H Q=>ta σ H λx H1=>tr σ H1 λxs H2=>Q (x::xs) H2
section
variable{X:Cx}{e:Expr}{es:List Expr}{te:TE}{t:TA}{pos:Pos}
theorem eN:PA X [] Lc:=λ_ _ _ _ H Q I h=>Calls.spliced_nil #[[],H,I,.nil,h]
theorem bG(ha:PE X e te)(hr:PA X es t)(hs:starEach (e::es) X.env=(G',eval e X.env)::starEach es X.env:=by rfl):PA X (e::es) (D4 te t):=by intro pos J' s σ H Q I h;rw[hs];show wpAny _ _ (spliced ((G',eval e X.env)::backTo pos (starEach es X.env))) _ _ s;refine Calls.spliced_cons (bt (ha J' s σ H _ I h) λu s1#[x,H1,I1,r1,q1]=>?_);exact bt (hr pos J' s1 σ H1 _ I1 q1) λus s2#[xs,H2,I2,r2,q2]=>#[x::xs,H2,I2,.cons r1 r2,q2]
def O9(t:TA):TE:=λσ H Q=>t σ H λxs H1=>xs.length<=sizeLine/\∀p,H1 p=y'->Q (.ref p) (upd H1 p (.tup xs))
def O5(t:TA):TE:=λσ H Q=>t σ H λxs H1=>xs.length<=sizeLine/\∀p,H1 p=y'->Q (.ref p) (upd H1 p (.lst xs))
theorem Gy{x1}(h:PA X es t):PE X (.Tuple es x1 pos) (O9 t):=by intro J' s σ H Q I hq;refine wpAny_Tuple_spliced (bt (h pos J' s σ H _ I hq) λus s1#[xs,H1,I1,r,z,q]=>#[by rw[<-r.length];exact z,?_]);have hf:H1 s1.heap.objs.size=y':=I1.hok.fresh (Tr _);refine#[.ref s1.heap.objs.size,upd H1 s1.heap.objs.size (.tup xs),I1.laid (t':=s1.toks) (λb u e=>Tf _ e) (Tr _) ?_,rfl,q _ hf];exact#[z,us,r,#[_,Tu _ rfl,rfl,_,rfl,rfl,rfl]]
theorem zL(h:PA X es t):PE X (.List es pos) (O5 t):=by intro J' s σ H Q I hq;refine wpAny_List_spliced (bt (h pos J' s σ H _ I hq) λus s1#[xs,H1,I1,r,z,q]=>#[by rw[<-r.length];exact z,?_]);have hf:H1 s1.heap.objs.size=y':=I1.hok.fresh (Tr _);refine#[.ref s1.heap.objs.size,upd H1 s1.heap.objs.size (.lst xs),I1.laid (t':=s1.toks) (λb u e=>Tf _ e) (Tr _) ?_,rfl,q _ hf];exact#[z,us,0,r,Tu _ rfl]
end
abbrev Sp:=List V->Hp->VK->XK->Prop
abbrev lI:=List Env->Hp->Shared->XK->Value->Shared->Prop
structure Bi(P:Program)(w:World)(K:PySem.W.Frag)(mg:Str->Option Value)(base:Heap)(A:Around)(outer:List Env)(s:Shared)(H:Hp):Prop where
 frames:A.frames=U outer
 mod:Mod K mg base
 bs:∀b o,base.get? b=U o->s.heap.get? b=U o/\H b=y'
 AZ:base.objs.size<=s.heap.objs.size
 gA:s.heap.FunFrames base outer
 BJ:∀b∈eD outer,H b=y'
 hok:dN P w H s.heap
 bare:AllBare s.gens
def CE(outer:List Env)(P:Program)(w:World)(H:Hp)(s:Shared)(Q:VK)(u:Value)(s':Shared):Prop:=
 ∃v H',s'.os=s.os/\AllBare s'.gens/\Un (eD outer) [] H H' s.heap s'.heap/\dN P w H' s'.heap/\RelV v u/\Q v H'
def CR(CX:lI)(outer:List Env)(P:Program)(w:World)(H:Hp)(s:Shared)(Q:VK)(E:XK)(r:Result)(s':Shared):Prop:=
 match r with
 |.ok (.ret u)=>CE outer P w H s Q u s'
 |.ok _=>False
 |.error e=>CX outer H s E e s'
structure iQ(P:Program)(w:World)(K:PySem.W.Frag)(mg:Str->Option Value)(base:Heap)(CX:lI)(k:Nat)(f:Addr)(fd:FuncData)(ps:List Str)(sp:Sp):Prop where
 len:∀vs H Q E,sp vs H Q E->vs.length=ps.length
 run:∀(A:Around)(outer:List Env)(s:Shared)(H:Hp)(args:Args)(us:List Value)(vs:List V)(Q:VK)(E:XK),gQ k A->Bi P w K mg base A outer s H->BindsTo s fd args (ps.zip us)->ay vs us->sp vs H Q E->
  codeAny (model P w) A (.call (.ref f) args) (CR CX outer P w H s Q E) s
theorem iQ.imp{P:Program}{w:World}{K:PySem.W.Frag}{mg:Str->Option Value}{base:Heap}{CX:lI}{k:Nat}{f:Addr}{fd:FuncData}{ps:List Str}{sp QD:Sp}(F:iQ P w K mg base CX k f fd ps sp)
  (h:∀vs H Q E,QD vs H Q E->sp vs H Q E):iQ P w K mg base CX k f fd ps QD:=
 #[λvs H Q E q=>F.len vs H Q E (h _ _ _ _ q),λA outer s H args us vs Q E hr he hb hv hs=>F.run A outer s H args us vs Q E hr he hb hv (h _ _ _ _ hs)]
section
variable{X:Cx}{J':List (Addr×Obj)}{σ:St}{H:Hp}{s s':Shared}
theorem Inv.eG(I:Inv X J' σ H s):Bi X.prog X.w X.K X.mg X.base X.A X.stack s H:=
 #[I.ok.frames,I.ok.mod,I.bs,Tz I.ok.AZ I.sz,I.stack,I.oR,I.hok,I.bare]
theorem Inv.after{Q:VK}{u:Value}(I:Inv X J' σ H s)(h:CE X.stack X.prog X.w H s Q u s'):EP X J' σ Q u s':=by obtain⟨v,H',os,bare,un,hok,r,q⟩:=h;obtain⟨hh,g,d,t,So⟩:=s';obtain rfl:So=s.os:=os;exact#[v,H',I.call (h':=hh) (g':=g) (d':=d) (t':=t) (ch:=[]) un hok bare (λb z=>absurd z (by simp)),r,q]
end
def K9(sp:Sp)(vS:List V)(E:XK)(t:TA):TE:=λσ H Q=>t σ H λvs H1=>sp (vs++vS) H1 Q E
def Binds(K:PySem.W.Frag)(fd:FuncData)(ps:List Str)(ds:List Value):Prop:=
 ∀(s:Shared)(us:List Value),K.In s.heap->(us++ds).length=ps.length->BindsTo s fd #[us,[]] (ps.zip (us++ds))
theorem Binds.all{K:PySem.W.Frag}{fd:FuncData}{ps:List Str}(h:∀us:List Value,us.length=ps.length->bindArgs fd #[us,[]]=pure (ps.zip us)):Binds K fd ps []:=λs us _ hl=>by rw[Uh]at hl ⊢;exact .of_eq (h us hl)
def qN(CX:lI)(X:Cx)(E:XK):Prop:=∀(J':List (Addr×Obj))(σ:St)(H:Hp)(s:Shared)(e:Value)(s':Shared),Inv X J' σ H s->CX X.stack H s E e s'->X.xe e s'
section
variable{X:Cx}{CX:lI}{k:Nat}{f:Addr}{fd:FuncData}{ps:List Str}{sp:Sp}{vS:List V}{ds:List Value}{E:XK}{x:Str}{p pos:Pos}{e:Expr}{es:List Expr}{t:TA}
theorem GZ{J':List (Addr×Obj)}{σ:St}{H:Hp}{s:Shared}{Q:VK}{us:List Value}{vs:List V}(F:iQ X.prog X.w X.K X.mg X.base CX k f fd ps sp)(hr:gQ k X.A)(hb:Binds X.K fd ps ds)(hd:ay vS ds)(hx:qN CX X E)
  (I:Inv X J' σ H s) (r:ay vs us) (h:sp (vs++vS) H Q E):wpAny (model X.prog X.w) X.A (call (.ref f) us) (EP X J' σ Q) X.xe s:=by
 have r2:ay (vs++vS) (us++ds):=r.append hd;have hl:(us++ds).length=ps.length:=by rw[<-r2.length];exact F.len _ _ _ _ h
 refine wpAny_call (codeAny_mono (F.run X.A X.stack s H #[us,[]] (us++ds) (vs++vS) Q E hr I.eG (hb s us I.jH hl) r2 h) λr s' hq=>?_);cases r with
 |error e=>exact hx J' σ H s e s' I hq
 |ok fl=>
  cases fl with
  |ret u=>exact I.after hq
  |next=>exact False.elim hq
  |brk=>exact False.elim hq
  |cont=>exact False.elim hq
theorem Cw(F:iQ X.prog X.w X.K X.mg X.base CX k f fd ps sp)(hr:gQ k X.A)(hg:Gl X x)(hm:X.mg x=U (.ref f))(hk:PySem.W.keepIn X.K (.ref f)=B')(hb:Binds X.K fd ps ds)(hd:ay vS ds)(hx:qN CX X E)
  (ha:PA X (e::es) t) (pU:(x==("__debug__":Str))=G':=by decide) (he:starEach (e::es) X.env=(G',eval e X.env)::starEach es X.env:=by rfl) (lG:(backTo pos (starEach es X.env)).any (·.1)=G':=by rfl):
  PE X (.Call (.Name x p) (e::es) [] pos) (K9 sp vS E t):=by
 intro J' s σ H Q I h;refine Wd (ij I hg hm ?_ pU);refine PySem.W.callWith_K (h₀:=X.base) I.ok.mod.Om hk (bt (ha pos J' s σ H _ I h) λus s1#[vs,H1,I1,r,q]=>#[I1.jH,?_]) he lG;exact GZ F hr hb hd hx I1 r q
end
structure eE(N P:List Str)(sc:Scope):Prop where
 kind:sc.kind= .function
 co:sc.isCoroutine=G'
 gen:sc.isGenerator=G'
 nd:N.Nodup
 pre:N.take P.length=P
 par:∀x∈P,sc.names.lookup x=U .local\/sc.names.lookup x=U .cell
 F0:∀y∈sc.names,y.2≠ .free
theorem l0{kindOf:Str->Option NameKind}{x:Str}:∀{binds:List (Str×Value)}{m:Str->Option Value},(∀v,(x,v)∉binds)->bindL kindOf binds m x=m x
 |[],_,_=>rfl
 |(n,v)::r,m,h=>by
  unfold bindL;rw[l0 λw hw=>h w (Tp _ hw)];split
  ·have:x≠n:=by rintro rfl;exact h v Tt
   simp[this]
  ·rfl
theorem lY{kindOf:Str->Option NameKind}{x:Str}:∀{binds:List (Str×Value)}{m:Str->Option Value},(∀v,(x,v)∉binds)->bindC kindOf binds m x=m x
 |[],_,_=>rfl
 |(n,v)::r,m,h=>by
  unfold bindC;rw[lY λw hw=>h w (Tp _ hw)];split
  ·rfl
  ·have:x≠n:=by rintro rfl;exact h v Tt
   simp[this]
theorem lZ{kindOf:Str->Option NameKind}{x:Str}{v:Value}:∀{P:List Str}{vs:List Value}{i:Nat}{m:Str->Option Value},P.Nodup->P[i]?=U x->vs[i]?=U v->kindOf x=U .local->
  bindL kindOf (P.zip vs) m x=U v
 |[],_,_,_,_,h,_,_=>by simp at h
 |_::_,[],_,_,_,_,h,_=>by simp at h
 |p::P,w::vs,0,m,nd,h1,h2,hk=>by simp at h1 h2;subst h1;subst h2;show bindL kindOf ((p,w)::P.zip vs) m p=_;unfold bindL;rw[l0 λv hv=>(Vo.mp nd).1 (Vp hv).1,V2 hk];simp
 |p::P,w::vs,i+1,m,nd,h1,h2,hk=>by show bindL kindOf ((p,w)::P.zip vs) m x=_;unfold bindL;exact lZ (i:=i) (Vo.mp nd).2 (by simpa using h1) (by simpa using h2) hk
theorem lX{kindOf:Str->Option NameKind}{x:Str}{v:Value}:∀{P:List Str}{vs:List Value}{i:Nat}{m:Str->Option Value},P.Nodup->P[i]?=U x->vs[i]?=U v->kindOf x≠U .local->
  bindC kindOf (P.zip vs) m x=U v
 |[],_,_,_,_,h,_,_=>by simp at h
 |_::_,[],_,_,_,_,h,_=>by simp at h
 |p::P,w::vs,0,m,nd,h1,h2,hk=>by simp at h1 h2;subst h1;subst h2;show bindC kindOf ((p,w)::P.zip vs) m p=_;unfold bindC;rw[lY λv hv=>(Vo.mp nd).1 (Vp hv).1,V1 hk];simp
 |p::P,w::vs,i+1,m,nd,h1,h2,hk=>by show bindC kindOf ((p,w)::P.zip vs) m x=_;unfold bindC;exact lX (i:=i) (Vo.mp nd).2 (by simpa using h1) (by simpa using h2) hk
def start(N:List Str)(vs:List V):St:=vs.map U++List.replicate (N.length-vs.length) y'
def kf(CX:lI)(P:Program)(w:World)(K:PySem.W.Frag)(mg:Str->Option Value)(base:Heap)(N:List Str)(qual:Str)(scope:Scope)(f:Addr)(cd:Value)(A:Around)(outer:List Env)(s:Shared)(H:Hp)(E:XK):Cx where
 prog:=P
 w:=w
 K:=K
 mg:=mg
 base:=base
 A:=A.deeper (envOfC qual scope s.heap.objs.size f cd)
 N:=N
 s₀:=s
 H₀:=H
 env:=envOfC qual scope s.heap.objs.size f cd
 outer:=outer
 stack:=envOfC qual scope s.heap.objs.size f cd::outer
 ex:=[]
 calm:=B'
 fn:=λ_=>B'
 pn:=[]
 xe:=λe s'=>wpAny (model P w) (A.deeper (envOfC qual scope s.heap.objs.size f cd)) (leaving (envOfC qual scope s.heap.objs.size f cd) e) (λ_ s''=>CX outer H s E e s'') (λe' s''=>CX outer H s E e' s'') s'
theorem pE{sc:Scope}{n:Nat}{x:Str}(h:sc.names.lookup x=U .cell):∃c,(cellsFrom n sc.names []).lookup x=U c:=by have q:=VT sc.names n [] (.inl h);exact Option.isSome_iff_exists.mp q
theorem wg{CX:lI}{P:Program}{w:World}{K:PySem.W.Frag}{mg:Str->Option Value}{base:Heap}{N ps:List Str}{qual:Str}{scope:Scope}{f:Addr}{cd:Value}{A:Around}{outer:List Env}{s s1:Shared}{H:Hp}{E:XK}{us:List Value}{vs:List V}
  (S:eE N ps scope) (hd:A.handled=y') (e0:Bi P w K mg base A outer s H) (hl:vs.length=ps.length) (r:ay vs us)
  (x:InCallC s s.heap.objs.size (bindL (envOfC qual scope s.heap.objs.size f cd).kindOf (ps.zip us) λ_=>y') (cellsFrom (s.heap.objs.size+1) scope.names []) (bindC (envOfC qual scope s.heap.objs.size f cd).kindOf (ps.zip us) λ_=>y') s1):
  Inv (kf CX P w K mg base N qual scope f cd A outer s H E) [] (start N vs) H s1:=by
 have lG:ps.length<=N.length:=by have:=VY List.length S.pre;rw[Ve]at this;lia
 obtain⟨h1,tk,rfl,hk⟩:=x.done;have Kc:∀b:Addr,b∉(kf CX P w K mg base N qual scope f cd A outer s H E).ex:=λb z=>absurd (show b∈([]:List Addr) from z) (by simp)
 refine#[#[e0.mod,S.kind,rfl,rfl,Tr _,λy z c h1 h2=>?_,λy hy=>?_,λy c _ h=>?_,λ_=>hd,Around.frames_deeper e0.frames,.inr #[rfl,rfl],λb z=>absurd z (Kc b),e0.bs,e0.AZ,λb _ _=>Kc b,λb z=>absurd z (Kc b),e0.gA,e0.BJ],
  rfl,e0.bare,Un.kept hk,#[_,x.toInCall.ns,λi y v h1 h2 h3=>?_],λy c h=>#[_,x.cell y c h],e0.hok.fresh (Tr _),λy c h=>?_,λp hp=>absurd (show p∈([]:List (Addr×Obj)) from hp) (by simp),e0.hok.kept hk,?_]
 ·exact name_of_addr x.apart (VV h1) (VV h2)
 ·have hy:scope.names.lookup y=U .cell\/scope.names.lookup y=U .free:=hy;rcases hy with hy|hy
  ·exact pE hy
  ·exact absurd rfl (S.F0 _ (VV hy))
 ·exact VC (x.above y c (VV h))
 ·have hi:i<vs.length:=by
   unfold start at h2;by_cases hi:i<vs.length
   ·exact hi
   ·rw[Uk (by simpa using hi)]at h2;rw[U1]at h2;split at h2<;>cases h2
  have ha:vs[i]?=U v:=by
   unfold start at h2;rw[Uj (by simpa using hi),TQ]at h2;cases e:vs[i]? with
   |none=>rw[e]at h2;cases h2
   |some a=>rw[e]at h2;cases h2;rfl
  obtain⟨u,hu,rv⟩:=r.get ha;have hp:ps[i]?=U y:=by rw[<-S.pre,U3 ⋯];exact h1
  have Qz:ps.Nodup:=by rw[<-S.pre];exact S.nd.sublist (Vw _ _)
  refine#[u,rv,?_];rcases S.par y (Vl hp)with k|k
  ·exact .inl #[k,lZ Qz hp hu k]
  ·obtain⟨c,e⟩:=pE (n:=s.heap.objs.size+1) k;refine .inr #[.inl k,c,e,?_];have q:=x.cell y c e;rw[lX Qz hp hu (by show scope.names.lookup y≠_;rw[k];decide)]at q;exact q
 ·exact e0.hok.fresh (VC (x.above y c (VV h)))
 ·unfold start;show _=N.length;rw[TK,Tw,Vb]
  lia
end L2
namespace L2
open PySem PySem.Spec PyProof.Rows
section
variable{X:Cx}{x:Str}{p pos:Pos}{e:Expr}{es:List Expr}{t:TA}{id T:String}{r:List V->Hp->VK->Prop}
def O4(r:List V->Hp->VK->Prop)(t:TA):TE:=λσ H Q=>t σ H λvs H1=>r vs H1 Q
theorem kU(hc:dy X (.builtin id) r)(hg:Gl X x)(hm:X.mg x=y')(hv:bootBuiltins x=U (.builtin id))(ha:PA X (e::es) t)(hn:x≠"__name__":=by decide)(pU:(x==("__debug__":Str))=G':=by decide)
  (he:starEach (e::es) X.env=(G',eval e X.env)::starEach es X.env:=by rfl) (lG:(backTo pos (starEach es X.env)).any (·.1)=G':=by rfl):PE X (.Call (.Name x p) (e::es) [] pos) (O4 r t):=by
 intro J' s σ H Q I h;refine Wd (iY I hg hm hv ?_ hn pU);exact PyProof.Rows.callWith_builtin1 (bt (ha pos J' s σ H _ I h) λus s1#[vs,H1,I1,r1,q1]=>hc J' s1 σ H1 vs us Q I1 r1 q1) he lG
theorem wC(hc:dy X (.type T) r)(hg:Gl X x)(hm:X.mg x=y')(hv:bootBuiltins x=U (.type T))(ha:PA X (e::es) t)(hn:x≠"__name__":=by decide)(pU:(x==("__debug__":Str))=G':=by decide)
  (he:starEach (e::es) X.env=(G',eval e X.env)::starEach es X.env:=by rfl) (lG:(backTo pos (starEach es X.env)).any (·.1)=G':=by rfl):PE X (.Call (.Name x p) (e::es) [] pos) (O4 r t):=by
 intro J' s σ H Q I h;refine Wd (iY I hg hm hv ?_ hn pU);exact VO (bt (ha pos J' s σ H _ I h) λus s1#[vs,H1,I1,r1,q1]=>hc J' s1 σ H1 vs us Q I1 r1 q1) he lG
end
end L2
namespace HT
open PySem PyProof.Rows
section
variable{prog:Program}{w:World}{A:Around}{E:Value->Shared->Prop}{s:Shared}
theorem BB{t b:Addr}{vs ws:List Value}{Q:Value->Shared->Prop}(ht:IsTup s.heap t vs.toArray)(hb:IsTup s.heap b ws.toArray)(hv:vs≠[])
  (h1:ws=[]->Q (.ref t) s) (h2:ws≠[]->Q (.ref s.heap.objs.size) {s with heap:=s.heap.push {cls:=.type "tuple",data:=.seq (vs++ws).toArray}})
  (jD:vs.length+ws.length<=sizeLine):wpAny (model prog w) A (binaryOp .Add (.ref t) (.ref b)) Q E s:=by
 obtain⟨⟨cls,dd,data,sl⟩,ho,hc,n,hd⟩:=id ht;obtain⟨⟨IV,A2,data2,xx⟩,kB,lO,n2,hd2⟩:=id hb;simp only at hc hd lO hd2;subst hc hd lO hd2;have e:vs.toArray++ws.toArray=(vs++ws).toArray:=by simp
 by_cases hw:ws=[]
 ·exact concat_meets #[_,ho,rfl] #[_,kB,rfl] V8 seq_tuple_add VS VR (VQ _ _)
   (tuple_addW1 t b vs.toArray ws.toArray n n2 dd A2 sl xx (by simpa using hv) (by simp[hw])) #[ho,kB,h1 hw]
 ·refine concat_meets #[_,ho,rfl] #[_,kB,rfl] V8 seq_tuple_add VS VR (VQ _ _)
   (tuple_addW2 t b vs.toArray ws.toArray n n2 dd A2 sl xx (by simpa using hv) (by simpa using hw) (by rw[Tj,Tj];exact jD)) #[ho,kB,?_]
  rw[e];exact h2 hw
def bV(n d:Nat):Option Int->Nat
 |none=>d
 |some v=>if v<0 then(v+(n:Int)).toNat else min v.toNat n
theorem G0(n d:Nat)(hd:d<=n)(o:Option Int):bV n d o<=n:=by
 cases o with
 |none=>exact hd
 |some v=>
  show (if v<0 then(v+(n:Int)).toNat else min v.toNat n)<=n;by_cases hv:v<0
  ·rw[V2 hv];lia
  ·rw[V1 hv];exact Nat.min_le_right _ _
theorem tQ(v:Int)(n d:Nat):(if v<0 then max (v+(n:Int)) 0 else min v (n:Int))=((bV n d (U v):Nat):Int):=by
 show (if v<0 then max (v+(n:Int)) 0 else min v (n:Int))=(((if v<0 then(v+(n:Int)).toNat else min v.toNat n):Nat):Int);by_cases hv:v<0
 ·simp only[V2 hv];lia
 ·simp only[V1 hv];lia
theorem qP(lo hi:Option Int)(n:Nat):Builtin.Slice.sliceAdjust lo hi 1 (n:Int)=(((bV n 0 lo:Nat):Int),((bV n n hi:Nat):Int)):=by
 have h1:¬((1:Int)<0):=⋯
 unfold Builtin.Slice.sliceAdjust;simp only[h1,V0];refine Prod.ext ?_ ?_
 ·cases lo with
  |none=>rfl
  |some v=>exact tQ v n 0
 ·cases hi with
  |none=>rfl
  |some v=>exact tQ v n n
theorem sv(i j:Nat):Builtin.Slice.slicePlaces (i:Int) (j:Int) 1=j-i:=by
 unfold Builtin.Slice.slicePlaces;have h1:(1:Int)>0:=⋯
 simp only[h1,V3,Int.ediv_one];split<;>lia
theorem ll{v:Value}{o:Option Int}{Q:Option Int->Shared->Prop}(p:IsPart v o)(h:Q o s):wpAny (model prog w) A (Builtin.Slice.slicePartIndex v) Q E s:=by
 cases p with
 |none=>exact slicePart_none h
 |int i t=>exact slicePart_int h
theorem eg{sl:Addr}{vl vu:Value}{lo hi:Option Int}{n:Nat}{Q:Int×Int×Nat->Shared->Prop}(hs:s.heap.IsSliceOf sl vl vu .none)(pl:IsPart vl lo)(pu:IsPart vu hi)
  (h:Q (((bV n 0 lo:Nat):Int),1,bV n n hi-bV n 0 lo) s):wpAny (model prog w) A (Builtin.Slice.sliceApplied (.ref sl) (pure (n:Int))) Q E s:=by
 obtain⟨os,Fe,xm,Jz⟩:=id hs;unfold Builtin.Slice.sliceApplied Builtin.Slice.sliceFields;refine Td (Td (Wg Fe Jz (x:=vl) rfl (Td (Wg Fe Jz (x:=vu) rfl (Td (Wg Fe Jz (x:=.none) rfl (Th ?_)))))));refine Td (slicePart_none ?_);show wpAny _ _ (if ((1:Int)==0)=B' then _ else _) _ _ s;rw[V1 (by decide)];refine Td (ll pl (Td (ll pu (Td (Th ?_)))));show wpAny _ _ (match Builtin.Slice.sliceAdjust lo hi 1 (n:Int)with|(lo,hi)=>pure (lo,(1:Int),Builtin.Slice.slicePlaces lo hi 1)) _ _ s;rw[qP lo hi n];show wpAny _ _ (pure (((bV n 0 lo:Nat):Int),(1:Int),Builtin.Slice.slicePlaces ((bV n 0 lo:Nat):Int) ((bV n n hi:Nat):Int) 1)) _ _ s;rw[sv];exact Th h
theorem zP(xs:Array Value)(i k:Nat):((List.range k).filterMap λ(m:Nat)=>xs[((i:Int)+(m:Int)*1).toNat]?).toArray=((xs.toList.drop i).take k).toArray:=by
 have e:(λ(m:Nat)=>xs[((i:Int)+(m:Int)*1).toNat]?)=λm=>xs[i+m]?:=by
  funext m;have:((i:Int)+(m:Int)*1).toNat=i+m:=⋯
  rw[this]
 rw[e];have:=pick_run xs i k;rw[List.filterMap_map]at this;have e2:((λx=>xs[x]?) ∘ λx=>i+x)=λm=>xs[i+m]?:=rfl
 rw[e2]at this;rw[this]
theorem g9{t sl:Addr}{items:Array Value}{vl vu:Value}{lo hi:Option Int}{Q:Value->Shared->Prop}(ht:IsTup s.heap t items)(hs:s.heap.IsSliceOf sl vl vu .none)(pl:IsPart vl lo)(pu:IsPart vu hi)
  (hw:¬(bV items.size 0 lo=0/\bV items.size items.size hi=items.size))
  (h:Q (.ref s.heap.objs.size) {s with heap:=s.heap.push {cls:=.type "tuple",data:=.seq ((items.toList.drop (bV items.size 0 lo)).take (bV items.size items.size hi-bV items.size 0 lo)).toArray}})
  (jD:items.size<=sizeLine):wpAny (model prog w) A (getItem (.ref t) (.ref sl)) Q E s:=by
 have uv:sizeOk (.seq ((items.toList.drop (bV items.size 0 lo)).take (bV items.size items.size hi-bV items.size 0 lo)).toArray):=by
  show ((items.toList.drop (bV items.size 0 lo)).take (bV items.size items.size hi-bV items.size 0 lo)).toArray.size<=sizeLine;rw[Tj,Ve,U7,TR]
  lia
 have hj:bV items.size items.size hi<=items.size:=G0 _ _ (Tr _) hi;obtain⟨os,Fe,xm,Jz⟩:=id hs;have NR:s.TypeIs (.ref sl) "slice":=#[os,Fe,xm];unfold getItem
 try with_reducible refine Wh ?_
 first|refine Td (Th ?_)|skip
 refine Td (wpAny_sequenceKey ht.typeIs (by decide) ?_);refine Td (We (name:=Str.ofString "__getitem__") ht.typeIs VP
  (Wf VP ht.typeIs entry_tuple_getitem ?_ (args_tuple_getitem _ _)))
 show wpAny _ _ (Builtin.Tuple.tupleItemsOf (.ref t) >>=_) _ _ s;refine Td (tupleItemsOf_ ht ?_);refine Td (Wt NR ?_);rw[V2 (by decide)];refine Td (eg hs pl pu ?_);have RY:¬((((bV items.size 0 lo:Nat):Int)==0&&(1:Int)==1&&(bV items.size items.size hi-bV items.size 0 lo)==items.size)=B'):=by intro q;rw[Ti,Ti]at q;have q1:((bV items.size 0 lo:Nat):Int)=0:=TY q.1.1;have q2:bV items.size items.size hi-bV items.size 0 lo=items.size:=TY q.2;exact hw #[⋯,⋯]
 show wpAny _ _ (if (((bV items.size 0 lo:Nat):Int)==0&&(1:Int)==1&&(bV items.size items.size hi-bV items.size 0 lo)==items.size)=B' then _ else _) _ _ s;rw[V1 RY,zP]
 first
  |exact Td (m:=Builtin.Tuple.tupleExact _) (Wj (Th #[_,rfl,Th h]) uv)
  |exact Td (m:=Builtin.Tuple.tupleExact _) (Wj (Td (Th (Th #[_,rfl,Th h]))) uv)
  |exact Td (Td (m:=Builtin.Tuple.tupleExact _) (Wj (Th (Th #[_,rfl,Th h])) uv))
  |exact Td (Td (m:=Builtin.Tuple.tupleExact _) (Wj (Th #[_,rfl,Th h]) uv))
end
end HT
namespace L2
open PySem PySem.Spec PyProof.Rows
abbrev TO:=St->Hp->(Option Int->Hp->Prop)->Prop
def PO(X:Cx)(e:Option Expr)(t:TO):Prop:=
 ∀(J':List (Addr×Obj))(s:Shared)(σ:St)(H:Hp)(Q:Option Int->Hp->Prop),Inv X J' σ H s->t σ H Q->
  wpAny (model X.prog X.w) X.A (evalPart e X.env) (λu s'=>∃o H',Inv X J' σ H' s'/\IsPart u o/\Q o H') X.xe s
def Da:TO:=λ_ H Q=>Q y' H
def Lf(t:TE):TO:=λσ H Q=>t σ H λx H1=>∃i,x= .int i/\Q (U i) H1
section
variable{X:Cx}{e:Expr}{te:TE}{lo hi:Option Expr}{tl th:TO}{pos p2:Pos}
theorem u6:PO X y' Da:=by intro J' s σ H Q I h;rw[evalPart_none];exact Th #[y',H,I,.none,h]
theorem jN(h:PE X e te):PO X (U e) (Lf te):=by
 intro J' s σ H Q I hw;rw[evalPart_some];refine bt (h J' s σ H _ I hw) λu s1#[x,H1,I1,r1,q1]=>?_
 obtain⟨i,rfl,q⟩:=q1;obtain⟨t,rfl⟩:=r1;exact#[U i,H1,I1,.int i t,q]
def HN(X:Cx)(r:V->Option Int->Option Int->Hp->VK->Prop):Prop:=
 ∀(J':List (Addr×Obj))(s:Shared)(σ:St)(H:Hp)(x:V)(v vl vu:Value)(lo hi:Option Int)(sl:Addr)(Q:VK),Inv X J' σ H s->RelV x v->s.heap.IsSliceOf sl vl vu .none->IsPart vl lo->IsPart vu hi->r x lo hi H Q->
  ∃T id,typeLookup (.type T) "__getitem__"=pure (U (.builtin id))/\s.TypeIs v T/\wpAny (model X.prog X.w) X.A (getItem v (.ref sl)) (EP X J' σ Q) X.xe s
def Sv(r:V->Option Int->Option Int->Hp->VK->Prop)(te:TE)(tl th:TO):TE:=λσ H Q=>te σ H λx H1=>tl σ H1 λl H2=>th σ H2 λu H3=>r x l u H3 Q
theorem kW{r:V->Option Int->Option Int->Hp->VK->Prop}(hr:HN X r)(he:PE X e te)(hl:PO X lo tl)(hu:PO X hi th):PE X (.Subscript e (.Slice lo hi y' p2) pos) (Sv r te tl th):=by
 intro J' s σ H Q I h;refine Subscript_ (bt (he J' s σ H _ I h) λv s1#[x,H1,I1,r1,q1]=>?_);refine wpAny_Slice (bt (hl J' s1 σ H1 _ I1 q1) λvl s2#[l,H2,I2,pl,q2]=>bt (hu J' s2 σ H2 _ I2 q2) λvu s3#[u,H3,I3,pu,q3]=>?_);rw[evalPart_none];refine Th ?_;have I4:Inv X J' σ H3 {s3 with heap:=s3.heap.push {cls:=.type "slice",data:=.fields [vl,vu,.none].toArray}}:=I3.kept (t':=s3.toks) λb ob q=>Tf _ q
 obtain⟨T,id,hT,ht,hg⟩:=hr J' {s3 with heap:=s3.heap.push {cls:=.type "slice",data:=.fields [vl,vu,.none].toArray}} σ H3 x v vl vu l u s3.heap.objs.size Q I4 r1 (Heap.IsSliceOf.new ..) pl pu q3;show wpAny (model X.prog X.w) X.A (subscriptTail e (.Slice lo hi y' p2) v (.ref s3.heap.objs.size)) (EP X J' σ Q) X.xe {s3 with heap:=s3.heap.push {cls:=.type "slice",data:=.fields [vl,vu,.none].toArray}};exact tail_any (ops:=[.ref s3.heap.objs.size,v]) ht hT hg (by with_unfolding_all rfl)
def lK(xs:List V)(lo hi:Option Int):List V:=(xs.drop (HT.bV xs.length 0 lo)).take (HT.bV xs.length xs.length hi-HT.bV xs.length 0 lo)
theorem jg(xs:List V)(lo hi:Option Int):(lK xs lo hi).length<=xs.length:=by
 unfold lK;rw[Ve,U7]
 lia
def ON(K:PySem.W.Frag):V->Option Int->Option Int->Hp->VK->Prop:=λx lo hi H Q=>∃a xs,x= .ref a/\dO K H a xs/\
 ¬(HT.bV xs.length 0 lo=0/\HT.bV xs.length xs.length hi=xs.length)/\∀p,H p=y'->Q (.ref p) (upd H p (.tup (lK xs lo hi)))
theorem He:HN X (ON X.K):=by
 intro J' s σ H x v vl vu lo hi sl Q I rx hs pl pu h;obtain⟨a,xs,rfl,hx,hw,q⟩:=h;cases rx;obtain⟨its,r,ht,hz⟩:=I.tuple hx;have hlen:its.toArray.size=xs.length:=by rw[Tj];exact r.length.symm
 refine#["tuple",_,VP.lookup,ht.typeIs,?_];refine HT.g9 ht hs pl pu (by rw[hlen];exact hw) ?_ (by rw[hlen];exact hz);rw[hlen];refine#[.ref s.heap.objs.size,_,I.laid (t':=s.toks) (o:=.tup (lK xs lo hi)) (λb ob q=>Tf _ q) (Tr _) ?_,rfl,q _ (I.hok.fresh (Tr _))];exact#[Tz (jg xs lo hi) hz,_,(r.drop (HT.bV xs.length 0 lo)).take (HT.bV xs.length xs.length hi-HT.bV xs.length 0 lo),pe.new _ _]
def Kv(K:PySem.W.Frag):R2:=λx y H Q=>∃a b xs ys,x= .ref a/\y= .ref b/\dO K H a xs/\dO K H b ys/\xs≠[]/\xs.length+ys.length<=sizeLine/\
 (ys=[]->Q (.ref a) H)/\(ys≠[]->∀p,H p=y'->Q (.ref p) (upd H p (.tup (xs++ys))))
theorem ay.oo{xs:List V}{us:List Value}(r:ay xs us):us=[]↔xs=[]:=by
 cases r with
 |nil=>simp
 |cons _ _=>simp
theorem Co:gP X (binaryOp .Add) (Kv X.K):=by intro J' s σ H x y v u Q I rx ry h;obtain⟨a,b,xs,ys,rfl,rfl,ha,hb,hx,hz,q1,q2⟩:=h;cases rx;cases ry;obtain⟨its,r1,p1,_⟩:=I.tuple ha;obtain⟨b9,r2,p2,_⟩:=I.tuple hb;refine HT.BB p1 p2 (λz=>hx (r1.oo.mp z)) (λz=>#[.ref a,H,I,rfl,q1 (r2.oo.mp z)]) (λz=>?_) (by rw[<-r1.length,<-r2.length];exact hz);refine#[.ref s.heap.objs.size,_,I.laid (t':=s.toks) (o:=.tup (xs++ys)) (λb ob q=>Tf _ q) (Tr _) ?_,rfl,q2 (λw=>z (r2.oo.mpr w)) _ (I.hok.fresh (Tr _))];exact#[by rw[TK];exact hz,_,r1.append r2,pe.new _ _]
end
end L2
namespace L2
open PySem PySem.Spec PyProof.Rows
def o7(n:Nat)(i:Int):Option Nat:=if 0<=i then(if i<n then U i.toNat else y') else if -(n:Int)<=i then U (i+n).toNat else y'
def nh{α:Type}(xs:List α)(i:Int):Option α:=(o7 xs.length i).bind λj=>xs[j]?
theorem uD{n:Nat}{i:Int}{j:Nat}(h:o7 n i=U j):seqIndex? i n=U j/\j<n/\ -(n:Int)<=i/\i<n:=by
 unfold o7 at h;by_cases h0:0<=i
 ·rw[V2 h0]at h;by_cases h1:i<n
  ·rw[V2 h1]at h;have e:i.toNat=j:=VN h;exact#[by rw[seqIndex_of h0 h1,e],⋯,⋯,h1]
  ·rw[V1 h1]at h;cases h
 ·rw[V1 h0]at h;by_cases h1: -(n:Int)<=i
  ·rw[V2 h1]at h;have e:(i+n).toNat=j:=VN h;exact#[by rw[seqIndex_neg ⋯ h1,e],⋯,h1,⋯]
  ·rw[V1 h1]at h;cases h
theorem ni{α:Type}{xs:List α}{i:Int}{v:α}(h:nh xs i=U v):∃j,seqIndex? i xs.length=U j/\xs[j]?=U v/\j<xs.length/\ -(xs.length:Int)<=i/\i<xs.length:=by
 unfold nh at h;cases e:o7 xs.length i with
 |none=>rw[e]at h;cases h
 |some j=>rw[e]at h;obtain⟨h1,h2,h3,h4⟩:=uD e;exact#[j,h1,h,h2,h3,h4]
theorem nk{α:Type}{xs:List α}{j:Nat}{v:α}(h:xs[j]?=U v):nh xs (j:Int)=U v:=by
 have hj:j<xs.length:=(To.mp h).1;have e:o7 xs.length (j:Int)=U j:=by unfold o7;rw[V2 ⋯,V2 ⋯];simp
 unfold nh;rw[e];exact h
def mY(b:Expr):Prop:=∀o i,subscripted b G' o i=operate [o,i] (getItem o i)
def Ip(X:Cx)(r:R2):Prop:=
 ∀(value slice:Expr)(J':List (Addr×Obj))(s:Shared)(σ:St)(H:Hp)(x y:V)(v u:Value)(Q:VK),Inv X J' σ H s->RelV x v->RelV y u->r x y H Q->
  subscripted slice G' v u=operate [v,u] (getItem v u)->wpAny (model X.prog X.w) X.A (subscriptTail value slice v u) (EP X J' σ Q) X.xe s
def ML(X:Cx)(id:String)(r:V->List V->Hp->VK->Prop):Prop:=
 ∀(J':List (Addr×Obj))(s:Shared)(σ:St)(H:Hp)(x:V)(xs:List V)(v:Value)(us:List Value)(Q:VK),Inv X J' σ H s->RelV x v->ay xs us->r x xs H Q->
  wpAny (model X.prog X.w) X.A (call (.builtin id) (v::us)) (EP X J' σ Q) X.xe s
section
variable{X:Cx}{a b:Expr}{ta tb:TE}{pos:Pos}
theorem Kq{r:R2}(hr:Ip X r)(ha:PE X a ta)(hb:PE X b tb)(hs:mY b):PE X (.Subscript a b pos) (Mt r ta tb):=by intro J' s σ H Q I h;exact Subscript_ (Ex ha hb I h λv u s2 x y H2 I2 rx ry q=>hr a b J' s2 σ H2 x y v u Q I2 rx ry q (hs _ _))
def OG(K:PySem.W.Frag):R2:=λx y H Q=>∃p xs i v,x= .ref p/\y= .int i/\du K H p xs/\nh xs i=U v/\Q v H
def OK(K:PySem.W.Frag):R2:=λx y H Q=>∃p xs i v,x= .ref p/\y= .int i/\dO K H p xs/\nh xs i=U v/\Q v H
def OJ:R2:=λx y H Q=>∃z i c,x= .str z/\y= .int i/\z.length<=sizeLine/\nh z.cps.toList i=U c/\Q (.str ⟨#[c]⟩) H
theorem uF:Ip X (OG X.K):=by
 intro value slice J' s σ H x y v u Q I rx ry h hs;obtain⟨p,xs,i,z,rfl,rfl,hq,he,q⟩:=h;cases rx;obtain⟨t,rfl⟩:=ry;obtain⟨its,r,pl,hz⟩:=I.list hq;obtain⟨j,h1,h2,h3,h4,h5⟩:=ni he;obtain⟨w,ew,OR⟩:=r.get h2;have hl:=r.length;have hn:=i7;have fin:EP X J' σ Q w s:=#[z,H,I,OR,q];by_cases h0:0<=i
 ·have hj:i.toNat=j:=by rw[seqIndex_of h0 h5]at h1;exact VN h1
  exact item_listR pl.isList h0 ⋯ (by rw[hj];simpa using ew) fin hs
 ·have hj:(i+(its.toArray.size:Int)).toNat=j:=by rw[seqIndex_neg ⋯ h4]at h1;rw[Tj,<-hl];exact VN h1
  exact subscriptTail_builtinR (x:=w) pl.isList.typeIs slot_list_getitem.lookup
   (wpAny_getItem_list_neg (Q:=λr s'=>r=w/\EP X J' σ Q r s') pl.isList ⋯ (by rw[Tj]<;>lia) ⋯ (by rw[hj];simpa using ew) #[rfl,fin]) hs
theorem FA:Ip X (OK X.K):=by
 intro value slice J' s σ H x y v u Q I rx ry h hs;obtain⟨p,xs,i,z,rfl,rfl,hq,he,q⟩:=h;cases rx;obtain⟨t,rfl⟩:=ry;obtain⟨its,r,pl,hz⟩:=I.tuple hq;obtain⟨j,h1,h2,h3,h4,h5⟩:=ni he;obtain⟨w,ew,OR⟩:=r.get h2;have hl:=r.length;have hn:=i7;have fin:EP X J' σ Q w s:=#[z,H,I,OR,q];exact subscriptTail_builtinR (x:=w) pl.typeIs slot_tuple_getitem.lookup
  (getItem_tuple (j:=j) (Q:=λr s'=>r=w/\EP X J' σ Q r s') pl ⋯ ⋯ (by rw[Tj,<-hl];exact h1) (by simpa using ew) #[rfl,fin]) hs
theorem Fz:Ip X OJ:=by
 intro value slice J' s σ H x y v u Q I rx ry h hs;obtain⟨z,i,c,rfl,rfl,hz,he,q⟩:=h;obtain⟨t,rfl⟩:=rx;obtain⟨t',rfl⟩:=ry;obtain⟨j,h1,h2,h3,h4,h5⟩:=ni he;have hl:z.cps.toList.length=z.length:=by simp[Str.length]
 rw[hl]at h1 h4 h5;have hn:=i7;exact tail_any (typeIs_str s z t) slot_str_getitem.lookup (getItem_str (c:=c) (by
  have e1:decide (i < -(2^63:Int))=G':=T1 ⋯;have e2:decide (i>=2^63)=G':=T1 ⋯;rw[e1,e2,Bool.or_false]) (by rw[h1];simpa using h2) #[.str ⟨#[c]⟩,H,I.tok _,#[_,rfl],q]) hs
theorem rT(its:List Value)(n j:Nat)(u:Value):Obj.mapSeq (·.setIfInBounds j u) {cls:=.type "list",data:=.seq its.toArray n}={cls:=.type "list",data:=.seq (its.set j u).toArray n}:=by simp[Obj.mapSeq]
theorem Inv.lst{J':List (Addr×Obj)}{σ:St}{H:Hp}{s:Shared}{p:Addr}{xs:List V}(I:Inv X J' σ H s)(h:H p=U (.lst xs)):
  ∃(its:List Value)(n:Nat),ay xs its/\s.heap.get? p=U {cls:=.type "list",data:=.seq its.toArray n}/\xs.length<=sizeLine:=by
 obtain⟨z,its,n,r,e⟩:=I.hok p _ h;exact#[its,n,r,e,z]
theorem Inv.FJ{J':List (Addr×Obj)}{σ:St}{H:Hp}{s:Shared}{p:Addr}{xs ys:List V}{its its':List Value}{n n':Nat}{f:Obj->Obj}(I:Inv X J' σ H s)(h:H p=U (.lst xs))
  (ho:s.heap.get? p=U {cls:=.type "list",data:=.seq its.toArray n}) (hf:f {cls:=.type "list",data:=.seq its.toArray n}={cls:=.type "list",data:=.seq its'.toArray n'}) (r:ay ys its') (hz:ys.length<=sizeLine) (t:Nat):
  Inv X J' σ (upd H p (.lst ys)) {s with heap:=s.heap.update p f,toks:=t}:=by
 have e:(s.heap.update p f).get? p=U {cls:=.type "list",data:=.seq its'.toArray n'}:=by rw[Heap.get?_update_self f ho (by rw[hf]<;>rfl),hf]
 refine I.write (x:=p) (e:=p) (by rw[h];trivial) (.inl rfl) (λb u hb q=>(T4 _ _ (VM hb)).trans q) #[_,e] ?_;exact#[hz,its',n',r,e]
def DZ:V->V->V->Hp->(Hp->Prop)->Prop:=λo i v H Q=>∃p xs k j,o= .ref p/\i= .int k/\H p=U (.lst xs)/\o7 xs.length k=U j/\Q (upd H p (.lst (xs.set j v)))
theorem set_list:Iv X DZ:=by
 intro J' s σ H o i v ov iv u Q I ro ri rv h;obtain⟨p,xs,k,j,rfl,rfl,hp,hj,q⟩:=h;cases ro;obtain⟨t,rfl⟩:=ri;obtain⟨its,n,r,ho,hz⟩:=I.lst hp;obtain⟨h1,h2,h3,h4⟩:=uD hj;have hl:=r.length;have hn:=i7;have I':Inv X J' σ (upd H p (.lst (xs.set j v))) {s with heap:=s.heap.update p (Obj.mapSeq (·.setIfInBounds j u))}:=
  I.FJ hp ho (rT its n j u) (r.set rv j) (by rw[Vc];exact hz) s.toks
 by_cases h0:0<=k
 ·have hk:k.toNat=j:=by rw[seqIndex_of h0 h4]at h1;exact VN h1
  exact PySem.W.ki_setAt ho h0 ⋯ (by rw[Tj,<-hl];exact h4) (by rw[hk];exact#[_,I',q])
 ·have hk:(k+(its.toArray.size:Int)).toNat=j:=by rw[seqIndex_neg ⋯ h3]at h1;rw[Tj,<-hl];exact VN h1
  exact PySem.W.ki_setBack ho ⋯ (by rw[Tj,<-hl];exact h3) ⋯ (by rw[hk];exact#[_,I',q])
theorem oO(lo hi:Option Int)(n:Nat):(sliceBounds lo hi y' n).1=((HT.bV n 0 lo:Nat):Int)/\(sliceBounds lo hi y' n).2.1=((HT.bV n n hi:Nat):Int)/\(sliceBounds lo hi y' n).2.2=1:=by
 refine#[?_,?_,rfl]
 ·cases lo with
  |none=>simp[sliceBounds,HT.bV]
  |some i=>
   simp only[sliceBounds,HT.bV,Option.getD_none,show (1:Int)>0 by decide,V3];by_cases h:i<0
   ·simp only[h,V3]<;>lia
   ·simp only[h,V0]<;>lia
 ·cases hi with
  |none=>simp[sliceBounds,HT.bV]
  |some i=>
   simp only[sliceBounds,HT.bV,Option.getD_none,show (1:Int)>0 by decide,V3];by_cases h:i<0
   ·simp only[h,V3]<;>lia
   ·simp only[h,V0]<;>lia
theorem lQ(its:List Value)(lo hi:Option Int):slicePick its.toArray lo hi y'=((its.drop (HT.bV its.length 0 lo)).take (HT.bV its.length its.length hi-HT.bV its.length 0 lo)).toArray:=by obtain⟨h1,h2,h3⟩:=oO lo hi its.toArray.size;unfold slicePick;rw[h1,h2,h3];simp only[sliceRange_one,pick_run,Tj]<;>rfl
def OL(K:PySem.W.Frag):V->Option Int->Option Int->Hp->VK->Prop:=λx lo hi H Q=>∃a xs,x= .ref a/\du K H a xs/\∀p,H p=y'->Q (.ref p) (upd H p (.lst (lK xs lo hi)))
theorem vv:HN X (OL X.K):=by intro J' s σ H x v vl vu lo hi sl Q I rx hs pl pu h;obtain⟨a,xs,rfl,hx,q⟩:=h;cases rx;obtain⟨its,r,ht,hz⟩:=I.list hx;have hlen:=r.length;refine#["list",_,slot_list_getitem.lookup,ht.isList.typeIs,?_];refine wpAny_getItem_list_slice ht.isList hs pl pu .none (by simp) ?_ (by rw[Tj]<;>lia);rw[lQ,<-hlen];refine#[.ref s.heap.objs.size,_,I.laid (t':=s.toks) (o:=.lst (lK xs lo hi)) (λb ob q=>Tf _ q) (Tr _) ?_,rfl,q _ (I.hok.fresh (Tr _))];exact#[Tz (jg xs lo hi) hz,_,0,(r.drop (HT.bV xs.length 0 lo)).take (HT.bV xs.length xs.length hi-HT.bV xs.length 0 lo),Tu _ rfl]
theorem eF:dy X (.type "list") (λxs H Q=>∃p ys,xs=[.ref p]/\(du X.K H p ys\/dO X.K H p ys)/\∀l,H l=y'->Q (.ref l) (upd H l (.lst ys))):=by
 intro J' s σ H xs us Q I r h;obtain⟨p,ys,rfl,hq,q⟩:=h;obtain⟨u,rfl,rx⟩:=vals1 r;cases rx;have fin:∀(its:List Value),ay ys its->ys.length<=sizeLine->∀(h':Heap)(c':Nat),(∀b o',s.heap.get? b=U o'->h'.get? b=U o')->
   h'.get? s.heap.objs.size=U {cls:=.type "list",dict:=y',data:=.seq its.toArray c',slots:=#[]}->EP X J' σ Q (.ref s.heap.objs.size) {s with heap:=h'}:=λits r' hz h' c' kp e=>
  #[.ref s.heap.objs.size,_,I.laid (t':=s.toks) kp (Tr _) (show bR X.prog X.w _ h' _ (.lst ys) from#[hz,its,c',r',e]),rfl,q _ (I.hok.fresh (Tr _))]
 rcases hq with hq|hq
 ·obtain⟨its,r',pl,hz⟩:=I.list hq;have hlen:=r'.length;obtain⟨o,ho,hc,n,hd⟩:=pl.isList;exact call_list_seq p (.inl rfl) ho hc hd (λh' c' kp e=>fin its r' hz h' c' kp e) (by simp only[Tj]<;>lia)
 ·obtain⟨its,r',pl,hz⟩:=I.tuple hq;have hlen:=r'.length;obtain⟨o,ho,hc,n,hd⟩:=pl;exact call_list_seq p (.inr rfl) ho hc hd (λh' c' kp e=>fin its r' hz h' c' kp e) (by simp only[Tj]<;>lia)
theorem f9:dy X (.type "tuple") (λxs H Q=>∃p ys,xs=[.ref p]/\((du X.K H p ys/\∀l,H l=y'->Q (.ref l) (upd H l (.tup ys)))\/(dO X.K H p ys/\Q (.ref p) H))):=by
 intro J' s σ H xs us Q I r h;obtain⟨p,ys,rfl,h⟩:=h;obtain⟨u,rfl,rx⟩:=vals1 r;cases rx;rcases h with ⟨hq,q⟩|⟨hq,q⟩
 ·obtain⟨its,r',pl,hz⟩:=I.list hq;have hlen:=r'.length;refine call_tuple_list pl.isList (λh' kp=>?_) (by simp only[Tj]<;>lia);have I1:Inv X J' σ H {s with heap:=h'}:=I.kept (t':=s.toks) kp;have I2:Inv X J' σ (upd H h'.objs.size (.tup ys)) {s with heap:=h'.push {cls:=.type "tuple",data:=.seq its.toArray}}:=
   I1.laid (t':=s.toks) (λb o e=>Tf _ e) (Tr _) (show bR X.prog X.w _ _ _ (.tup ys) from#[hz,its,r',pe.new _ _])
  exact#[.ref h'.objs.size,_,I2,rfl,q _ (I1.hok.fresh (Tr _))]
 ·obtain⟨its,r',pl,hz⟩:=I.tuple hq;exact call_tuple_same pl #[.ref p,H,I,rfl,q]
def Ph(K:PySem.W.Frag)(T:String)(x:V)(H:Hp):Prop:=match x with
 |.str _=>T="str"
 |.int _=>T="int"
 |.ref p=>(T="list"/\∃xs,du K H p xs)\/(T="tuple"/\∃o,K.lookup p=U o/\o.cls= .type "tuple"/\o.dict=y')\/
   (T="dict"/\((∃cT,H p=U (.dK cT))\/∃cT,H p=U (.dT cT)))\/(T="set"/\∃S n,H p=U (.set S n))
 |_=>False
theorem AH{J':List (Addr×Obj)}{σ:St}{H:Hp}{s:Shared}{T:String}{x:V}{v:Value}(I:Inv X J' σ H s)(r:RelV x v)(ty:Ph X.K T x H):
  s.TypeIs v T/\∀a,v= .ref a->∃ob,s.heap.get? a=U ob/\ob.dict=y':=by
 cases x with
 |str z=>obtain⟨t,rfl⟩:=r;cases (show T="str" from ty);exact#[typeIs_str s z t,λ_ e=>nomatch e]
 |int i=>obtain⟨t,rfl⟩:=r;cases (show T="int" from ty);exact#[typeIs_int s i t,λ_ e=>nomatch e]
 |ref p=>
  cases r;rcases ty with ⟨rfl,xs,hq⟩|⟨rfl,o,hk,hc,hd⟩|⟨rfl,hk⟩|⟨rfl,S,n,hk⟩
  ·obtain⟨its,_,pl,_⟩:=I.list hq;refine#[pl.isList.typeIs,λa e=>?_];cases e;obtain⟨o,n,e,c,hd,_⟩:=pl;exact#[o,e,hd]
  ·refine#[#[o,I.jH p o hk,hc],λa e=>?_];cases e;exact#[o,I.jH _ o hk,hd]
  ·have z:∃o,s.heap.get? p=U o/\o.ExactDict:=by
    rcases hk with ⟨cT,hk⟩|⟨cT,hk⟩
    ·obtain⟨_,_,_,_,o,_,_,e,ex,_⟩:=I.hok p _ hk;exact#[o,e,ex]
    ·obtain⟨_,_,_,_,o,_,_,e,ex,_⟩:=I.hok p _ hk;exact#[o,e,ex]
   obtain⟨o,e,ex⟩:=z;refine#[#[o,e,ex.1],λa e2=>?_];cases e2;exact#[o,e,ex.2.1]
  ·obtain⟨o,_,_,_,e,ex,_⟩:=I.hok p _ hk;refine#[#[o,e,ex.1],λa e2=>?_];cases e2;exact#[o,e,ex.2.1]
 |_=>exact False.elim ty
def K8(K:PySem.W.Frag)(T:String)(r:V->List V->Hp->VK->Prop)(to:TE):TE:=λσ H Q=>to σ H λx H1=>Ph K T x H1/\r x [] H1 Q
def QH(K:PySem.W.Frag)(T:String)(r:V->List V->Hp->VK->Prop)(to:TE)(t:TA):TE:=λσ H Q=>to σ H λx H1=>Ph K T x H1/\t σ H1 λxs H2=>r x xs H2 Q
variable{o e:Expr}{es:List Expr}{to:TE}{t:TA}{name:Str}{apos dR:Pos}{T id:String}{r:V->List V->Hp->VK->Prop}
theorem Gu(pa:PlainAttrs T)(slot:Slot T name id)(N9:typeOf (.builtin id)=pure (.type "method_descriptor"))(hm:ML X id r)(ho:PE X o to)
  (kr:attributeBase o name X.env (eval o X.env)=eval o X.env:=by rfl) (kA:(apos.endLine==dR.line)=B':=by rfl):PE X (.Call (.Attribute o name apos) [] [] dR) (K8 X.K T r to):=by
 intro J' s σ H Q I h;refine wpAny_Call_method0_late kr kA (bt (ho J' s σ H _ I h) λv s1#[x,H1,I1,r1,ty,q1]=>?_);obtain⟨h1,h2⟩:=AH I1 r1 ty;exact#[T,id,pa,slot,N9,h1,h2,Calls.callWith_builtin rfl (PySem.evalArgs_none (hm J' s1 σ H1 x [] v [] Q I1 r1 .nil q1))]
theorem DT(pa:PlainAttrs T)(slot:Slot T name id)(N9:typeOf (.builtin id)=pure (.type "method_descriptor"))(hm:ML X id r)(ho:PE X o to)(ha:PA X (e::es) t)
  (kr:attributeBase o name X.env (eval o X.env)=eval o X.env:=by rfl)
  (NX:((backTo dR (starEach (e::es) X.env)).all (λx=> !x.1)&&(backToKw dR (keywordEach [] X.env)).all (λx=>x.1.isSome)
   &&decide ((e::es).length+([]:List Keyword).length+(if ([]:List Keyword).isEmpty then 0 else 1)<30))=B':=by rfl)
  (kA:(apos.endLine==dR.line)=B':=by rfl) (hs:starEach (e::es) X.env=(G',eval e X.env)::starEach es X.env:=by rfl) (Fg:(backTo dR (starEach es X.env)).any (·.1)=G':=by rfl):
  PE X (.Call (.Attribute o name apos) (e::es) [] dR) (QH X.K T r to t):=by
 intro J' s σ H Q I h;refine wpAny_Call_method_late kr NX kA rfl (bt (ho J' s σ H _ I h) λv s1#[x,H1,I1,r1,ty,q1]=>?_);obtain⟨h1,h2⟩:=AH I1 r1 ty;refine#[T,id,pa,slot,N9,h1,h2,?_];have hA:=ha dR J' s1 σ H1 _ I1 q1;rw[hs]at hA ⊢;refine Calls.callWith_builtin (by show (G'||(backTo dR (starEach es X.env)).any (·.1))=G';rw[Fg]<;>rfl) (Calls.evalArgs_plain ?_);exact bt hA λus s2#[vs,H2,I2,r2,q2]=>hm J' s2 σ H2 x vs v us Q I2 r1 r2 q2
end
end L2
namespace L2
open PySem PySem.Spec PyProof.Rows
def Pn(X:Cx)(id:String)(r:V->List V->Hp->VK->Prop):Prop:=
 ∀(J':List (Addr×Obj))(s:Shared)(σ:St)(H:Hp)(x:V)(xs:List V)(v:Value)(us:List Value)(Q:VK),Inv X J' σ H s->RelV x v->ay xs us->r x xs H Q->
  wpAny (model X.prog X.w) X.A (call (.builtin id) (v::us)) (EP X J' σ Q) X.xe s
theorem ay.cons_inv{x:V}{xs:List V}{us:List Value}(h:ay (x::xs) us):∃u ut,us=u::ut/\RelV x u/\ay xs ut:=by
 cases h with
 |cons r t=>exact#[_,_,rfl,r,t]
theorem ay.one{x:V}{us:List Value}(h:ay [x] us):∃u,us=[u]/\RelV x u:=
 have #[u,ut,e,r,t]:=h.cons_inv
 #[u,by cases t;exact e,r]
theorem ay.two{x y:V}{us:List Value}(h:ay [x,y] us):∃u v,us=[u,v]/\RelV x u/\RelV y v:=
 have #[u,ut,e,r,t]:=h.cons_inv;have #[v,e2,q]:=t.one
 #[u,v,e2▸e,r,q]
theorem ay.zero:∀{us:List Value},ay [] us->us=[]
 |_,.nil=>rfl
theorem ay.dropLast{xs:List V}{us:List Value}(h:ay xs us):ay xs.dropLast us.dropLast:=by
 induction h with
 |nil=>exact .nil
 |cons r t ih=>
  cases t with
  |nil=>exact .nil
  |cons q t'=>exact .cons r ih
section
variable{X:Cx}{J':List (Addr×Obj)}{σ:St}{H:Hp}{s:Shared}{l:Addr}{xs ys:List V}
theorem Inv.J2{its its':List Value}{n:Nat}{f:Array Value->Array Value}{t':Nat}(I:Inv X J' σ H s)(hH:H l=U (.lst xs))
  (e:s.heap.get? l=U {cls:=.type "list",data:=.seq its.toArray n}) (hf:f its.toArray=its'.toArray) (hv:ay ys its') (hz:ys.length<=sizeLine):
  Inv X J' σ (upd H l (.lst ys)) {s with heap:=s.heap.update l (Obj.mapSeq f),toks:=t'}:=by
 have q:=PySem.IsL.update e f;rw[hf]at q;refine I.write (x:=l) (e:=l) (by rw[hH];exact trivial) (.inl rfl) (λb' u hb hu=>(T4 s.heap (Obj.mapSeq f) (VM hb)).trans hu) #[_,q] ?_;exact#[hz,its',_,hv,q]
theorem Inv.J0{its:List Value}{t':Nat}(I:Inv X J' σ H s)(hv:ay ys its)(hz:ys.length<=sizeLine):
  Inv X J' σ (upd H s.heap.objs.size (.lst ys)) {s with heap:=s.heap.push {cls:=.type "list",data:=.seq its.toArray},toks:=t'}:=
 I.laid (λ_ _ q=>Tf _ q) (Tr _) #[hz,its,0,hv,Tu _ rfl]
theorem Inv.fresh(I:Inv X J' σ H s):H s.heap.objs.size=y':=I.hok.fresh (Tr _)
theorem Inv.B7(I:Inv X J' σ H s)(hH:H l=U (.lst xs)):xs.length<=sizeLine/\∃(its:List Value)(n:Nat),ay xs its/\xs.length=its.length/\s.heap.get? l=U {cls:=.type "list",data:=.seq its.toArray n}:=by obtain⟨z,its,n,r,e⟩:=I.hok l _ hH;exact#[z,its,n,r,r.length,e]
end
section
variable{X:Cx}
def vj:V->List V->Hp->VK->Prop:=λx vs H Q=>∃l xs y,x= .ref l/\vs=[y]/\H l=U (.lst xs)/\xs.length<sizeLine/\Q .aE (upd H l (.lst (xs++[y])))
theorem mB:Pn X "list.append" vj:=by
 intro J' s σ H x vs v us Q I rx rv h;obtain⟨l,xs,y,rfl,rfl,hH,hz,q⟩:=h;cases rx;obtain⟨u,rfl,ru⟩:=rv.one;obtain⟨z,its,n,r,hl,e⟩:=I.B7 hH;refine call_meets F.slot_list_append #[_,e,rfl] F.entry_list_append (F.args_list_append_2 _ _) (PySem.list_append l its.toArray n u (by rw[Tj];lia)) #[e,?_];refine#[.aE,_,I.J2 (its':=its++[u]) hH e (by simp) (r.append (.cons ru .nil)) ?_,rfl,q];rw[TK,Vd]
 lia
def Aj:V->List V->Hp->VK->Prop:=λx vs H Q=>∃l xs,x= .ref l/\vs=[]/\H l=U (.lst xs)/\Q .aE (upd H l (.lst []))
theorem zu:Pn X "list.clear" Aj:=by intro J' s σ H x vs v us Q I rx rv h;obtain⟨l,xs,rfl,rfl,hH,q⟩:=h;cases rx;have Sb:=rv.zero;subst Sb;obtain⟨z,its,n,r,hl,e⟩:=I.B7 hH;refine call_meets F.slot_list_clear #[_,e,rfl] F.entry_list_clear (F.args_list_clear_1 _) (AutoSeq1.list_clear_list_0 l its.toArray n (by rw[Tj];lia)) #[e,?_];exact#[.aE,_,I.J2 (its':=[]) (ys:=[]) hH e rfl .nil (VL _),rfl,q]
def OE:R2:=λx y H Q=>∃l b xs zs,x= .ref l/\y= .ref b/\H l=U (.lst xs)/\H b=U (.lst zs)/\xs.length+zs.length<=sizeLine/\∀p,H p=y'->Q (.ref p) (upd H p (.lst (xs++zs)))
theorem dI:gP X (binaryOp .Add) OE:=by
 intro J' s σ H x y v u Q I rx ry h;obtain⟨l,b,xs,zs,rfl,rfl,hH,hB,hz,q⟩:=h;cases rx;cases ry;obtain⟨z,its,n,r,hl,e⟩:=I.B7 hH;obtain⟨z2,b9,n2,r2,b7,e2⟩:=I.B7 hB;refine PySem.P.add_list e e2 ?_ (by rw[Tj,Tj];lia);have ea:its.toArray++b9.toArray=(its++b9).toArray:=by simp
 rw[ea];exact#[.ref _,_,I.J0 (t':=s.toks) (r.append r2) (by rw[TK];lia),rfl,q _ I.fresh]
end
end L2
namespace Att
open PySem PySem.W PySem.Calls PyProof.Rows
theorem ju{P:Params}{h:Heap}:∀(ns:List Int)(vs:List Value),WellAll P h vs (ns.map WData.int)->IntsAre vs ns:=by
 intro ns
 induction ns with
 |nil=>intro vs w;rw[Vh]at w;cases w;exact .nil
 |cons n ns ih=>
  intro vs w;rw[Ul]at w;cases w with
  |cons a b=>cases a;exact .cons _ _ (ih _ b)
theorem wQ{l:OpenLaw}{n:Nat}(hn:l.most=U n){P:Params}{h:Heap}{args:List WData}{vals:List Value}
  (v8:l.row.toRowW.claim.pre args=B') (we:WellAll P h vals args):
  ∃a vs ns,vals=[Value.ref a]/\args=[WData.list (ns.map WData.int)]/\h.get? a=U {cls:=.type "list",data:=.seq vs.toArray}/\IntsAre vs ns/\ns.length<=n:=by
 have R8:WShape.hasAll [] args [.list .int]=B':=(pre_splitW v8).1;have hc:l.pre.holds [] {args:=args}=B':=(pre_splitW v8).2;obtain⟨d,r,rfl,h1,h2⟩:=hasAllW_cons R8;obtain rfl:=hasAllW_nil h2;obtain⟨xs,rfl,h3⟩:=hasW_list h1;obtain⟨ns,rfl⟩:=items_int h3;have hlen:ns.length<=n:=by
  unfold OpenLaw.pre at hc;have h4:(WTm.not (.lt (.lit (.int (n:Int))) (.len (.arg 0)))).holds [] {args:=[.list (ns.map .int)]}=B':=by have h4:=(holds_andW hc).1;rw[hn]at h4;exact h4
  have h5:=condW_of h4 (w_not (w_lt w_lit (w_len_list (w_arg rfl))));rw[Tw]at h5;refine Nat.le_of_not_lt λq=>?_
  have q':(n:Int)<((ns.length:Nat):Int):=⋯
  first
   |(rw[T5 q']at h5;exact absurd h5 (by decide))
   |(simp at h5;lia)
 cases we with
 |cons w1 w2=>
  cases w2;cases w1 with
  |list ho hall=>exact#[_,_,ns,rfl,rfl,ho,ju ns _ hall,hlen]
theorem wH(l:OpenLaw)(args:List WData):l.row.toRowW.claim.post args (.bool B') args=B':=
 postW_of (r:=l.row.toRowW) (X:=(B'==B'))
  (show WShape.has [] (.bool B') .bool=B' by first|rfl|decide|simp[WShape.has,WShape.arms,WShape.armsAll])
  (show (WTm.eq .res (.lit (.bool B'))).value [] {args:=args,res:=U (.bool B'),after:=args}=U (.bool (B'==B')) from w_eq_bool (w_res rfl) w_lit) rfl
theorem px{l:OpenLaw}{n:Nat}{q:Program}{loose:List Str}{XP:(Str->Option Value)->Heap->Prop}{YP:World->Heap->Prop}{d:DefRec}
  (hn:l.most=U n) (Jy:d.params.defaults=[])
  (call:∀(w:World)(s₀ s₁:Shared)(mg mb:Str->Option Value)(fa:Addr)(o:Obj)(pm cd doc:Value)(a:Addr)(vs:List Value)(ns:List Int),
   Ground q loose [] XP w s₀ mg mb s₁.heap->YP w s₁.heap->
   s₁.heap.get? fa=U o->o.data= .func (docDef d.name d.params d.body d.scope pm cd doc)->s₁.heap.CodeRec cd d.name->mg d.name=U (.ref fa)->
   s₁.heap.get? a=U {cls:=.type "list",data:=.seq vs.toArray}->IntsAre vs ns->ns.length<=n->s₁.gens=#[]->
   codeAny (model l.prog w) callerA (.call (.ref fa) #[[.ref a],[]]) (λr s'=>r= .ok (.ret (.bool B'))/\OldK s₁.heap s'.heap/\s'.os=s₁.os/\AllBare s'.gens) s₁):
  WalkO q loose XP YP l.row.toRowW d [] (λf vs=>PySem.call f vs):=by
 intro w s₀ s₁ mg mb G Y fa o pm cd doc dV kV ho hd xl hD hmg hg args vals as v8 hlay hrd we jt;obtain rfl:dV= .none:=Dflts.none hD Jy;obtain rfl:kV= .none:=Dflts.noKw hD;obtain⟨a,vs,ns,rfl,rfl,E9,hints,hlen⟩:=wQ hn v8 we;refine enter_call (codeAny_mono (call w s₀ s₁ mg mb fa o pm cd doc a vs ns G Y ho (fd_plain hd) xl hmg E9 hints hlen hg) λr s' hq=>?_);obtain⟨rfl,h2,h3,h4⟩:=hq;exact#[.inl #[.bool B',.bool B',[],rfl,λ_=>rfl,.bool B',wH l _,λ_=>#[List.Pairwise.nil,λ_ hm=>(nomatch hm)]],h2,h3,h4]
end Att
namespace L2
open PySem PySem.Spec PyProof.Rows
theorem mQ:∀{vs:List Value}{ns:List Int},IntsAre vs ns->ay (ns.map V.int) vs
 |_,_,.nil=>.nil
 |_,_,.cons n t h=>.cons #[t,rfl] (mQ h)
def Eg(H:Hp):Prop:=∀b,H b=y'\/∃o xs,H b=U (.ud o (.lst xs))
theorem zj{P:Program}{w:World}{K:PySem.W.Frag}{mg mb:Str->Option Value}{CX:lI}{k:Nat}{fa a:Addr}{fd:FuncData}{x:Str}{sp:Sp}{s₁:Shared}{vs:List Value}{ns:List Int}
  (KX:K.In s₁.heap) (JE:s₁.heap.Ns mainGlobals mg) (hb:s₁.heap.Ns builtinsNs mb) (pS:∀x:Str,x≠"__name__"->mb x=bootBuiltins x) (v7:s₁.heap.NoLimit) (hg:s₁.gens=#[])
  (ha:s₁.heap.get? a=U {cls:=.type "list",data:=.seq vs.toArray}) (hi:IntsAre vs ns) (hl:ns.length<=sizeLine) (hr:gQ k callerA)
  (F:∀base:Heap,K.In base->base.Ns mainGlobals mg->iQ P w K mg base CX k fa fd [x] sp) (Js:∀(s:Shared)(u:Value),BindsTo s fd #[[u],[]] [(x,u)])
  (ml:∀H:Hp,Eg H->du K H a (ns.map V.int)->sp [.ref a] H (λv _=>v= .bl B') λ_ _ _=>False)
  (NK:∀H e s',CX [] H s₁ (λ_ _ _=>False) e s'->False):
  codeAny (model P w) callerA (.call (.ref fa) #[[.ref a],[]]) (λr s'=>r= .ok (.ret (.bool B'))/\OldK s₁.heap s'.heap/\s'.os=s₁.os/\AllBare s'.gens) s₁:=by
 have rv:=mQ hi;have On:=hi.length;have core:∀H:Hp,Eg H->du K H a (ns.map V.int)->dN P w H s₁.heap->(∀b,H b≠y'->b=a)->(H a≠y'->K.lookup a=y')->
   codeAny (model P w) callerA (.call (.ref fa) #[[.ref a],[]]) (λr s'=>r= .ok (.ret (.bool B'))/\OldK s₁.heap s'.heap/\s'.os=s₁.os/\AllBare s'.gens) s₁:=by
  intro H hO hS hok hA hK;have tM:∀{b:Addr}{o:Obj},s₁.heap.get? b=U o->H b=y'->(nX s₁.heap H).get? b=U o:=λe n=>yY e n
  have Kc:∀{b:Addr}{o:Obj}{es:Array DictEntry}{ep:Nat},s₁.heap.get? b=U o->o.data= .dict es ep->H b=y':=λ {b o es ep} e d=>by
   cases q:H b with
   |none=>rfl
   |some u=>have e':b=a:=hA b (by rw[q];simp);subst e';rw[ha]at e;cases e;have d':Data.seq vs.toArray _=Data.dict es ep:=d;cases d'
  have Mo:∀{b:Addr}{m:Str->Option Value},s₁.heap.Ns b m->(nX s₁.heap H).Ns b m:=λ {b m} #[o,es,ep,e,d,r]=>#[o,es,ep,tM e (Kc e d),d,r]
  have PZ:K.In (nX s₁.heap H):=λb o e=>tM (KX b o e) (by
   cases q:H b with
   |none=>rfl
   |some u=>
    have e':b=a:=hA b (by rw[q];simp);subst e';rw[hK (by rw[q];simp)]at e;cases e)
  have hM:Mod K mg (nX s₁.heap H):=#[PZ,Mo JE,#[mb,Mo hb,pS],let #[mc,h1,h2]:=v7;#[mc,Mo h1,h2]];have e0:Bi P w K mg (nX s₁.heap H) callerA [] s₁ H:=#[rfl,hM,λb o e=>Ck e,Nat.le_of_eq (vY _ _),trivial,λb hb=>absurd (show b∈([]:List Addr) from hb) (by simp),hok,.of_eq hg];refine codeAny_mono ((F _ PZ (Mo JE)).run callerA [] s₁ H #[[.ref a],[]] [.ref a] [.ref a] _ _ hr e0 (Js s₁ (.ref a)) (.cons rfl .nil) (ml H hO hS)) λr s' h=>?_
  cases r with
  |error e=>exact(NK H e s' h).elim
  |ok fl=>
   cases fl with
   |next=>exact False.elim h
   |brk=>exact False.elim h
   |cont=>exact False.elim h
   |ret u=>
    obtain⟨v,H',os,bare,un,BU,r',q⟩:=h;have q':v= .bl B':=q;subst q';obtain rfl:u=Value.bool B':=r';refine#[rfl,OldK.of_keep λb o e=>?_,os,bare];cases q:H b with
    |none=>exact un.keep b o e q (by intro z;exact absurd (show b∈([]:List Addr) from z) (by simp)) (by simp)
    |some u=>
     rcases hO b with z|⟨ob,xs,z⟩
     ·rw[q]at z;cases z
     ·have z2:=un.frzs b ob _ z;obtain⟨e1,_⟩:=hok b _ z;obtain⟨e2,_⟩:=BU b _ z2;rw[e]at e1;cases e1;exact e2
 cases hk:K.lookup a with
 |some o=>have e:=KX a o hk;rw[ha]at e;cases e;refine core (λ_=>y') (λ_=>.inl rfl) (.inr #[_,vs.toArray,_,hk,rfl,rfl,rfl,by rw[Tj,On];exact hl,by simpa using rv]) (λb u z=>by have z':(y':Option HO)=U u:=z;cases z') (λb z=>absurd rfl z) λz=>absurd rfl z
 |none=>
  refine core (λb=>if b=a then U (.ud {cls:=.type "list",data:=.seq vs.toArray} (.lst (ns.map V.int))) else y') (λb=>?_) (.inl (.inr #[{cls:=.type "list",data:=.seq vs.toArray},V2 rfl])) (λb u z=>?_) (λb z=>?_) λ_=>hk
  ·by_cases hb:b=a
   ·exact .inr #[_,_,V2 hb]
   ·exact .inl (V1 hb)
  ·by_cases hb:b=a
   ·have z':=(V2 hb).symm.trans z;cases z';subst hb;exact#[ha,by rw[Tw];exact hl,vs,_,rv,ha]
   ·have z':=(V1 hb).symm.trans z;cases z'
  ·by_cases hb:b=a
   ·exact hb
   ·exact absurd (V1 hb) z
end L2
namespace L2
open PySem PySem.Spec PyProof.Rows
theorem Dj{l:PySem.W.OpenLaw}{n k:Nat}{q:Program}{loose:List Str}{XP:(Str->Option Value)->Heap->Prop}{YP:World->Heap->Prop}{d:DefRec}{K:Params->PySem.W.Frag}{CX:World->lI}{sp:World->Sp}{x:Str}
  (hn:l.most=U n) (E8:n<=sizeLine) (Jy:d.params.defaults=[]) (hr:gQ k callerA)
  (hY:∀(w:World)(h:Heap),YP w h->(K w.params).In h)
  (F:∀(w:World)(mg:Str->Option Value)(fa:Addr)(h:Heap),(K w.params).In h->h.Ns mainGlobals mg->mg d.name=U (.ref fa)->
   ∃fd:FuncData,(∀(s:Shared)(u:Value),BindsTo s fd #[[u],[]] [(x,u)])/\
    ∀base:Heap,(K w.params).In base->base.Ns mainGlobals mg->iQ l.prog w (K w.params) mg base (CX w) k fa fd [x] (sp w))
  (ml:∀(w:World)(H:Hp)(a:Addr)(ns:List Int),ns.length<=n->Eg H->du (K w.params) H a (ns.map V.int)->sp w [.ref a] H (λv _=>v= .bl B') λ_ _ _=>False)
  (NK:∀(w:World)(H:Hp)(s:Shared)(e:Value)(s':Shared),CX w [] H s (λ_ _ _=>False) e s'->False):
  PySem.W.WalkO q loose XP YP l.row.toRowW d [] (λf vs=>PySem.call f vs):=by
 refine Att.px hn Jy λw s₀ s₁ mg mb fa o pm cd doc a vs ns G Y ho hd xl hmg E9 hints hlen hg=>?_
 have KX:=hY w _ Y;obtain⟨fd,hb,hF⟩:=F w mg fa _ KX G.T.g hmg;exact zj KX G.T.g G.T.b G.T.builtins G.T.nolimit hg E9 hints (Tz hlen E8) hr hF hb (λH hO hS=>ml w H a ns hlen hO hS) λH e s'=>NK w H s₁ e s'
end L2
namespace L2
open PySem PySem.Spec PyProof.Rows
def nG(s:Stmt):Arguments:=match s with
 |.FunctionDef _ a _ _ _ _ _ _ _ _=>a
 |_=>{posonlyargs:=[],args:=[],vararg:=y',kwonlyargs:=[],kw_defaults:=[],kwarg:=y',defaults:=[]}
def gV(s:Stmt):List Stmt:=match s with
 |.FunctionDef _ _ b _ _ _ _ _ _ _=>b
 |_=>[]
def bu(s:Stmt):Scope:=match s with
 |.FunctionDef _ _ _ _ _ _ sc _ _ _=>sc
 |_=>{kind:=.function,names:=[],isGenerator:=G',isCoroutine:=G'}
theorem Fw{A B:Prop}(h:B):if G'=B' then A else B:=by rw[V1 UB];exact h
theorem Fx{A B:Prop}(h:A):if B'=B' then A else B:=by rw[V2 rfl];exact h
def bI(H H':Hp):Prop:=∀b o,H b=U o->H' b=U o
theorem bI.refl(H:Hp):bI H H:=λ_ _ h=>h
theorem bI.trans{H H1 H2:Hp}(a:bI H H1)(b:bI H1 H2):bI H H2:=λc o h=>b c o (a c o h)
end L2
end
section
namespace Mx
open PySem PyProof.Rows
set_option genInjectivity true in
inductive D where
 |int (i:Int)
 |str (x:Str)
 |tup (ds:List D)
mutual
noncomputable def D.gh:D->D->Bool
 |.int i,.int j=>i==j
 |.str x,.str y=>x==y
 |.tup a,.tup b=>D.eqs a b
 |_,_=>G'
noncomputable def D.eqs:List D->List D->Bool
 |[],[]=>B'
 |x::xs,y::ys=>D.gh x y&&D.eqs xs ys
 |_,_=>G'
end
mutual
noncomputable def D.lt:D->D->Bool
 |.int i,.int j=>decide (i<j)
 |.int _,_=>B'
 |.str _,.int _=>G'
 |.str x,.str y=>decide (x.cps.toList<y.cps.toList)
 |.str _,.tup _=>B'
 |.tup a,.tup b=>D.fQ a b
 |.tup _,_=>G'
noncomputable def D.fQ:List D->List D->Bool
 |[],[]=>G'
 |[],_::_=>B'
 |_::_,[]=>G'
 |x::xs,y::ys=>if D.gh x y=B' then D.fQ xs ys else D.lt x y
end
mutual
theorem D.cK:∀a b:D,D.gh a b=B'↔a=b
 |.int i,.int j=>by simp[D.gh]
 |.str x,.str y=>by simp[D.gh]
 |.tup a,.tup b=>by simp only[D.gh,D.tup.injEq];exact D.tY a b
 |.int _,.str _=>by simp[D.gh]
 |.int _,.tup _=>by simp[D.gh]
 |.str _,.int _=>by simp[D.gh]
 |.str _,.tup _=>by simp[D.gh]
 |.tup _,.int _=>by simp[D.gh]
 |.tup _,.str _=>by simp[D.gh]
theorem D.tY:∀a b:List D,D.eqs a b=B'↔a=b
 |[],[]=>by simp[D.eqs]
 |[],_::_=>by simp[D.eqs]
 |_::_,[]=>by simp[D.eqs]
 |x::xs,y::ys=>by simp only[D.eqs,Ti,List.cons.injEq];rw[D.cK x y,D.tY xs ys]
end
noncomputable instance:DecidableEq D:=λa b=>if h:D.gh a b=B' then isTrue ((D.cK a b).mp h) else isFalse λe=>h ((D.cK a b).mpr e)
theorem D.jA(a b:D):D.gh a b=decide (a=b):=by rw[Uz,D.cK];simp
theorem D.d4(x y:D)(xs ys:List D):D.fQ (x::xs) (y::ys)=if x=y then D.fQ xs ys else D.lt x y:=by
 rw[D.fQ];by_cases h:x=y
 ·rw[V2 h,V2 ((D.cK x y).mpr h)]
 ·rw[V1 h,V1 λe=>h ((D.cK x y).mp e)]
mutual
theorem D.lt_irrefl:∀a:D,D.lt a a=G'
 |.int i=>by simp[D.lt]
 |.str x=>by simp only[D.lt];exact strKind.irrefl _
 |.tup a=>by simp only[D.lt];exact D.kK a
theorem D.kK:∀a:List D,D.fQ a a=G'
 |[]=>by simp[D.fQ]
 |x::xs=>by rw[D.d4,V2 rfl];exact D.kK xs
end
mutual
theorem D.iq:∀a b:D,D.lt a b=G'->D.lt b a=G'->a=b
 |.int i,.int j,h1,h2=>by simp only[D.lt,decide_eq_false_iff_not]at h1 h2;congr 1;lia
 |.str x,.str y,h1,h2=>by simp only[D.lt]at h1 h2;have:=strKind.total _ _ h1 h2;congr 1;cases x;cases y;simp only at this;congr 1;exact Uv.mp this
 |.tup a,.tup b,h1,h2=>by simp only[D.lt]at h1 h2;rw[D.my a b h1 h2]
 |.int _,.str _,h1,_=>by simp[D.lt]at h1
 |.int _,.tup _,h1,_=>by simp[D.lt]at h1
 |.str _,.int _,_,h2=>by simp[D.lt]at h2
 |.str _,.tup _,h1,_=>by simp[D.lt]at h1
 |.tup _,.int _,_,h2=>by simp[D.lt]at h2
 |.tup _,.str _,_,h2=>by simp[D.lt]at h2
theorem D.my:∀a b:List D,D.fQ a b=G'->D.fQ b a=G'->a=b
 |[],[],_,_=>rfl
 |[],_::_,h1,_=>by simp[D.fQ]at h1
 |_::_,[],_,h2=>by simp[D.fQ]at h2
 |x::xs,y::ys,h1,h2=>by
  rw[D.d4]at h1 h2;by_cases h:x=y
  ·subst h;rw[V2 rfl]at h1 h2;rw[D.my xs ys h1 h2]
  ·rw[V1 h]at h1;rw[V1 (VM h)]at h2;exact absurd (D.iq x y h1 h2) h
end
mutual
theorem D.lt_trans:∀a b c:D,D.lt a b=B'->D.lt b c=B'->D.lt a c=B'
 |.int i,.int j,.int k,h1,h2=>by simp only[D.lt,VZ]at *;lia
 |.int _,_,.str _,_,_=>by simp[D.lt]
 |.int _,_,.tup _,_,_=>by simp[D.lt]
 |.int _,.str _,.int _,_,h2=>by simp[D.lt]at h2
 |.int _,.tup _,.int _,_,h2=>by simp[D.lt]at h2
 |.str _,.int _,_,h1,_=>by simp[D.lt]at h1
 |.str x,.str y,.str z,h1,h2=>by simp only[D.lt]at *;exact strKind.trans _ _ _ h1 h2
 |.str _,.str _,.int _,_,h2=>by simp[D.lt]at h2
 |.str _,_,.tup _,_,_=>by simp[D.lt]
 |.str _,.tup _,.int _,_,h2=>by simp[D.lt]at h2
 |.str _,.tup _,.str _,_,h2=>by simp[D.lt]at h2
 |.tup _,.int _,_,h1,_=>by simp[D.lt]at h1
 |.tup _,.str _,_,h1,_=>by simp[D.lt]at h1
 |.tup _,.tup _,.int _,_,h2=>by simp[D.lt]at h2
 |.tup _,.tup _,.str _,_,h2=>by simp[D.lt]at h2
 |.tup a,.tup b,.tup c,h1,h2=>by simp only[D.lt]at *;exact D.mz a b c h1 h2
theorem D.mz:∀a b c:List D,D.fQ a b=B'->D.fQ b c=B'->D.fQ a c=B'
 |[],[],_,h1,_=>by simp[D.fQ]at h1
 |[],_::_,[],_,h2=>by simp[D.fQ]at h2
 |[],_::_,_::_,_,_=>by simp[D.fQ]
 |_::_,[],_,h1,_=>by simp[D.fQ]at h1
 |_::_,_::_,[],_,h2=>by simp[D.fQ]at h2
 |x::xs,y::ys,z::zs,h1,h2=>by
  rw[D.d4]at h1 h2 ⊢;by_cases h:x=y
  ·subst h;rw[V2 rfl]at h1;by_cases h':x=z
   ·rw[V2 h']at h2 ⊢;exact D.mz xs ys zs h1 h2
   ·rw[V1 h']at h2 ⊢;exact h2
  ·rw[V1 h]at h1;by_cases h':y=z
   ·subst h';rw[V1 h];exact h1
   ·rw[V1 h']at h2;have h3:=D.lt_trans x y z h1 h2;by_cases h'':x=z
    ·subst h'';rw[D.lt_irrefl]at h3;cases h3
    ·rw[V1 h''];exact h3
end
@[reducible] noncomputable def IX:KeyOrd where
 α:=D
 blt:=D.lt
 irrefl:=D.lt_irrefl
 trans:=D.lt_trans
 negTrans:=λa b c h=>by
  cases h1:D.lt a b with
  |true=>exact .inl rfl
  |false=>
   right;cases h2:D.lt b a with
   |true=>exact D.lt_trans b a c h2 h
   |false=>rw[D.iq a b h1 h2]at h;exact h
 total:=D.iq
end Mx
end
section
namespace MxSort
open PySem PySem.W PyProof.Rows
section
variable{O:KeyOrd}{key:Nat->O.α}
def Oj(key:Nat->O.α)(p:Array Nat)(i:Nat):O.α:=key (p.getD i 0)
def Up(key:Nat->O.α)(p:Array Nat)(n:Nat):Prop:=∀i j,i<=j->j<n->O.kle (Oj key p i) (Oj key p j)
def Ord(N:Nat)(p:Array Nat):Prop:=p.toList.Perm (List.range N)
theorem Ord.size{N:Nat}{p:Array Nat}(h:Ord N p):p.size=N:=by have:=h.length_eq;rw[U9]at this;rw[<-this];simp
variable{cmp:Nat->Nat->(Bool->Shared->Prop)->Shared->Prop}{s:Shared}{N:Nat}
def Tells(O:KeyOrd)(key:Nat->O.α)(cmp:Nat->Nat->(Bool->Shared->Prop)->Shared->Prop)(N:Nat)(s:Shared):Prop:=
 ∀i j,i<N->j<N->∀C:Bool->Shared->Prop,C (O.blt (key i) (key j)) s->cmp i j C s
end
end MxSort
end
section
namespace Mx
open PySem PySem.Spec PyProof.Rows L2 PySem.SeqAt
mutual
noncomputable def D.dep:D->Nat
 |.int _=>0
 |.str _=>0
 |.tup ds=>D.cF ds+1
noncomputable def D.cF:List D->Nat
 |[]=>0
 |d::ds=>max (D.dep d) (D.cF ds)
end
mutual
noncomputable def DV(H:Hp):V->D->Prop
 |x,.int i=>x= .int i
 |x,.str z=>x= .str z
 |x,.tup ds=>∃a xs,x= .ref a/\H a=U (.tup xs)/\bf H xs ds
noncomputable def bf(H:Hp):List V->List D->Prop
 |[],[]=>True
 |x::xs,d::ds=>DV H x d/\bf H xs ds
 |[],_::_=>False
 |_::_,[]=>False
end
theorem bf.nil{H:Hp}:bf H [] []:=by unfold bf;trivial
theorem bf.cons{H:Hp}{x:V}{xs:List V}{d:D}{ds:List D}(h:DV H x d)(t:bf H xs ds):bf H (x::xs) (d::ds):=by unfold bf;exact#[h,t]
theorem DV.int{H:Hp}{i:Int}:DV H (.int i) (.int i):=by unfold DV;rfl
theorem DV.str{H:Hp}{x:Str}:DV H (.str x) (.str x):=by unfold DV;rfl
theorem DV.tup{H:Hp}{a:Addr}{xs:List V}{ds:List D}(h:H a=U (.tup xs))(t:bf H xs ds):DV H (.ref a) (.tup ds):=by unfold DV;exact#[a,xs,rfl,h,t]
theorem DV.aw{H:Hp}{x:V}{ds:List D}(h:DV H x (.tup ds)):∃a xs,x= .ref a/\H a=U (.tup xs)/\bf H xs ds:=by unfold DV at h;exact h
theorem DV.int_inv{H:Hp}{x:V}{i:Int}(h:DV H x (.int i)):x= .int i:=by unfold DV at h;exact h
theorem DV.str_inv{H:Hp}{x:V}{i:Str}(h:DV H x (.str i)):x= .str i:=by unfold DV at h;exact h
theorem bf.cons_inv{H:Hp}{xs:List V}{d:D}{ds:List D}(h:bf H xs (d::ds)):∃x r,xs=x::r/\DV H x d/\bf H r ds:=by
 cases xs with
 |nil=>unfold bf at h;exact h.elim
 |cons x r=>unfold bf at h;exact#[x,r,rfl,h]
theorem bf.length{H:Hp}:∀{xs:List V}{ds:List D},bf H xs ds->xs.length=ds.length
 |[],[],_=>rfl
 |[],_::_,h=>by unfold bf at h;exact h.elim
 |_::_,[],h=>by unfold bf at h;exact h.elim
 |_::xs,_::ds,h=>by unfold bf at h;simp[bf.length h.2]
theorem bf.get{H:Hp}:∀{xs:List V}{ds:List D}{i:Nat}{x:V},bf H xs ds->xs[i]?=U x->∃d,ds[i]?=U d/\DV H x d
 |[],_,_,_,_,e=>by simp at e
 |_::_,[],_,_,h,_=>by unfold bf at h;exact h.elim
 |_::_,_::_,0,_,h,e=>by unfold bf at h;simp at e;subst e;exact#[_,rfl,h.1]
 |_::xs,_::ds,i+1,x,h,e=>by unfold bf at h;obtain⟨d,e1,e2⟩:=bf.get (i:=i) h.2 (by simpa using e);exact#[d,by simpa using e1,e2]
def Em(H H':Hp):Prop:=∀a xs,H a=U (.tup xs)->H' a=U (.tup xs)
mutual
theorem DV.mono{H H':Hp}(t:Em H H'):∀{x:V}{d:D},DV H x d->DV H' x d
 |x,.int i,h=>by unfold DV at h ⊢;exact h
 |x,.str z,h=>by unfold DV at h ⊢;exact h
 |x,.tup ds,h=>by obtain⟨a,xs,e,e1,e2⟩:=h.aw;subst e;exact DV.tup (t a xs e1) (bf.mono t e2)
theorem bf.mono{H H':Hp}(t:Em H H'):∀{xs:List V}{ds:List D},bf H xs ds->bf H' xs ds
 |[],[],_=>bf.nil
 |[],_::_,h=>by unfold bf at h;exact h.elim
 |_::_,[],h=>by unfold bf at h;exact h.elim
 |_::xs,_::ds,h=>by unfold bf at h;exact bf.cons (DV.mono t h.1) (bf.mono t h.2)
end
mutual
theorem DV.inj{H:Hp}:∀{x:V}{d e:D},DV H x d->DV H x e->d=e
 |x,.int i,e,h1,h2=>by
  have:=h1.int_inv;subst this;cases e with
  |int j=>have:=h2.int_inv;injection this with q;rw[q]
  |str j=>have:=h2.str_inv;cases this
  |tup j=>obtain⟨_,_,q,_⟩:=h2.aw;cases q
 |x,.str i,e,h1,h2=>by
  have:=h1.str_inv;subst this;cases e with
  |int j=>have:=h2.int_inv;cases this
  |str j=>have:=h2.str_inv;injection this with q;rw[q]
  |tup j=>obtain⟨_,_,q,_⟩:=h2.aw;cases q
 |x,.tup ds,e,h1,h2=>by
  obtain⟨a,xs,q,e1,e2⟩:=h1.aw;subst q;cases e with
  |int j=>have:=h2.int_inv;cases this
  |str j=>have:=h2.str_inv;cases this
  |tup j=>obtain⟨b,ys,q,f1,f2⟩:=h2.aw;cases q;rw[e1]at f1;cases f1;rw[bf.inj e2 f2]
theorem bf.inj{H:Hp}:∀{xs:List V}{ds es:List D},bf H xs ds->bf H xs es->ds=es
 |[],[],[],_,_=>rfl
 |[],[],_::_,_,h=>by unfold bf at h;exact h.elim
 |[],_::_,_,h,_=>by unfold bf at h;exact h.elim
 |_::_,[],_,h,_=>by unfold bf at h;exact h.elim
 |_::_,_::_,[],_,h=>by unfold bf at h;exact h.elim
 |_::xs,_::ds,_::es,h1,h2=>by unfold bf at h1 h2;rw[DV.inj h1.1 h2.1,bf.inj h1.2 h2.2]
end
def LX(ds es:List D)(j:Nat):Bool:=match ds[j]?,es[j]? with
 |some d,U e=>D.gh d e
 |_,_=>B'
theorem tI:∀ds es:List D,((List.range (min ds.length es.length)).all (LX ds es)&&ds.length==es.length)=D.eqs ds es
 |[],[]=>by simp[D.eqs]
 |[],_::_=>by simp[D.eqs]
 |_::_,[]=>by simp[D.eqs]
 |d::ds,e::es=>by
  have ih:=tI ds es;have hm:min (d::ds).length (e::es).length=min ds.length es.length+1:=by simp only[TN];lia
  have e1:((d::ds).length==(e::es).length)=(ds.length==es.length):=by rw[Uz];simp
  rw[hm,List.range_succ_eq_map,US,List.all_map,e1,D.eqs,<-ih,Bool.and_assoc];rfl
theorem nI{d:D}:∀{ds:List D}{j:Nat},ds[j]?=U d->D.dep d<=D.cF ds
 |[],_,h=>by simp at h
 |d'::ds,0,h=>by simp at h;subst h;unfold D.cF;lia
 |d'::ds,j+1,h=>by have:=nI (ds:=ds) (j:=j) (by simpa using h);unfold D.cF;lia
section
variable{P:Program}{w:World}{H:Hp}{s:Shared}
theorem aV(hok:dN P w H s.heap){a:Addr}{xs:List V}(h:H a=U (.tup xs)):∃its:List Value,ay xs its/\s.heap.IsTuple a its.toArray:=by obtain⟨_,its,r,t⟩:=hok a _ h;exact#[its,r,t.is]
theorem eq_data(hok:dN P w H s.heap):∀(n:Nat)(d e:D)(x y:V)(u v:Value)(A:Around),D.dep d<=n->A.units+n<cLine->DV H x d->DV H y e->RelV x u->RelV y v->EqAt A s u v (D.gh d e):=by
 intro n
 induction n with
 |zero=>
  intro d e x y u v A hd hu hx hy rx ry;cases d with
  |int i=>
   have:=hx.int_inv;subst this;obtain⟨t,rfl⟩:=rx;cases e with
   |int j=>have:=hy.int_inv;subst this;obtain⟨t',rfl⟩:=ry;exact EqAt.int_int i t j t'
   |str j=>have:=hy.str_inv;subst this;obtain⟨t',rfl⟩:=ry;exact EqAt.int_str i t j t'
   |tup j=>obtain⟨b,ys,q,f1,f2⟩:=hy.aw;subst q;cases ry;obtain⟨its,_,ht⟩:=aV hok f1;exact EqAt.int_tuple i t ht ⋯
  |str i=>
   have:=hx.str_inv;subst this;obtain⟨t,rfl⟩:=rx;cases e with
   |int j=>have:=hy.int_inv;subst this;obtain⟨t',rfl⟩:=ry;exact EqAt.str_int i t j t'
   |str j=>have:=hy.str_inv;subst this;obtain⟨t',rfl⟩:=ry;exact EqAt.str_str i t j t'
   |tup j=>obtain⟨b,ys,q,f1,f2⟩:=hy.aw;subst q;cases ry;obtain⟨its,_,ht⟩:=aV hok f1;exact EqAt.str_tuple i t ht ⋯
  |tup ds=>unfold D.dep at hd;lia
 |succ n ih=>
  intro d e x y u v A hd hu hx hy rx ry;cases d with
  |int i=>exact ih (.int i) e x y u v A (by unfold D.dep;lia) ⋯ hx hy rx ry
  |str i=>exact ih (.str i) e x y u v A (by unfold D.dep;lia) ⋯ hx hy rx ry
  |tup ds=>
   obtain⟨a,xs,q,e1,e2⟩:=hx.aw;subst q;cases rx;obtain⟨its,r1,ht⟩:=aV hok e1;cases e with
   |int j=>have:=hy.int_inv;subst this;obtain⟨t',rfl⟩:=ry;exact EqAt.tuple_int j t' ht ⋯
   |str j=>have:=hy.str_inv;subst this;obtain⟨t',rfl⟩:=ry;exact EqAt.tuple_str j t' ht ⋯
   |tup es=>
    obtain⟨b,ys,q,f1,f2⟩:=hy.aw;subst q;cases ry;obtain⟨b9,r2,o6⟩:=aV hok f1;by_cases gN:a=b
    ·subst gN;rw[e1]at f1;cases f1;have:=bf.inj e2 f2;subst this;have q:D.gh (.tup ds) (.tup ds)=B':=(D.cK _ _).mpr rfl;rw[q];exact EqAt.same _
    ·have l1:its.toArray.size=ds.length:=by rw[Tj,<-r1.length,e2.length]
     have l2:b9.toArray.size=es.length:=by rw[Tj,<-r2.length,f2.length]
     have key:=RcAt.tuples (A:=A) (e:=LX ds es) ht o6 ⋯ (λj h1 h2=>?_)
     ·have q:=tI ds es;rw[<-l1,<-l2]at q;rw[q]at key;exact EqAt.of_refs gN key
     ·have yQ:j<xs.length:=by rw[e2.length,<-l1];exact h1
      have yR:j<ys.length:=by rw[f2.length,<-l2];exact h2
      obtain⟨d,g1,g2⟩:=e2.get (i:=j) (x:=xs[j]) (by simp[yQ]);obtain⟨e,k1,k2⟩:=f2.get (i:=j) (x:=ys[j]) (by simp[yR]);obtain⟨u,JH,ru⟩:=r1.get (i:=j) (x:=xs[j]) (by simp[yQ]);obtain⟨v,JJ,rv⟩:=r2.get (i:=j) (x:=ys[j]) (by simp[yR]);have eu:its.toArray[j]=u:=by have:its[j]?=U u:=JH;simp only[U6];have q:=To.mp this;exact q.2
      have ev:b9.toArray[j]=v:=by have:b9[j]?=U v:=JJ;simp only[U6];have q:=To.mp this;exact q.2
      rw[eu,ev];have ee:LX ds es j=D.gh d e:=by unfold LX;rw[g1,k1]
      rw[ee];refine ih d e xs[j] ys[j] u v A.in1 ?_ (by show A.units+1+n<cLine;lia) g2 k2 ru rv;have:=nI g1;unfold D.dep at hd
      lia
end
mutual
noncomputable def D.dG:D->D->Prop
 |.int _,.int _=>True
 |.str _,.str _=>True
 |.tup a,.tup b=>D.gj a b
 |_,_=>False
noncomputable def D.gj:List D->List D->Prop
 |x::xs,y::ys=>D.dG x y/\D.gj xs ys
 |_,_=>True
end
def ng:Bool->Bool->Bool
 |true,b=> !b
 |false,b=>b
def Pz:Bool->CmpOp
 |true=>.GtE
 |false=>.Lt
def Lj:Bool->Builtin
 |true=>Builtin.«tuple.__ge__»
 |false=>Builtin.«tuple.__lt__»
def xB(g:Bool)(A:Around)(s:Shared)(u v:Value)(b:Bool):Prop:=
 ∀(prog:Program)(w:World)(E:Value->Shared->Prop)(Q:Value->Shared->Prop),Q (.bool (ng g b)) s->wpAny (model prog w) A (richCompare (Pz g) u v) Q E s
inductive Zp(g:Bool)(A:Around)(s:Shared):List Value->List Value->List D->List D->Prop
 |nil {ws:List Value} {es:List D}:ws.length=es.length->Zp g A s [] ws [] es
 |Ci {vs:List Value} {ds:List D}:vs.length=ds.length->Zp g A s vs [] ds []
 |cons {v w:Value} {d e:D} {vs ws:List Value} {ds es:List D}:EqAt A s v w (D.gh d e)->(d≠e->xB g A s v w (D.lt d e))->Zp g A s vs ws ds es->Zp g A s (v::vs) (w::ws) (d::ds) (e::es)
section
open PySem.AutoSeq1 (wpAny_loadPart')
open PySem.MeetsSeq PySem.MeetsSeq2 PySem.MeetsSeq3
theorem lS(g:Bool)(l b:Addr)(items fA:Array Value)(n n2:Nat)(dd A2:Option Addr)(sl xx:Array (Option Value))(ds es:List D)(z1:items.size=ds.length)(z2:fA.size=es.length):
  Meets (Lj g #[[.ref l,.ref b],[]])
   (λA R s=>s.heap.get? l=U {cls:=.type "tuple",dict:=dd,data:=.seq items n,slots:=sl}/\s.heap.get? b=U {cls:=.type "tuple",dict:=A2,data:=.seq fA n2,slots:=xx}/\
    Zp g A.in1 s items.toList fA.toList ds es/\R (.ok (.ret (.bool (ng g (D.fQ ds es))))) s):=by
 rcases g.eq_false_or_eq_true with hg|hg
 all_goals
  rw[show Lj g=Lj _ from VY Lj hg];unfold Lj;refine .of_wp λprog w A R s h=>?_
  obtain⟨hp,gg,d,tk,os⟩:=s;obtain⟨hl,hb,Sh,h⟩:=h;have f2:=AutoSeq1.sub_tuple_tuple
  wp_walk using wpAny_loadPart' hl,wpAny_loadPart' hb,wpAny_forIn_list _ (λrest b s'=>b.1=y'/\s'=#[hp,gg,d,tk,os]/\∃(vs ws:List Value)(xi gi:List D),rest=vs.zip ws/\
   Zp g A.in1 #[hp,gg,d,tk,os] vs ws xi gi/\xi.length+fA.size=gi.length+items.size/\R (.ok (.ret (.bool (ng g (D.fQ xi gi))))) #[hp,gg,d,tk,os]) _
  case turn=>
   rintro⟨y,x⟩ rest b s' ⟨ug,rfl,vs,ws,xi,gi,hz,Oe,hlen,hR⟩;cases Oe with
   |nil _=>rw[VA]at hz;cases hz
   |Ci _=>rw[VB]at hz;cases hz
   |cons he hl JM=>
    rename_i v wv d0 e0 xy ws' ds'' es'';rw[Vz]at hz;injection hz with hyx JF;injection hyx with hy hx;subst hy hx;rw[D.d4]at hR;simp only[TN]at hlen;refine Td (he prog w _ _ ?_);by_cases hde:d0=e0
    ·rw[V2 hde]at hR;rw[(D.cK d0 e0).mpr hde]
     wp_walk
     exact#[rfl,rfl,_,_,_,_,JF,JM,⋯,hR]
    ·rw[V1 hde]at hR;have QY:D.gh d0 e0=G':=by rw[D.jA];exact T1 hde
     rw[QY];have N7:=hl hde prog w;rw[hg]at N7 hR;dsimp only[Pz]at N7
     wp_walk using N7
     exact#[_,rfl,hR]
  case fin=>
   rintro⟨b1,b2⟩ s' ⟨ug,rfl,vs,ws,xi,gi,hz,Oe,hlen,hR⟩;simp only at ug;subst ug;have hv:D.fQ xi gi=decide (items.size<fA.size):=by
    cases Oe with
    |nil _=>
     cases gi with
     |nil=>simp only[U8]at hlen;exact(T1 ⋯).symm
     |cons c u=>simp only[U8,TN]at hlen;exact(T5 ⋯).symm
    |Ci _=>simp only[U8]at hlen;rw[show D.fQ xi []=G' by cases xi<;>rfl];exact(T1 ⋯).symm
    |cons he hl JM=>rw[Vz]at hz;cases hz
   rw[hv,hg]at hR
   wp_walk
   exact#[_,rfl,by first|simpa [Builtin.Tuple.tupleCompareSizes]using hR|simpa [Builtin.Tuple.tupleCompareSizes,ng,<-Nat.not_lt]using hR]
  case h=>exact#[rfl,rfl,items.toList,fA.toList,ds,es,rfl,Sh,⋯,h]
end
section
variable{P:Program}{w:World}{H:Hp}{s:Shared}
theorem AW{g:Bool}(hok:dN P w H s.heap){A:Around}{n:Nat}(hu:A.units+n<cLine)(ih:∀(d e:D)(x y:V)(u v:Value),D.dep d<=n->D.dG d e->DV H x d->DV H y e->RelV x u->RelV y v->xB g A s u v (D.lt d e)):
  ∀{xs ys:List V}{us vs:List Value}{ds es:List D},D.cF ds<=n->D.gj ds es->bf H xs ds->bf H ys es->ay xs us->ay ys vs->Zp g A s us vs ds es
 |[],ys,us,vs,[],es,_,_,_,h2,r1,r2=>by cases r1;exact .nil (by rw[<-r2.length,h2.length])
 |x::xs,[],us,vs,ds,[],_,_,h1,_,r1,r2=>by cases r2;exact .Ci (by rw[<-r1.length,h1.length])
 |[],_,_,_,_::_,_,_,_,h,_,_,_=>by unfold bf at h;exact h.elim
 |_::_,_,_,_,[],_,_,_,h,_,_,_=>by unfold bf at h;exact h.elim
 |_::_,[],_,_,_::_,_::_,_,_,_,h,_,_=>by unfold bf at h;exact h.elim
 |_::_,_::_,_,_,_::_,[],_,_,_,h,_,_=>by unfold bf at h;exact h.elim
 |x::xs,y::ys,us,vs,d::ds,e::es,hd,hl,h1,h2,r1,r2=>by
  unfold bf at h1 h2;unfold D.gj at hl;unfold D.cF at hd;cases r1 with
  |cons r1 t1=>
   cases r2 with
   |cons r2 t2=>exact .cons (eq_data hok n d e x y _ _ A ⋯ hu h1.1 h2.1 r1 r2) (λ_=>ih d e x y _ _ ⋯ hl.1 h1.1 h2.1 r1 r2) (AW hok hu ih ⋯ hl.2 h1.2 h2.2 t1 t2)
theorem tR(g:Bool)(hok:dN P w H s.heap):∀(n:Nat)(d e:D)(x y:V)(u v:Value)(A:Around),D.dep d<=n->A.units+n<cLine->D.dG d e->DV H x d->DV H y e->RelV x u->RelV y v->xB g A s u v (D.lt d e):=by
 intro n
 induction n with
 |zero=>
  intro d e x y u v A hd hu hl hx hy rx ry;cases d with
  |int i=>
   have:=hx.int_inv;subst this;obtain⟨t,rfl⟩:=rx;cases e with
   |int j=>
    have:=hy.int_inv;subst this;obtain⟨t',rfl⟩:=ry;intro prog wd E Q q;cases g with
    |false=>exact(PyProof.Rows.lt_int q:wpAny (model prog wd) A (compareOp .Lt (.int i t) (.int j t')) Q E s)
    |true=>exact(PyProof.Rows.ge_int (by unfold D.lt at q;rw[show decide (j<=i)= !decide (i<j) from by by_cases h:i<j<;>simp[h]<;>lia];exact q):wpAny (model prog wd) A (compareOp .GtE (.int i t) (.int j t')) Q E s)
   |str j=>unfold D.dG at hl;exact hl.elim
   |tup j=>unfold D.dG at hl;exact hl.elim
  |str i=>
   have:=hx.str_inv;subst this;obtain⟨t,rfl⟩:=rx;cases e with
   |int j=>unfold D.dG at hl;exact hl.elim
   |str j=>
    have:=hy.str_inv;subst this;obtain⟨t',rfl⟩:=ry;intro prog wd E Q q;cases g with
    |false=>exact(PySem.P.lt_str q:wpAny (model prog wd) A (compareOp .Lt (.str i t) (.str j t')) Q E s)
    |true=>exact(PySem.P.ge_str q:wpAny (model prog wd) A (compareOp .GtE (.str i t) (.str j t')) Q E s)
   |tup j=>unfold D.dG at hl;exact hl.elim
  |tup ds=>unfold D.dep at hd;lia
 |succ n ih=>
  intro d e x y u v A hd hu hl hx hy rx ry;cases d with
  |int i=>exact ih (.int i) e x y u v A (by unfold D.dep;lia) ⋯ hl hx hy rx ry
  |str i=>exact ih (.str i) e x y u v A (by unfold D.dep;lia) ⋯ hl hx hy rx ry
  |tup ds=>
   obtain⟨a,xs,q,e1,e2⟩:=hx.aw;subst q;cases rx;cases e with
   |int j=>unfold D.dG at hl;exact hl.elim
   |str j=>unfold D.dG at hl;exact hl.elim
   |tup es=>
    obtain⟨b,ys,q,f1,f2⟩:=hy.aw;subst q;cases ry;obtain⟨its,r1,ht⟩:=aV hok e1;obtain⟨b9,r2,o6⟩:=aV hok f1;have l1:its.toArray.size=ds.length:=by rw[Tj,<-r1.length,e2.length]
    have l2:b9.toArray.size=es.length:=by rw[Tj,<-r2.length,f2.length]
    have rE:D.cF ds<=n:=by unfold D.dep at hd;lia
    have uk:D.gj ds es:=by unfold D.dG at hl;exact hl
    have zz:Zp g A.in1 s its b9 ds es:=AW hok (n:=n) (by show A.units+1+n<cLine;lia) (λd e x y u v hd2 b7 BX JL rx2 ry2=>ih d e x y u v A.in1 hd2 (by show A.units+1+n<cLine;lia) b7 BX JL rx2 ry2) rE uk e2 f2 r1 r2;intro prog wd E Q q;obtain⟨⟨cls,dd,data,sl⟩,ho,hc,k,BS⟩:=id ht;obtain⟨⟨IV,A2,data2,xx⟩,kB,lO,k2,rG⟩:=id o6;simp only at hc BS lO rG;subst hc BS lO rG;have q':Q (.bool (ng g (D.fQ ds es))) s:=by have z:=q;unfold D.lt at z;exact z
    have tc:=lS g a b its.toArray b9.toArray k k2 dd A2 sl xx ds es l1 l2;have fin:s.heap.get? a=_/\s.heap.get? b=_/\Zp g A.in1 s its b9 ds es/\Value.bool (ng g (D.fQ ds es))≠Value.notImplemented/\Q (.bool (ng g (D.fQ ds es))) s:=#[ho,kB,zz,(λx=>nomatch x),q'];cases g with
    |false=>exact richCompare_meets_room (op:=.Lt) #[_,ho,rfl] #[_,kB,rfl] PySem.F.slot_tuple_lt PySem.F.entry_tuple_lt (PySem.F.args_tuple_lt_2 _ _) tc fin ⋯
    |true=>exact richCompare_meets_room (op:=.GtE) #[_,ho,rfl] #[_,kB,rfl] PySem.F.slot_tuple_ge PySem.F.entry_tuple_ge (PySem.F.args_tuple_ge_2 _ _) tc fin ⋯
theorem B8(hok:dN P w H s.heap):∀(n:Nat)(d e:D)(x y:V)(u v:Value)(A:Around),D.dep d<=n->A.units+n<cLine->D.dG d e->DV H x d->DV H y e->RelV x u->RelV y v->xB G' A s u v (D.lt d e):=tR G' hok
theorem BK(hok:dN P w H s.heap):∀(n:Nat)(d e:D)(x y:V)(u v:Value)(A:Around),D.dep d<=n->A.units+n<cLine->D.dG d e->DV H x d->DV H y e->RelV x u->RelV y v->xB B' A s u v (D.lt d e):=tR B' hok
end
end Mx
end
section
namespace Mx
open PySem PySem.W PySem.Spec PyProof.Rows L2 PySem.SeqAt MxSort
section
variable{w:World}{prog:Program}{s:Shared}{A:Around}
theorem B4{b:Bool}{n m:Nat}{Q:Bool->Shared->Prop}{us vs:List Value}{ds es:List D}(z:Zp G' A s us vs ds es):∀(i:Nat),1<=i->ds.length+m=es.length+n->Q (D.fQ ds es) s->KatLex prog w A b (decide (n<m)) Q (us.zip vs) i s:=by
 induction z with
 |nil hl=>
  intro i hi hlen q;rw[VA];refine kat_nil ?_;rename_i ws es;cases es with
  |nil=>simp only[U8]at hlen;rw[D.fQ]at q;rw[T1 ⋯];exact q
  |cons c u=>simp only[U8,TN]at hlen;rw[D.fQ]at q;rw[T5 ⋯];exact q
 |Ci hl=>
  intro i hi hlen q;rw[VB];refine kat_nil ?_;rename_i vs ds;cases ds with
  |nil=>simp only[U8]at hlen;rw[D.fQ]at q;rw[T1 ⋯];exact q
  |cons c u=>simp only[U8,TN]at hlen;rw[D.fQ]at q;rw[T1 ⋯];exact q
 |cons he hl z' ih=>
  intro i hi hlen q;rename_i v wv d e xy ws' xi gi;rw[Vz];simp only[TN]at hlen;rw[D.d4]at q;refine kat_cons (he prog w _ _ ?_);by_cases hde:d=e
  ·rw[(D.cK d e).mpr hde];rw[V2 hde]at q;exact kat_yes (ih (i+1) ⋯ ⋯ q)
  ·rw[show D.gh d e=G' by rw[D.jA];exact T1 hde];rw[V1 hde]at q;refine kat_no ?_;rw[show (b&&i==0)=G' by rw[show (i==0)=G' by simp;lia];simp];exact kat_one v wv (hl hde prog w _ _ q)
end
def jX(ds es:List D):Prop:=es.Perm ds/\es.Pairwise λa b=>D.lt b a=G'
theorem bf.map{H:Hp}{xs:List V}{ds:List D}(h:bf H xs ds):∀{p:List Nat},(∀i∈p,i<xs.length)->bf H (p.map λi=>xs.getD i .aE) (p.map λi=>ds.getD i (.int 0))
 |[],_=>bf.nil
 |i::p,hp=>by have hi:=hp i Tt;obtain⟨d,e1,e2⟩:=h.get (i:=i) (x:=xs[i]) (by simp[hi]);refine bf.cons ?_ (bf.map h λj hj=>hp j (Tp _ hj));dsimp only;rw[show xs.getD i .aE=xs[i] by simp[hi],show ds.getD i (.int 0)=d by simp[e1]];exact e2
theorem qC{xs:List V}{us:List Value}(h:ay xs us):∀{p:List Nat},(∀i∈p,i<xs.length)->ay (p.map λi=>xs.getD i .aE) (p.map λi=>us.getD i .none)
 |[],_=>.nil
 |i::p,hp=>by have hi:=hp i Tt;obtain⟨u,e1,e2⟩:=h.get (i:=i) (x:=xs[i]) (by simp[hi]);refine .cons ?_ (qC h λj hj=>hp j (Tp _ hj));dsimp only;rw[show xs.getD i .aE=xs[i] by simp[hi],show us.getD i .none=u by simp[e1]];exact e2
theorem kM{α:Type}(l:List α)(d:α):(List.range l.length).map (λi=>l.getD i d)=l:=by
 refine List.ext_getElem (by simp) λi h1 h2=>?_
 simp at h1;simp[h1]
end Mx
end
section
namespace L2
open PySem PySem.Spec PyProof.Rows
def nB(env:Env):List (Str×NameKind)->List (Str×Addr)->List (Str×Addr)
 |[],cs=>cs
 |(n,k)::r,cs=>nB env r (if k== .free then(n,(env.cells.lookup n).getD 0)::cs else cs)
def fj(scope:Scope)(env:Env):List (Str×Addr):=nB env scope.names []
theorem km{env:Env}:∀(l:List (Str×NameKind))(cs:List (Str×Addr)),(∀y∈l,y.2= .free->∃c,env.cells.lookup y.1=U c)->
  (forIn l cs (λx r=>do
   if x.2==NameKind.free then do let a<-cellOf env x.1;pure (ForInStep.yield ((x.1,a)::r)) else pure (ForInStep.yield r)):Sem (List (Str×Addr)))=pure (nB env l cs)
 |[],cs,_=>rfl
 |(n,k)::r,cs,h=>by
  rw[UZ];have ih:=λcs=>km r cs λy hy=>h y (Tp _ hy)
  cases hk:(k==NameKind.free) with
  |false=>simp only[hk,UA,V0,nB,pure_bind];exact ih cs
  |true=>
   obtain⟨c,hc⟩:=h (n,k) Tt (by simpa using hk);have lN:env.cells.lookup n=U c:=hc;have e:cellOf env n=pure c:=by unfold cellOf;rw[lN]
   simp only[hk,V3,nB,e,pure_bind,lN,Option.getD_some];exact ih _
theorem gf{scope:Scope}{env:Env}(h:∀y∈scope.names,y.2= .free->∃c,env.cells.lookup y.1=U c):closureFor scope env=pure (fj scope env):=by have q:=km (env:=env) scope.names [] h;unfold closureFor fj;rw[<-q];simp only[bind_pure]
theorem jf{env:Env}{x:Str}{c:Addr}:∀(l:List (Str×NameKind))(cs:List (Str×Addr)),(∀y∈l,y.2= .free->∃c,env.cells.lookup y.1=U c)->
  (∀c,cs.lookup x=U c->env.cells.lookup x=U c)->(nB env l cs).lookup x=U c->env.cells.lookup x=U c
 |[],cs,_,h2,h=>h2 c h
 |(n,k)::r,cs,h1,h2,h=>by
  refine jf r _ (λy hy=>h1 y (Tp _ hy)) (λc' lN=>?_) h;by_cases hk:(k==NameKind.free)=B'
  ·rw[V2 hk]at lN;rw[T2]at lN;by_cases hx:(x==n)=B'
   ·rw[hx]at lN;have zb:x=n:=by simpa using hx
    subst zb;obtain⟨c₁,e⟩:=h1 (x,k) Tt (by simpa using hk);have e':env.cells.lookup x=U c₁:=e;rw[e']at lN ⊢;simpa using lN
   ·rw[Bool.not_eq_true]at hx;rw[hx]at lN;exact h2 c' lN
  ·rw[V1 hk]at lN;exact h2 c' lN
theorem j8{env:Env}{x:Str}:∀(l:List (Str×NameKind))(cs:List (Str×Addr)),(((x,NameKind.free)∈l)\/∃c,cs.lookup x=U c)->∃c,(nB env l cs).lookup x=U c
 |[],cs,h=>by
  rcases h with h|h
  ·cases h
  ·exact h
 |(n,k)::r,cs,h=>by
  refine j8 r _ ?_;by_cases hk:(k==NameKind.free)=B'
  ·rw[V2 hk];by_cases hx:(x==n)=B'
   ·exact .inr #[_,by rw[T2,hx]]
   ·rw[Bool.not_eq_true]at hx;rcases h with h|h
    ·rcases TC.mp h with e|h
     ·injection e with e1 e2;subst e1;simp at hx
     ·exact .inl h
    ·exact .inr (by obtain⟨c,e⟩:=h;exact#[c,by rw[T2,hx];exact e])
  ·rw[V1 hk];rcases h with h|h
   ·rcases TC.mp h with e|h
    ·injection e with e1 e2;subst e2;exact absurd rfl hk
    ·exact .inl h
   ·exact .inr h
theorem aS{env:Env}{x:Str}:∀{names:List (Str×NameKind)}{k:NameKind},names.lookup x=U k->
  (names.map λ(n,k)=>if (k==NameKind.free&&env.scope.kind== .function&&env.kindOf n==U .cell) then(n,NameKind.cell) else(n,k)).lookup x=
   U (if (k==NameKind.free&&env.scope.kind== .function&&env.kindOf x==U .cell) then NameKind.cell else k)
 |[],_,h=>by simp at h
 |(n,k')::r,k,h=>by
  have ih:=@aS env x r k;show List.lookup x ((if (k'==NameKind.free&&env.scope.kind== .function&&env.kindOf n==U .cell)=B' then(n,NameKind.cell) else(n,k'))::_)=_;cases hx:x==n with
  |true=>
   have zb:x=n:=by simpa using hx
   subst zb;simp only[T2,hx]at h;cases h;by_cases hc:(k'==NameKind.free&&env.scope.kind== .function&&env.kindOf x==U .cell)=B'
   ·simp only[hc,V3,T2,hx]
   ·rw[V1 hc,V1 hc];simp only[T2,hx]
  |false=>
   simp only[T2,hx]at h;by_cases hc:(k'==NameKind.free&&env.scope.kind== .function&&env.kindOf n==U .cell)=B'
   ·rw[V2 hc];simp only[T2,hx];exact ih h
   ·rw[V1 hc];simp only[T2,hx];exact ih h
theorem bP{env:Env}{x:Str}:∀{names:List (Str×NameKind)},names.lookup x=y'->
  (names.map λ(n,k)=>if (k==NameKind.free&&env.scope.kind== .function&&env.kindOf n==U .cell) then(n,NameKind.cell) else(n,k)).lookup x=y'
 |[],h=>rfl
 |(n,k')::r,h=>by
  show List.lookup x ((if (k'==NameKind.free&&env.scope.kind== .function&&env.kindOf n==U .cell)=B' then(n,NameKind.cell) else(n,k'))::_)=_;cases hx:x==n with
  |true=>simp only[T2,hx]at h;cases h
  |false=>
   simp only[T2,hx]at h;by_cases hc:(k'==NameKind.free&&env.scope.kind== .function&&env.kindOf n==U .cell)=B'
   ·rw[V2 hc];simp only[T2,hx];exact bP h
   ·rw[V1 hc];simp only[T2,hx];exact bP h
def cL(cap:List (Option Nat))(σ:St):St:=cap.map λo=>o.bind λi=>(σ[i]?).join
def Eh(X:Cx)(ifs:List Expr)(t:TT):Prop:=
 ∀(J':List (Addr×Obj))(s:Shared)(σ:St)(H:Hp)(Q:Bool->Hp->Prop),Inv X J' σ H s->t σ H Q->
  wpAny (model X.prog X.w) X.A (forIn ifs B' λc r=>if r=B' then do let ok<-isTrue c X.env (eval c X.env);pure (ForInStep.yield ok) else pure (ForInStep.yield r)) (TP X J' σ Q) X.xe s
def Pa:TT:=λ_ H Q=>Q B' H
theorem CM{X:Cx}:Eh X [] Pa:=λ_ _ _ H _ I h=>wpAny_tests_nil #[H,I,h]
theorem CN{X:Cx}{c:Expr}{t:TT}(h:PT X c t):Eh X [c] t:=λJ' s σ H Q I hw=>wpAny_tests_one (h J' s σ H Q I hw)
end L2
end
section
namespace Mx
open PySem PySem.W PySem.Spec PyProof.Rows L2 PySem.SeqAt
section
variable{X:Cx}
def OM:V->Option Int->Option Int->Hp->VK->Prop:=λx lo hi H Q=>∃z,x= .str z/\z.length<=sizeLine/\Q (.str (PySem.Txt.slice z lo hi)) H
theorem Hd:HN X OM:=by
 intro J' s σ H x v vl vu lo hi sl Q I rx hs pl pu h;obtain⟨z,rfl,hz,q⟩:=h;obtain⟨t,rfl⟩:=rx;refine#["str",_,PySem.F.slot_str_getitem.lookup,typeIs_str _ _ _,?_];have fin:∀(t':Tok)(k:Nat),EP X J' σ Q (.str (PySem.Txt.slice z lo hi) t') {s with toks:=k}:=λt' k=>#[.str _,H,I.tok k,#[t',rfl],q]
 have hlen:=Tz (PySem.Txt.slice_le z lo hi) hz;obtain⟨o,ho,hc,hd⟩:=hs;cases pl with
 |none=>
  cases pu with
  |none=>exact wpAny_getItem_str_slice (l:=y') (u:=y') (st:=y') #[o,ho,hc,hd] rfl (post_val_or_str #[hlen,fin])
  |int j tj=>exact wpAny_getItem_str_slice (l:=y') (u:=U (j,tj)) (st:=y') #[o,ho,hc,hd] rfl (post_val_or_str #[hlen,fin])
 |int i ti=>
  cases pu with
  |none=>exact wpAny_getItem_str_slice (l:=U (i,ti)) (u:=y') (st:=y') #[o,ho,hc,hd] rfl (post_val_or_str #[hlen,fin])
  |int j tj=>exact wpAny_getItem_str_slice (l:=U (i,ti)) (u:=U (j,tj)) (st:=y') #[o,ho,hc,hd] rfl (post_val_or_str #[hlen,fin])
theorem lA:∀{ys:List Str}{us:List Value},ay (ys.map V.str) us->StrsAre us ys
 |[],us,r=>by cases r;exact .nil
 |y::ys,us,r=>by
  cases r with
  |cons r rr=>obtain⟨t,rfl⟩:=r;exact .cons y t (lA rr)
def rJoin(K:PySem.W.Frag):V->List V->Hp->VK->Prop:=λx xs H Q=>∃z l ys,x= .str z/\xs=[.ref l]/\du K H l (ys.map V.str)/\(ys.map (·.length)).sum+ys.length*z.length<=16777216/\Q (.str (PySem.Txt.join z ys)) H
theorem Cf:ML X "str.join" (rJoin X.K):=by intro J' s σ H x xs v us Q I rx rv h;obtain⟨z,l,ys,rfl,rfl,hq,hz,q⟩:=h;obtain⟨t,rfl⟩:=rx;obtain⟨u,rfl,ru⟩:=rv.one;cases ru;obtain⟨its,r,pl,_⟩:=I.list hq;exact join_list pl.isList (lA (by simpa using r)) hz λt' k=>#[.str _,H,I.tok k,#[t',rfl],q]
def OF(K:PySem.W.Frag):List V->Hp->VK->Prop:=λxs H Q=>∃x T t b,xs=[x,.ty T]/\gS K H x t/\PySem.W.kitOne K t (.type T)=U b/\Q (.bl b) H
theorem ya:dy X (.builtin "isinstance") (OF X.K):=by intro J' s σ H xs us Q I r h;obtain⟨x,T,t,b,rfl,ty,hk,q⟩:=h;obtain⟨u,v,rfl,r1,r2⟩:=r.two;cases r2;exact wm I r1 ty hk λtk=>#[.bl b,H,I.tok tk,rfl,q]
end
end Mx
end
section
namespace Mx
open PySem PySem.Spec PySem.W PyProof.Rows L2 PySem.SeqAt
section
variable{X:Cx}{pos:Pos}
def pO(K:PySem.W.Frag)(n:Nat)(t:xg):TG:=λv σ H Q=>∃a xs,v= .ref a/\(dO K H a xs\/du K H a xs)/\xs.length=n/\t xs σ H Q
theorem u5{es:List Expr}{k:Nat}{t:xg}{n:Nat}(hc:X.calm=B')(h:HL X es t)(hn:(assignEach es X.env).length=n)(kC:(assignEach es X.env).findIdx? (·.1)=y'):PG X (.Tuple es k pos) (pO X.K n t):=by
 intro J' s σ H v u Q I r hw;obtain⟨a,xs,rfl,hq|hq,hl,hw⟩:=hw
 ·exact GA hc h hn kC J' s σ H _ u Q I r #[a,xs,rfl,hq,hl,hw]
 cases r;obtain⟨its,rv,pl,_⟩:=I.list hq;have e:(assignEach es X.env).length=its.toArray.size:=by rw[hn,<-hl,rv.length,Tj]
 rw[arm_assign_Tuple];refine Td (Wr ?_);unfold unpack;rw[kC,e];refine Td (Wh (PySem.W.kun_itemsOf (I.ok.hd hc) pl.isList λh' hx=>?_));exact h J' _ σ H xs _ Q (I.kept (t':=s.toks) λb o z=>hx b o (T7 (Tx z)) z) rv hw
end
end Mx
end
section
namespace Mx
open PySem PySem.W PySem.Spec PyProof.Rows L2
structure xI(z TI TO i1 i2:Addr):Prop where
 TIz:TI≠z
 TOz:TO≠z
 i1z:i1≠z
 i2z:i2≠z
 TITO:TI≠TO
 TIi1:TI≠i1
 TIi2:TI≠i2
 TOi1:TO≠i1
 TOi2:TO≠i2
 i12:i1≠i2
theorem cP{H:Hp}{p:Addr}(h:H p=y')(o:HO):bI H (upd H p o):=λb u q=>by rw[aG (aY q h)];exact q
theorem qz{H:Hp}{D:Addr}{xs ys:List V}(hD:H D=U (.lst xs)):Em H (upd H D (.lst ys)):=λb zs q=>by
 by_cases e:b=D
 ·subst e;rw[hD]at q;cases q
 ·rw[aG e];exact q
def bQ:Bool->Heap->Addr->Addr->Nat->Prop
 |false,h,i,l,k=>h.IsListIter i l k
 |true,h,i,l,k=>h.IsTupleIter i l k
def fv:Bool->Heap->Addr->Array Value->Prop
 |false,h,l,xs=>h.IsList l xs
 |true,h,l,xs=>h.IsTuple l xs
theorem bQ.at:∀{b:Bool}{h h':Heap}{i l:Addr}{k:Nat},bQ b h i l k->(∀o,h.get? i=U o->h'.get? i=U o)->bQ b h' i l k
 |false,_,_,_,_,_,x,e=>Heap.IsListIter.at x e
 |true,_,_,_,_,_,x,e=>Heap.IsTupleIter.at x e
theorem fv.at:∀{b:Bool}{h h':Heap}{l:Addr}{xs:Array Value},fv b h l xs->(∀o,h.get? l=U o->h'.get? l=U o)->fv b h' l xs
 |false,_,_,_,_,x,e=>let #[o,ho,r]:=x;#[o,e o ho,r]
 |true,_,_,_,_,x,e=>let #[o,ho,r]:=x;#[o,e o ho,r]
theorem bQ.obj:∀{b:Bool}{h:Heap}{i l:Addr}{k:Nat},bQ b h i l k->∃o,h.get? i=U o/\∀v,o.data≠ .cell v
 |false,_,_,_,_,x=>by obtain⟨o,e,c,d⟩:=x;exact#[o,e,λv q=>by rw[d]at q;cases q]
 |true,_,_,_,_,x=>by obtain⟨o,e,c,d⟩:=x;exact#[o,e,λv q=>by rw[d]at q;cases q]
section
variable{prog:Program}{w:World}{A:Around}{E:Value->Shared->Prop}{s:Shared}
theorem sX{it t:Addr}{i:Nat}{items:Array Value}{x:Value}{Q:Value->Shared->Prop}(hit:s.heap.IsTupleIter it t i)(ht:s.heap.IsTuple t items)(hx:items[i]?=U x)
  (hQ:∀h',h'.IsTupleIter it t (i+1)->Heap.SameBut it s.heap h'->Q x {s with heap:=h'}):wpAny (model prog w) A (Builtin.SmallTypes.nextOf (.ref it)) Q E s:=by
 obtain⟨o,ho,hc,hd⟩:=id hit;obtain⟨ol,N4,_,nl,Mb⟩:=ht;unfold Builtin.SmallTypes.nextOf;refine Td (We (name:=Str.ofString "__next__") hit.typeIs UH (Wf UH hit.typeIs UG (show wpAny _ _ (field (.ref it) 0 >>=_) _ _ s from Td (Wg ho hd (x:=.ref t) rfl ?_)) (UF _)));show wpAny _ _ (if (Value.ref t==Value.none)=B' then _ else _) _ _ s;rw[V1 (show¬((Value.ref t==Value.none)=B') from UB)];refine(show wpAny _ _ (field (.ref it) 1 >>=_) _ _ s from Td (Wg ho hd (x:=.int i 0) rfl (show wpAny _ _ (seqItems? (.ref t) >>=_) _ _ s from Td (Wq N4 Mb ?_))));simp only[UL,hx];refine Td (wpAny_setField ho hd (by simp) (Th #[x,rfl,Th (hQ _ #[_,Heap.get?_update_self _ ho (Obj.isFreed_of_fields (Obj.data_mapFields hd _)),(Obj.cls_mapFields ..).trans hc,?_] (Heap.SameBut.update ..))]));rw[Obj.data_mapFields hd];simp[rawInt]
theorem wX{it t:Addr}{i:Nat}{items:Array Value}{Q:Value->Shared->Prop}(hh:A.handled=y')(hit:s.heap.IsTupleIter it t i)(ht:s.heap.IsTuple t items)(hx:items[i]?=y')
  (hE:∀h' e,Heap.ExtBut it s.heap h'->(∃o,h'.get? e=U o/\o.cls= .type "StopIteration")->E (.ref e) {s with heap:=h'}):wpAny (model prog w) A (Builtin.SmallTypes.nextOf (.ref it)) Q E s:=by
 obtain⟨o,ho,hc,hd⟩:=id hit;obtain⟨ol,N4,_,nl,Mb⟩:=ht;unfold Builtin.SmallTypes.nextOf;refine Td (We (name:=Str.ofString "__next__") hit.typeIs UH (Wf UH hit.typeIs UG (show wpAny _ _ (field (.ref it) 0 >>=_) _ _ s from Td (Wg ho hd (x:=.ref t) rfl ?_)) (UF _)));show wpAny _ _ (if (Value.ref t==Value.none)=B' then _ else _) _ _ s;rw[V1 (show¬((Value.ref t==Value.none)=B') from UB)];refine(show wpAny _ _ (field (.ref it) 1 >>=_) _ _ s from Td (Wg ho hd (x:=.int i 0) rfl (show wpAny _ _ (seqItems? (.ref t) >>=_) _ _ s from Td (Wq N4 Mb ?_))));simp only[UL,hx];refine Td (Wp (Td (wpAny_setField ho hd (by simp) (show wpAny _ _ (newExc (.type "StopIteration") [] >>=_) _ _ _ from Td ?_))));simp only[newExc,newTuple];refine Td (Wj (Td (m:=firstArgMember _ _) (wpAny_of_eq (a:=Value.none) (by first|rfl|(simp only[firstArgMember];rfl)) (Wj ?_ (by size_fits)))) (by size_fits));simp only[raiseNew];refine Td (wpAny_handled ?_)
 first|rw[show A.in1.handled=y' from hh]|rw[hh]
 exact Td (Th (wpAny_throw (hE _ _ (((Heap.SameBut.update ..).extBut.push _).push _) #[_,Tu _ rfl,rfl])))
theorem gD{b:Bool}{it l:Addr}{i:Nat}{items:Array Value}{x:Value}{Q:Value->Shared->Prop}(hit:bQ b s.heap it l i)(hl:fv b s.heap l items)(hx:items[i]?=U x)
  (hQ:∀h',bQ b h' it l (i+1)->Heap.SameBut it s.heap h'->Q x {s with heap:=h'}):wpAny (model prog w) A (Builtin.SmallTypes.nextOf (.ref it)) Q E s:=by
 cases b with
 |false=>exact wpAny_nextOf_list_item hit hl hx hQ
 |true=>exact sX hit hl hx hQ
theorem mq{b:Bool}{it l:Addr}{i:Nat}{items:Array Value}{Q:Value->Shared->Prop}(hh:A.handled=y')(hit:bQ b s.heap it l i)(hl:fv b s.heap l items)(hx:items[i]?=y')
  (hE:∀h' e,Heap.ExtBut it s.heap h'->(∃o,h'.get? e=U o/\o.cls= .type "StopIteration")->E (.ref e) {s with heap:=h'}):wpAny (model prog w) A (Builtin.SmallTypes.nextOf (.ref it)) Q E s:=by
 cases b with
 |false=>exact wpAny_nextOf_list_end hh hit hl hx hE
 |true=>exact wX hh hit hl hx hE
end
structure iS(z TO i1 i2 l:Addr):Prop where
 z:l≠z
 o:l≠TO
 a:l≠i1
 b:l≠i2
section
variable{prog:Program}{w:World}{A:Around}{E:Value->Shared->Prop}{s:Shared}
theorem xc{b1 b2:Bool}{z TI TO i1 i2 l1 l2:Addr}{k1 k2:Nat}{xs ys:Array Value}{x y a b:Value}{Q:Option Value->Shared->Prop}(D:xI z TI TO i1 i2)(O1:iS z TO i1 i2 l1)(O2:iS z TO i1 i2 l2)
  (hz:IsZip s.heap z TI TO .none) (NO:IsPair s.heap TI (.ref i1) (.ref i2)) (NQ:IsPair s.heap TO a b) (h1:bQ b1 s.heap i1 l1 k1) (h2:bQ b2 s.heap i2 l2 k2) (dq:fv b1 s.heap l1 xs) (b7:fv b2 s.heap l2 ys) (hx:xs[k1]?=U x) (hy:ys[k2]?=U y)
  (hQ:∀h',IsZip h' z TI TO (rawInt s.heap.objs.size)->IsPair h' TO x y->bQ b1 h' i1 l1 (k1+1)->bQ b2 h' i2 l2 (k2+1)->IsPair h' s.heap.objs.size x y->
   (∀c o,c≠z->c≠TO->c≠i1->c≠i2->s.heap.get? c=U o->h'.get? c=U o)->Q (U (.ref s.heap.objs.size)) {s with heap:=h'}):wpAny (model prog w) A (pyNext (.ref z)) Q E s:=by
 have hT:s.TypeIs (.ref z) "zip":=#[_,hz,rfl];unfold pyNext;refine Td (wpAny_attempt (We (name:=Str.ofString "__next__") hT UI (Wf UI hT F.entry_zip_next ?_ (F.args_zip_next_1 _))));refine(show wpAny _ _ (field (.ref z) 2 >>=_) _ _ _ from Td (Wg hz rfl (x:=.bool G') rfl (show wpAny _ _ (field (.ref z) 3 >>=_) _ _ _ from Td (Wg hz rfl (x:=.ref TI) rfl (Td (Wq NO rfl (show wpAny _ _ (Builtin.SmallTypes.ownedTupleIsFree (.ref z) >>=_) _ _ _ from Td ?_)))))));unfold Builtin.SmallTypes.ownedTupleIsFree;refine Td (Wg hz rfl (x:=.none) rfl (Th ?_));simp only[V3];refine Td (Wp (Td (Wg hz rfl (x:=.ref TO) rfl (Td (T9 hz (by simp) λg1 z1 e1=>Td ?_)))))
 replace z1:IsZip g1 z TI TO .ellipsis:=z1
 simp only[Vy,List.zipIdx_nil,UZ,List.forIn_nil];refine Td (Td (Wl (show wpAny _ _ (Builtin.SmallTypes.nextOf (.ref i1) >>=_) _ _ _ from Td (gD (h1.at λo q=>e1.extBut _ o D.i1z q) (dq.at λo q=>e1.extBut _ o O1.z q) hx λg2 j1 e2=>Th ?_))));have t2:IsPair g2 TO a b:=e2.extBut _ _ D.TOi1 (e1.extBut _ _ D.TOz NQ);refine Td (Wq t2 rfl (Td (Wu t2 λg3 t3 e3=>Td (wpAny_letGo (Th ?_)))))
 replace t3:IsPair g3 TO x b:=t3
 refine Td (Td (Wl (show wpAny _ _ (Builtin.SmallTypes.nextOf (.ref i2) >>=_) _ _ _ from Td (gD (h2.at λo q=>e3.extBut _ o D.TOi2.symm (e2.extBut _ o D.i12.symm (e1.extBut _ o D.i2z q))) (b7.at λo q=>e3.extBut _ o O2.o (e2.extBut _ o O2.a (e1.extBut _ o O2.z q))) hy λg4 j2 e4=>Th ?_))));have t4:IsPair g4 TO x b:=e4.extBut _ _ D.TOi2 t3;refine Td (Wq t4 rfl (Td (Wu t4 λg5 t5 e5=>Td (wpAny_letGo (Th (Th ?_))))))
 replace t5:IsPair g5 TO x y:=t5
 refine Td (Wq t5 rfl (Td (wpAny_newTuple ?_)));have sz:g5.objs.size=s.heap.objs.size:=by rw[e5.1,e4.1,e3.1,e2.1,e1.1]
 have z5:IsZip g5 z TI TO .ellipsis:=e5.extBut _ _ D.TOz.symm (e4.extBut _ _ D.i2z.symm (e3.extBut _ _ D.TOz.symm (e2.extBut _ _ D.i1z.symm z1)));have old:∀c o,c≠z->c≠TO->c≠i1->c≠i2->s.heap.get? c=U o->g5.get? c=U o:=λc o c1 c2 c3 c4 q=>e5.extBut _ _ c2 (e4.extBut _ _ c4 (e3.extBut _ _ c2 (e2.extBut _ _ c3 (e1.extBut _ _ c1 q))))
 have n1:bQ b1 g5 i1 l1 (k1+1):=j1.at λo q=>e5.extBut _ o D.TOi1.symm (e4.extBut _ o D.i12 (e3.extBut _ o D.TOi1.symm q))
 have n2:bQ b2 g5 i2 l2 (k2+1):=j2.at λo q=>e5.extBut _ o D.TOi2.symm q
 have QM:z<g5.objs.size:=Tx z5;refine(show wpAny _ _ (Builtin.SmallTypes.ownedTupleHandOut (.ref z) (.ref g5.objs.size) >>=_) _ _ _ from Td ?_);unfold Builtin.SmallTypes.ownedTupleHandOut;have z6:IsZip (g5.push {cls:=.type "tuple",data:=.seq [x,y].toArray}) z TI TO .ellipsis:=Tf _ z5;refine Td (T9 z6 (by simp) λg7 z7 e7=>?_)
 replace z7:IsZip g7 z TI TO (rawInt g5.objs.size):=z7
 refine T9 z7 (by simp) λg8 z8 e8=>?_
 replace z8:IsZip g8 z TI TO (rawInt g5.objs.size):=z8
 have up:∀c o,c≠z->g5.get? c=U o->g8.get? c=U o:=λc o c1 q=>e8.extBut _ _ c1 (e7.extBut _ _ c1 (Tf _ q))
 have t8:IsPair g8 g5.objs.size x y:=e8.extBut _ _ (VI QM) (e7.extBut _ _ (VI QM) (Tu _ rfl));rw[sz]at z8 t8;refine Th #[_,rfl,Th ?_];show Q (U (.ref g5.objs.size)) _;rw[sz];exact hQ g8 z8 (up _ _ D.TOz t5) (n1.at λo q=>up _ o D.i1z q) (n2.at λo q=>up _ o D.i2z q) t8 λc o c1 c2 c3 c4 q=>up c o c1 (old c o c1 c2 c3 c4 q)
theorem AU{b1 b2:Bool}{z TI TO i1 i2 l1 l2:Addr}{k1 k2:Nat}{xs ys:Array Value}{a b:Value}{Q:Option Value->Shared->Prop}(hh:A.handled=y')(D:xI z TI TO i1 i2)(O1:iS z TO i1 i2 l1)(O2:iS z TO i1 i2 l2)
  (hz:IsZip s.heap z TI TO .none) (NO:IsPair s.heap TI (.ref i1) (.ref i2)) (NQ:IsPair s.heap TO a b) (h1:bQ b1 s.heap i1 l1 k1) (h2:bQ b2 s.heap i2 l2 k2) (dq:fv b1 s.heap l1 xs) (b7:fv b2 s.heap l2 ys) (JA:xs[k1]?=y'\/ys[k2]?=y')
  (hQ:∀h',(∀c o,c≠z->c≠TO->c≠i1->c≠i2->s.heap.get? c=U o->h'.get? c=U o)->Q y' {s with heap:=h'}):wpAny (model prog w) A (pyNext (.ref z)) Q E s:=by
 have hT:s.TypeIs (.ref z) "zip":=#[_,hz,rfl];unfold pyNext;refine Td (wpAny_attempt (We (name:=Str.ofString "__next__") hT UI (Wf UI hT F.entry_zip_next ?_ (F.args_zip_next_1 _))));have stop:∀(h':Heap)(e:Addr),(∀c o,c≠z->c≠TO->c≠i1->c≠i2->s.heap.get? c=U o->h'.get? c=U o)->(∃o,h'.get? e=U o/\o.cls= .type "StopIteration")->wpAny (model prog w) A (isInstance (.ref e) (.type "StopIteration")) (λr s'=>r=B'/\Q y' s') E {s with heap:=h'}:=λh' e kk he=>by obtain⟨o,ho,hc⟩:=he;exact wpAny_isInstance (T:="StopIteration") (b:=B') #[o,ho,hc] isSubtype_stop #[rfl,hQ _ kk]
 refine(show wpAny _ _ (field (.ref z) 2 >>=_) _ _ _ from Td (Wg hz rfl (x:=.bool G') rfl (show wpAny _ _ (field (.ref z) 3 >>=_) _ _ _ from Td (Wg hz rfl (x:=.ref TI) rfl (Td (Wq NO rfl (show wpAny _ _ (Builtin.SmallTypes.ownedTupleIsFree (.ref z) >>=_) _ _ _ from Td ?_)))))));unfold Builtin.SmallTypes.ownedTupleIsFree;refine Td (Wg hz rfl (x:=.none) rfl (Th ?_));simp only[V3];refine Td (Wp (Td (Wg hz rfl (x:=.ref TO) rfl (Td (T9 hz (by simp) λg1 z1 e1=>Td ?_)))))
 replace z1:IsZip g1 z TI TO .ellipsis:=z1
 simp only[Vy,List.zipIdx_nil,UZ,List.forIn_nil];refine Td (Td (Wl ?_));show wpAny _ _ (Builtin.SmallTypes.nextOf (.ref i1) >>=_) _ _ _;cases hx:xs[k1]? with
 |none=>
  refine Td (mq hh (h1.at λo q=>e1.extBut _ o D.i1z q) (dq.at λo q=>e1.extBut _ o O1.z q) hx λg2 e e2 he=>?_);obtain⟨oe,Fb,Jw⟩:=he;have z2:IsZip g2 z TI TO .ellipsis:=e2 _ _ D.i1z.symm z1;have NW:e≠z:=λx=>by subst x;rw[z2]at Fb;cases Fb;simp at Jw
  refine T9 z2 (by simp) λg3 _ e3=>?_
  refine Td (Wi (stop g3 e (λc o c1 _ c3 _ x=>e3.extBut _ _ c1 (e2 _ _ c3 (e1.extBut _ _ c1 x))) #[oe,e3.extBut _ _ NW Fb,Jw]) (λr s' q=>?_) λ_ _ q=>q);obtain⟨rfl,q⟩:=q;exact Th q
 |some x=>
  have hy:ys[k2]?=y':=by rcases JA with h|h;rw[hx]at h;cases h;exact h
  refine Td (gD (h1.at λo q=>e1.extBut _ o D.i1z q) (dq.at λo q=>e1.extBut _ o O1.z q) hx λg2 j1 e2=>Th ?_);have t2:IsPair g2 TO a b:=e2.extBut _ _ D.TOi1 (e1.extBut _ _ D.TOz NQ);refine Td (Wq t2 rfl (Td (Wu t2 λg3 t3 e3=>Td (wpAny_letGo (Th ?_)))));refine Td (Td (Wl (show wpAny _ _ (Builtin.SmallTypes.nextOf (.ref i2) >>=_) _ _ _ from Td (mq hh (h2.at λo q=>e3.extBut _ o D.TOi2.symm (e2.extBut _ o D.i12.symm (e1.extBut _ o D.i2z q))) (b7.at λo q=>e3.extBut _ o O2.o (e2.extBut _ o O2.a (e1.extBut _ o O2.z q))) hy λg4 e e4 he=>?_))));obtain⟨oe,Fb,Jw⟩:=he;have z4:IsZip g4 z TI TO .ellipsis:=e4 _ _ D.i2z.symm (e3.extBut _ _ D.TOz.symm (e2.extBut _ _ D.i1z.symm z1));have NW:e≠z:=λx=>by subst x;rw[z4]at Fb;cases Fb;simp at Jw
  refine T9 z4 (by simp) λg5 _ e5=>?_
  refine Td (Wi (stop g5 e (λc o c1 c2 c3 c4 x=>e5.extBut _ _ c1 (e4 _ _ c4 (e3.extBut _ _ c2 (e2.extBut _ _ c3 (e1.extBut _ _ c1 x))))) #[oe,e5.extBut _ _ NW Fb,Jw]) (λr s' q=>?_) λ_ _ q=>q);obtain⟨rfl,q⟩:=q;exact Th q
end
def pY:Bool->Addr->Obj
 |false,l=>{cls:=.type "list_iterator",data:=.fields [.ref l,.int 0 0].toArray}
 |true,l=>{cls:=.type "tuple_iterator",data:=.fields [.ref l,.int 0 0].toArray}
theorem pZ:∀{b:Bool}{h:Heap}{i l:Addr},h.get? i=U (pY b l)->bQ b h i l 0
 |false,_,_,_,e=>#[_,e,rfl,rfl]
 |true,_,_,_,e=>#[_,e,rfl,rfl]
theorem mn(b:Bool)(l:Addr):(pY b l).isFreed=G':=by cases b<;>rfl
abbrev Mw(h:Heap)(b1:Bool)(l1:Addr):Heap:=h.push (pY b1 l1)
abbrev My(h:Heap)(b1 b2:Bool)(l1 l2:Addr):Heap:=(Mw h b1 l1).push (pY b2 l2)
abbrev Mz(h:Heap)(b1 b2:Bool)(l1 l2:Addr):Heap:=(My h b1 b2 l1 l2).push {cls:=.type "tuple",data:=.seq [.ref h.objs.size,.ref (Mw h b1 l1).objs.size].toArray}
abbrev MA(h:Heap)(b1 b2:Bool)(l1 l2:Addr):Heap:=(Mz h b1 b2 l1 l2).push {cls:=.type "tuple",data:=.seq [.none,.none].toArray}
abbrev Io(h:Heap)(b1 b2:Bool)(l1 l2:Addr):Heap:=(MA h b1 b2 l1 l2).push {cls:=.type "zip",data:=.fields [.none,.bool G',.bool G',.ref (My h b1 b2 l1 l2).objs.size,.ref (Mz h b1 b2 l1 l2).objs.size].toArray}
theorem fv.push{b:Bool}{h:Heap}{l:Addr}{xs:Array Value}(x:fv b h l xs)(o:Obj):fv b (h.push o) l xs:=x.at λ_ e=>Tf _ e
theorem AV(b1 b2:Bool)(l1 l2:Addr)(xs ys:Array Value):
  Meets (Builtin.«zip.__new__» #[[.type "zip",.ref l1,.ref l2],[]]) (λ_ R s=>fv b1 s.heap l1 xs/\fv b2 s.heap l2 ys/\R (.ok (.ret (.ref (MA s.heap b1 b2 l1 l2).objs.size))) {s with heap:=Io s.heap b1 b2 l1 l2}):=
 .of_wp λprog w A R s h=>by
  obtain⟨hp,g,d,tk,os⟩:=s;obtain⟨dq,b7,h⟩:=h;have R9:=sub_zip;have L8:=b7.push (pY b1 l1);cases b1<;>cases b2
  ·have k1:Heap.IsList (Shared.heap #[hp,g,d,tk,os]) l1 xs:=dq;have k2:Heap.IsList (Shared.heap #[hp.push {cls:=.type "list_iterator",data:=.fields [.ref l1,.int 0 0].toArray},g,d,tk,os]) l2 ys:=L8
   wp_walk using Wn k1,Wn k2
   exact#[_,rfl,h]
  ·have k1:Heap.IsList (Shared.heap #[hp,g,d,tk,os]) l1 xs:=dq;have k2:Heap.IsTuple (Shared.heap #[hp.push {cls:=.type "list_iterator",data:=.fields [.ref l1,.int 0 0].toArray},g,d,tk,os]) l2 ys:=L8
   wp_walk using Wn k1,Wo k2
   exact#[_,rfl,h]
  ·have k1:Heap.IsTuple (Shared.heap #[hp,g,d,tk,os]) l1 xs:=dq;have k2:Heap.IsList (Shared.heap #[hp.push {cls:=.type "tuple_iterator",data:=.fields [.ref l1,.int 0 0].toArray},g,d,tk,os]) l2 ys:=L8
   wp_walk using Wo k1,Wn k2
   exact#[_,rfl,h]
  ·have k1:Heap.IsTuple (Shared.heap #[hp,g,d,tk,os]) l1 xs:=dq;have k2:Heap.IsTuple (Shared.heap #[hp.push {cls:=.type "tuple_iterator",data:=.fields [.ref l1,.int 0 0].toArray},g,d,tk,os]) l2 ys:=L8
   wp_walk using Wo k1,Wo k2
   exact#[_,rfl,h]
section
variable{prog:Program}{w:World}{A:Around}{E:Value->Shared->Prop}{s:Shared}
theorem vN{b1 b2:Bool}{l1 l2:Addr}{xs ys:Array Value}{Q:Value->Shared->Prop}(dq:fv b1 s.heap l1 xs)(b7:fv b2 s.heap l2 ys)
  (h:∀h',IsZip h' (s.heap.objs.size+4) (s.heap.objs.size+2) (s.heap.objs.size+3) .none->IsPair h' (s.heap.objs.size+2) (.ref s.heap.objs.size) (.ref (s.heap.objs.size+1))->IsPair h' (s.heap.objs.size+3) .none .none->
   bQ b1 h' s.heap.objs.size l1 0->bQ b2 h' (s.heap.objs.size+1) l2 0->(∀c o,s.heap.get? c=U o->h'.get? c=U o)->Q (.ref (s.heap.objs.size+4)) {s with heap:=h'}):wpAny (model prog w) A (call (.type "zip") [.ref l1,.ref l2]) Q E s:=by
 refine callType_new F.called_zip (by decide) (F.typeCall_zip_2 _ _) (F.newCall_zip_2 _ _) (λobj=>F.args_object_init_3 obj _ _) F.entry_zip_new (AV b1 b2 l1 l2 xs ys) #[dq,b7,?_];have y1:(Mw s.heap b1 l1).objs.size=s.heap.objs.size+1:=T6 ..;have y2:(My s.heap b1 b2 l1 l2).objs.size=s.heap.objs.size+2:=by rw[T6,y1]
 have y3:(Mz s.heap b1 b2 l1 l2).objs.size=s.heap.objs.size+3:=by rw[T6,y2]
 have y4:(MA s.heap b1 b2 l1 l2).objs.size=s.heap.objs.size+4:=by rw[T6,y3]
 have g5:(Io s.heap b1 b2 l1 l2).get? (MA s.heap b1 b2 l1 l2).objs.size=U _:=Tu _ rfl;have g4:(Io s.heap b1 b2 l1 l2).get? (Mz s.heap b1 b2 l1 l2).objs.size=U _:=Tf _ (Tu _ rfl);have g3:(Io s.heap b1 b2 l1 l2).get? (My s.heap b1 b2 l1 l2).objs.size=U _:=Tf _ (Tf _ (Tu _ rfl));have g2:(Io s.heap b1 b2 l1 l2).get? (Mw s.heap b1 l1).objs.size=U _:=Tf _ (Tf _ (Tf _ (Tu _ (mn b2 l2))));have g1:(Io s.heap b1 b2 l1 l2).get? s.heap.objs.size=U _:=Tf _ (Tf _ (Tf _ (Tf _ (Tu _ (mn b1 l1)))));show _/\_;rw[y2,y3,y4]at g5;rw[y1,y2]at g3;rw[y3]at g4;rw[y1]at g2;rw[y4];exact#[#[_,g5,rfl],h _ g5 g3 g4 (pZ g1) (pZ g2) λc o x=>Tf _ (Tf _ (Tf _ (Tf _ (Tf _ x))))]
end
def qJ:Bool->List V->HO
 |false,xs=>.lst xs
 |true,xs=>.tup xs
theorem uo{b:Bool}{xs ys:List V}(h:qJ b xs=qJ b ys):xs=ys:=by
 cases b with
 |false=>injection h
 |true=>injection h
def MF(b1 b2:Bool)(l1 l2:Addr):It where
 go:=λi H=>∃xs ys x y,H l1=U (qJ b1 xs)/\H l2=U (qJ b2 ys)/\xs[i]?=U x/\ys[i]?=U y
 yld:=λi H v H'=>∃p x y,v= .ref p/\H p=y'/\H'=upd H p (.tup [x,y])/\∀xs ys,H l1=U (qJ b1 xs)->H l2=U (qJ b2 ys)->xs[i]?=U x/\ys[i]?=U y
 stop:=λi H=>∃xs ys,H l1=U (qJ b1 xs)/\H l2=U (qJ b2 ys)/\(xs.length<=i\/ys.length<=i)
theorem fX{X:Cx}{J':List (Addr×Obj)}{s:Shared}{σ:L2.St}{H:Hp}(I:Inv X J' σ H s){b:Bool}{l:Addr}{xs:List V}(h:H l=U (qJ b xs)):∃its:List Value,ay xs its/\fv b s.heap l its.toArray:=by
 cases b with
 |false=>obtain⟨its,r,p,_⟩:=I.list (.inl (.inl h));exact#[its,r,p.isList]
 |true=>obtain⟨its,r,p,_⟩:=I.tuple (.inl (.inl h));exact#[its,r,p]
def SD(b1 b2:Bool)(z TI TO i1 i2 l1 l2:Addr)(i:Nat)(h:Heap):Prop:=IsZip h z TI TO .none/\IsPair h TI (.ref i1) (.ref i2)/\(∃a b,IsPair h TO a b)/\bQ b1 h i1 l1 i/\bQ b2 h i2 l2 i
theorem xa{P:Program}{w:World}{K:PySem.W.Frag}{es:List Expr}{k:Nat}{tp:Pos}{b1 b2:Bool}{z TI TO i1 i2 l1 l2:Addr}(ap:xI z TI TO i1 i2):
  Turn P w K (.Tuple es k tp) (MF b1 b2 l1 l2) [z,TI,TO,i1,i2] z (SD b1 b2 z TI TO i1 i2 l1 l2) where
 mem:=by simp
 obj:=λi h st b hb=>by
  obtain⟨s1,s2,⟨a,b',s3⟩,s4,s5⟩:=st;simp only[TC,TF,Wa]at hb;rcases hb with rfl|rfl|rfl|rfl|rfl
  ·exact#[_,s1,λv q=>by cases q]
  ·exact#[_,s2,λv q=>by cases q]
  ·exact#[_,s3,λv q=>by cases q]
  ·exact s4.obj
  ·exact s5.obj
 keep:=λi h h' st kk=>by obtain⟨s1,s2,⟨a,b',s3⟩,s4,s5⟩:=st;exact#[kk z (by simp) _ s1,kk TI (by simp) _ s2,#[a,b',kk TO (by simp) _ s3],s4.at λo e=>kk i1 (by simp) o e,s5.at λo e=>kk i2 (by simp) o e]
 item:=by
  intro X hP hw hK hc i J' s σ H E I hf st hg;subst hP hw hK;obtain⟨xs,ys,x,y,dq,b7,hx,hy⟩:=hg;obtain⟨s1,s2,⟨a,b',s3⟩,s4,s5⟩:=st;obtain⟨iX,r1,p1⟩:=fX I dq;obtain⟨b9,r2,p2⟩:=fX I b7;obtain⟨u1,JH,Sq⟩:=r1.get hx;obtain⟨u2,Sa,Sr⟩:=r2.get hy;have ne:∀{l:Addr}{o:HO},H l=U o->∀b∈[z,TI,TO,i1,i2],l≠b:=λ {l o} hl b hb e=>by subst e;rw[(hf l hb).1]at hl;cases hl
  have off:∀{l:Addr}{o:HO},H l=U o->iS z TO i1 i2 l:=λ {l o} hl=>#[ne hl z (by simp),ne hl TO (by simp),ne hl i1 (by simp),ne hl i2 (by simp)]
  refine xc ap (off dq) (off b7) s1 s2 s3 s4 s5 p1 p2 (by simpa using JH) (by simpa using Sa) λh' a1 a2 a3 a4 a5 a7=>#[_,rfl,?_]
  refine wpAny_letOwnedTupleGo_zip (s:={s with heap:=h'}) a1 λh2 c1 c2=>?_
  have Rq:s.heap.objs.size≠z:=λe=>by have:=Tx s1;rw[<-e]at this;exact VE _ this
  have NP:IsPair h2 TI (.ref i1) (.ref i2):=(c2.2 TI ap.TIz).trans (a7 TI _ ap.TIz ap.TITO ap.TIi1 ap.TIi2 s2);have NN:h2.get? s.heap.objs.size=U {cls:=.type "tuple",data:=.seq [u1,u2].toArray}:=(c2.2 _ Rq).trans a5;have kk:∀b o,b∉[z,TI,TO,i1,i2]->s.heap.get? b=U o->h2.get? b=U o:=λb o hb e=>by simp only[TC,TF,Wa,not_or]at hb;exact(c2.2 b hb.1).trans (a7 b o hb.1 hb.2.2.1 hb.2.2.2.1 hb.2.2.2.2 e)
  have lt:∀{b:Addr}{o:Obj},s.heap.get? b=U o->b≠s.heap.objs.size:=λe=>T7 (Tx e)
  have Kb:∀b u,H b=U u->b∉[z,TI,TO,i1,i2]:=λb u e hb=>by rw[(hf b hb).1]at e;cases e
  have HY:H s.heap.objs.size=y':=I.fresh;have I2:Inv X J' σ (upd H s.heap.objs.size (.tup [x,y])) {s with heap:=h2,toks:=s.toks}:=by
   refine I.step (g':=s.gens) (d':=s.drawn) (ch:=[z,TI,TO,i1,i2]) (λb hb=>#[(hf b hb).2.2.2.1,(hf b hb).2.1,(hf b hb).2.2.2.2.1,(hf b hb).2.2.2.2.2]) (λb o _ _ hb e _=>kk b o hb e) (λb o _ _ hb e _=>#[o.slots,kk b o hb e])
    (λb o hb e n=>by rw[aG (lt e)];exact n) (λb o hb e=>#[o,kk b o hb e]) (λb zs e=>by rw[aG (aY e HY)];exact e) (λb o u e=>by rw[aG (aY e HY)];exact e)
    (λb ps e=>#[#[],by rw[aG (aY e HY),e];simp]) (λm hm=>?_) (λb u e=>?_) I.bare
   ·obtain⟨o,gi,ep,ho,rr⟩:=hm;exact#[o,gi,ep,kk _ o (λhb=>(hf _ hb).2.1 rfl) ho,rr]
   ·by_cases hb:b=s.heap.objs.size
    ·subst hb;rw[aJ]at e;cases e;exact#[by show 2<=sizeLine;decide,[u1,u2],.cons Sq (.cons Sr .nil),_,NN,rfl,0,rfl,rfl,rfl]
    ·rw[aG hb]at e;refine(I.hok b u e).oQ (λc v hc q=>kk c v ?_ q) (λc q=>by rw[aG (aY q HY)];exact q) λc zs q=>by rw[aG (aY q HY)];exact q
     rcases hc with rfl|hc
     ·exact Kb c u e
     ·exact Kb c _ hc
  refine#[.ref s.heap.objs.size,_,I2,rfl,#[s.heap.objs.size,x,y,rfl,HY,rfl,λBg Mv q1 q2=>?_],#[c1,NP,#[u1,u2,(c2.2 TO ap.TOz).trans a2],a3.at λo e=>(c2.2 i1 ap.i1z).trans e,a4.at λo e=>(c2.2 i2 ap.i2z).trans e],λb hb=>?_]
  ·rw[dq]at q1;rw[b7]at q2;rw[uo (VN q1).symm,uo (VN q2).symm];exact#[hx,hy]
  ·rw[aG (λe=>?_)]
   ·exact(hf b hb).1
   ·have q:∃o,s.heap.get? b=U o:=by
     simp only[TC,TF,Wa]at hb;rcases hb with rfl|rfl|rfl|rfl|rfl
     ·exact#[_,s1]
     ·exact#[_,s2]
     ·exact#[_,s3]
     ·obtain⟨o,e,_⟩:=s4.obj;exact#[o,e]
     ·obtain⟨o,e,_⟩:=s5.obj;exact#[o,e]
    obtain⟨o,q⟩:=q;exact lt q e
 done:=by
  intro X hP hw hK hc i J' s σ H E I hf st hg;subst hP hw hK;obtain⟨xs,ys,dq,b7,JA⟩:=hg;obtain⟨s1,s2,⟨a,b',s3⟩,s4,s5⟩:=st;obtain⟨iX,r1,p1⟩:=fX I dq;obtain⟨b9,r2,p2⟩:=fX I b7;have ne:∀{l:Addr}{o:HO},H l=U o->∀b∈[z,TI,TO,i1,i2],l≠b:=λ {l o} hl b hb e=>by subst e;rw[(hf l hb).1]at hl;cases hl
  have off:∀{l:Addr}{o:HO},H l=U o->iS z TO i1 i2 l:=λ {l o} hl=>#[ne hl z (by simp),ne hl TO (by simp),ne hl i1 (by simp),ne hl i2 (by simp)]
  have e1:=r1.length;have e2:=r2.length;refine AU (I.ok.hd hc) ap (off dq) (off b7) s1 s2 s3 s4 s5 p1 p2 (by simp;lia) λh' kk=>#[rfl,?_]
  have Kb:∀b u,H b=U u->b∉[z,TI,TO,i1,i2]:=λb u e hb=>by rw[(hf b hb).1]at e;cases e
  have JW:∀b o,b∉[z,TI,TO,i1,i2]->s.heap.get? b=U o->h'.get? b=U o:=λb o hb e=>by simp only[TC,TF,Wa,not_or]at hb;exact kk b o hb.1 hb.2.2.1 hb.2.2.2.1 hb.2.2.2.2 e
  refine I.step (g':=s.gens) (d':=s.drawn) (t':=s.toks) (h':=h') (ch:=[z,TI,TO,i1,i2]) (λb hb=>#[(hf b hb).2.2.2.1,(hf b hb).2.1,(hf b hb).2.2.2.2.1,(hf b hb).2.2.2.2.2]) (λb o _ _ hb e _=>JW b o hb e) (λb o _ _ hb e _=>#[o.slots,JW b o hb e])
   (λb o hb e n=>n) (λb o hb e=>#[o,JW b o hb e]) (λb zs e=>e) (λb o u e=>e) (λb ps e=>#[#[],by rw[e];simp]) (λm hm=>?_) (λb u e=>?_) I.bare
  ·obtain⟨o,gi,ep,ho,rr⟩:=hm;exact#[o,gi,ep,JW _ o (λhb=>(hf _ hb).2.1 rfl) ho,rr]
  ·refine(I.hok b u e).oQ (λc v hc q=>JW c v ?_ q) (λc q=>q) λc zs q=>q
   rcases hc with rfl|hc
   ·exact Kb c u e
   ·exact Kb c _ hc
 self:=λ_ _ _ _ _ st h=>wpAny_pyIter_zip st.1 h
def JP(ta:TA):TI:=λσ H R=>ta σ H λvs H1=>∃b1 b2 l1 l2 xs ys,vs=[.ref l1,.ref l2]/\H1 l1=U (qJ b1 xs)/\H1 l2=U (qJ b2 ys)/\R (MF b1 b2 l1 l2) H1
theorem CB{X:Cx}{es:List Expr}{k:Nat}{tp:Pos}{a b:Expr}{ta:TA}{p pos:Pos}(hg:Gl X "zip")(hm:X.mg "zip"=y')(ha:PA X [a,b] ta)(hs:starEach [a,b] X.env=[(G',eval a X.env),(G',eval b X.env)]:=by rfl)(v9:starEach [b] X.env=[(G',eval b X.env)]:=by rfl):
  PI X (.Tuple es k tp) (.Call (.Name "zip" p) [a,b] [] pos) (JP ta):=by
 intro J' s σ H R I h;refine Call_ (iY I hg hm boot_zip (VO (bt (ha pos J' s σ H _ I h) λus s1#[vs,H1,I1,r1,q1]=>?_) (by rw[hs,v9]) (by rw[v9];rfl)));obtain⟨b1,b2,l1,l2,xs,ys,e,e1,e2,q⟩:=q1;subst e;obtain⟨u,v,rfl,ru,rv⟩:=r1.two;cases ru;cases rv;obtain⟨iX,_,p1⟩:=fX I1 e1;obtain⟨b9,_,p2⟩:=fX I1 e2;refine vN p1 p2 λh' g1 g2 g3 g4 g5 kk=>?_
 refine wpAny_pyIter_zip (s:={s1 with heap:=h'}) g1 ?_;have I2:Inv X J' σ H1 {s1 with heap:=h'}:=I1.kept (t':=s1.toks) kk;refine#[s1.heap.objs.size+4,[s1.heap.objs.size+4,s1.heap.objs.size+2,s1.heap.objs.size+3,s1.heap.objs.size,s1.heap.objs.size+1],_,_,H1,rfl,I2,xa (l1:=l1) (l2:=l2) #[?_,?_,?_,?_,?_,?_,?_,?_,?_,?_],#[g1,g2,#[_,_,g3],g4,g5],λb hb=>?_,q]
 iterate 10 (first|(apply T7;lia)|(apply VI;lia))
 have me:s1.heap.objs.size<=b:=by simp only[TC,TF,Wa]at hb;rcases hb with h|h|h|h|h<;>(rw[h];first|exact Nat.le_add_right _ _|exact Tr _)
 exact I1.nS me (I1.hok.fresh me)
end Mx
end
section
namespace Mx
open PySem PySem.Spec PySem.W PyProof.Rows L2 PySem.SeqAt
def LJ(x:Str):It:=#[λi _=>i<x.cps.size,λi H v H'=>H'=H/\∃c,x.cps[i]?=U c/\v= .str ⟨#[c]⟩,λi _=>x.cps.size<=i]
theorem mO{P:Program}{w:World}{K:PySem.W.Frag}{tg:Expr}(it:Addr)(x:Str)(t:Tok)(a:Bool):Turn P w K tg (LJ x) [it] it (λi h=>h.IsStrIter it (if a then "str_ascii_iterator" else "str_iterator") x t i) where
 mem:=Ua.mpr rfl
 obj:=λi h st b hb=>by cases Ua.mp hb;obtain⟨o,h1,h2,h3⟩:=st;exact#[o,h1,λv z=>by rw[h3]at z;cases z]
 keep:=λi h h' st k=>let #[o,ho,r]:=st;#[o,k it Tt _ ho,r]
 item:=by
  intro X hP hw hK hc i J' s σ H E I hf st hg;subst hP hw hK;obtain⟨f0,f1,f2,f3,f4,f5⟩:=hf it Tt;have W:Walks X.prog X.w X.A it [it] [it] x.cps.size (SignAt x) (λi h=>h.IsStrIter it (if a then "str_ascii_iterator" else "str_iterator") x t i):=by
   cases a
   ·exact Walks.strWide (I.ok.hd hc) it x t
   ·exact Walks.strAscii (I.ok.hd hc) it x t
  refine W.item i s _ _ hg st λv h' tk hv ak kk=>?_
  obtain⟨c,u,h1,rfl⟩:=hv;have I1:Inv X J' σ H {s with heap:=h',toks:=tk}:=I.turned (λb o hb e=>kk b o (λz=>hb (Ua.mp z)) e) f0 f1 f3 f4 f5;obtain⟨o,g1,g2,g3⟩:=id ak;exact#[_,rfl,pP (s:={s with heap:=h',toks:=tk}) g1 g2 g3 (by cases a<;>decide) #[.str ⟨#[c]⟩,H,I1,#[u,rfl],#[rfl,c,h1,rfl],ak,λb hb=>(hf b hb).1]]
 done:=by
  intro X hP hw hK hc i J' s σ H E I hf st hg;subst hP hw hK;obtain⟨f0,f1,f2,f3,f4,f5⟩:=hf it Tt;have hi:x.cps[i]?=y':=Array.getElem?_eq_none hg;cases a
  ·exact wpAny_pyNext_wide_end (I.ok.hd hc) st hi λh' eb=>#[rfl,I.turned (t':=s.toks) (λb o hb e=>eb b o hb e) f0 f1 f3 f4 f5]
  ·exact wpAny_pyNext_ascii_end (I.ok.hd hc) st hi λh' eb=>#[rfl,I.turned (t':=s.toks) (λb o hb e=>eb b o hb e) f0 f1 f3 f4 f5]
 self:=λ_ _ _ _ _ st h=>by
  cases a
  ·exact wpAny_pyIter_striter_wide st h
  ·exact wpAny_pyIter_striter_ascii st h
theorem zQ{X:Cx}{J':List (Addr×Obj)}{σ:L2.St}{H:Hp}{tg:Expr}{R:It->Hp->Prop}{E:Value->Shared->Prop}{s:Shared}{x:Str}{t:Tok}(I:Inv X J' σ H s)(q:R (LJ x) H):
  wpAny (model X.prog X.w) X.A (pyIter (.str x t)) (MO X J' σ tg R) E s:=by
 cases ha:x.cps.all (· < 128)
 ·refine wpAny_pyIter_wide ha #[_,[s.heap.objs.size],_,_,H,rfl,I.kept (t':=s.toks) λb o e=>Tf _ e,mO s.heap.objs.size x t G',#[_,Tu _ rfl,rfl,rfl],λb hb=>?_,q];cases Ua.mp hb;exact I.nS (Tr _) (I.hok.fresh (Tr _))
 ·refine wpAny_pyIter_ascii ha #[_,[s.heap.objs.size],_,_,H,rfl,I.kept (t':=s.toks) λb o e=>Tf _ e,mO s.heap.objs.size x t B',#[_,Tu _ rfl,rfl,rfl],λb hb=>?_,q];cases Ua.mp hb;exact I.nS (Tr _) (I.hok.fresh (Tr _))
end Mx
end
section
namespace MxTim
open PySem PySem.W PyProof.Rows
def DE:Bool->Keyed->Array Keyed->Nat->Nat->Nat->StateT SortSt Sem (Option Nat):=sortPriv% PySem.Builtin.gallop
theorem EZ(iZ:Bool)(k:Keyed)(xs:Array Keyed)(b m h:Nat):DE iZ k xs b m h=(do
 let past (i:Nat):StateT SortSt Sem (Option Bool):=do
  let y<-elem' xs (b+i)
  if iZ then lt' y k else return (<-lt' k y).map (!·)
 let mut la:=0
 let mut st:=1
 let mut u:=0
 let mut v:=0
 let U c0<-past h|return y'
 if c0 then
  let mx:=m-h
  for _ in [0:m] do
   if st>=mx then break
   let U c1<-past (h+st)|return y'
   if !c1 then break
   la:=st
   st:=2*st+1
  u:=h+la+1
  v:=h+min st mx
 else
  let mx:=h+1
  for _ in [0:m] do
   if st>=mx then break
   let U c1<-past (h-st)|return y'
   if c1 then break
   la:=st
   st:=2*st+1
  u:=h+1-min st mx
  v:=h-la
 for _ in [0:m] do
  if u>=v then break
  let mm:=u+(v-u)/2
  let U c2<-past mm|return y'
  if c2 then u:=mm+1 else v:=mm
 return U v):=rfl
section
variable{prog:Program}{w:World}{A:Around}{E:Value->Shared->Prop}{κ:SortKind}{s:Shared}{O:KeyOrd}{ky:Keyed->O.α}{Mem:Keyed->Prop}
def Tells(prog:Program)(w:World)(A:Around)(κ:SortKind)(s:Shared)(O:KeyOrd)(ky:Keyed->O.α)(Mem:Keyed->Prop):Prop:=
 ∀x y,Mem x->Mem y->∀C:Bool->Shared->Prop,C (O.blt (ky x) (ky y)) s->wpAny (model prog w) A (keyLt' κ x.1 y.1) C (λ_ _=>False) s
theorem p7(T:Tells prog w A κ s O ky Mem){x y:Keyed}(hx:Mem x)(hy:Mem y){st:SortSt}(hk:kindOf st=κ){Q:Option Bool->SortSt->Shared->Prop}(h:Q (U (O.blt (ky x) (ky y))) st s):kasC (model prog w) A E (lt' x y) Q st s:=by rw[lt'_eq];refine Tq (V4 ?_);rw[hk];refine Tq (V5 (wpAny_attempt (Wi (T x y hx hy (λc s'=>Q (U c) st s') h) (λc s' hc=>?_) λ_ _ hF=>hF.elim)));exact Tv hc
theorem aM{xs:Array Keyed}{i:Nat}{x:Keyed}(hx:xs[i]?=U x){st:SortSt}{Q:Keyed->SortSt->Shared->Prop}(h:Q x st s):kasC (model prog w) A E (elem' xs i) Q st s:=by rw[elem'_eq,hx];exact Tv h
theorem c9{β:Type}{l:List Nat}{b0:β}{f:Nat->β->StateT SortSt Sem (ForInStep β)}{Q:β->SortSt->Shared->Prop}(Inv:Nat->β->SortSt->Prop){de:SortSt}(h0:Inv 0 b0 de)
  (step:∀j b st x,j<l.length->Inv j b st->kasC (model prog w) A E (f x b) (λr ak s'=>s'=s/\match r with|.done b'=>Q b' ak s|.yield b'=>Inv (j+1) b' ak) st s)
  (fin:∀b st,Inv l.length b st->Q b st s):kasC (model prog w) A E (forIn l b0 f) Q de s:=by
 have go:∀(l':List Nat)(j:Nat)(b:β)(st:SortSt),j+l'.length=l.length->Inv j b st->kasC (model prog w) A E (forIn l' b f) Q st s:=by
  intro l'
  induction l' with
  |nil=>intro j b st hj hI;simp only[U8,Nat.add_zero]at hj;subst hj;exact kasC_nil (fin b st hI)
  |cons x l' ih=>
   intro j b st hj hI;simp only[TN]at hj;refine kasC_cons (Wi (step j b st x ⋯ hI) (λr s' h'=>?_) λ_ _ e=>e);obtain⟨r,ak⟩:=r;obtain⟨rfl,h'⟩:=h';cases r with
   |done b'=>exact h'
   |yield b'=>exact ih (j+1) b' ak ⋯ h'
 exact go l 0 b0 de ⋯ h0
theorem bK{α:Type}{m:StateT SortSt Sem α}{Q Q':α->SortSt->Shared->Prop}{st:SortSt}(h:kasC (model prog w) A E m Q st s)(hq:∀a ak s',Q a ak s'->Q' a ak s'):kasC (model prog w) A E m Q' st s:=by unfold kasC at h ⊢;exact Wi h (λr s' h'=>hq _ _ _ h') λ_ _ e=>e
def eX(O:KeyOrd)(ky:Keyed->O.α)(iZ:Bool)(k:Keyed)(g:Nat->Keyed)(i:Nat):Bool:=if iZ=B' then O.blt (ky (g i)) (ky k) else !O.blt (ky k) (ky (g i))
theorem xW{m:Nat}{past:Nat->StateT SortSt Sem (Option Bool)}{bb:Nat->Bool}{st:SortSt}(hp:∀(i:Nat){R:Option Bool->SortSt->Shared->Prop},i<m->R (U (bb i)) st s->kasC (model prog w) A E (past i) R st s)(mono:∀i j,i<=j->j<m->bb j=B'->bb i=B')(mD:∀i j,i<=j->j<m->bb i=G'->bb j=G'){u v:Nat}(hv:v<=m)(Qn:u<=v)(jt:∀i,i<u->bb i=B')(xt:∀i,v<=i->i<m->bb i=G')
  {Q:Option Nat->SortSt->Shared->Prop} (q:∀v,v<=m->(∀i,i<v->bb i=B')->(∀i,v<=i->i<m->bb i=G')->Q (U v) st s):kasC (model prog w) A E (do
   let mut u:=u
   let mut v:=v
   for _ in [0:m] do
    if u>=v then break
    let mm:=u+(v-u)/2
    let U c2<-past mm|return y'
    if c2 then u:=mm+1 else v:=mm
   return U v) Q st s:=by
 refine Tq (V7 (c9 (λj r ak=>st=ak/\∃u v,r=(y',u,v)/\v<=m/\u<=v/\v-u+j<=m/\(∀i,i<u->bb i=B')/\(∀i,v<=i->i<m->bb i=G')) #[rfl,_,_,rfl,⋯,⋯,⋯,jt,xt] (λj r ak x hj hI=>?_) (λr ak hI=>?_)))
 ·obtain⟨rfl,u,v,rfl,hv,Qn,Qb,h1,h2⟩:=hI;dsimp only;by_cases c:u>=v
  ·rw[V2 c];have e:u=v:=⋯
   subst e;exact Tv #[rfl,Tv (q u hv h1 h2)]
  ·rw[V1 c];have S5:u+(v-u)/2<v:=⋯
   refine Tq (hp _ ⋯ ?_);dsimp only;cases cb:bb (u+(v-u)/2) with
   |true=>rw[V2 rfl];exact Tv #[rfl,rfl,_,_,rfl,hv,⋯,⋯,λi hi=>mono i _ ⋯ ⋯ cb,h2]
   |false=>rw[V1 (by simp)];exact Tv #[rfl,rfl,_,_,rfl,⋯,⋯,⋯,h1,λi hi him=>mD _ i hi him cb]
 ·obtain⟨rfl,u,v,rfl,hv,Qn,Qb,h1,h2⟩:=hI;have e:u=v:=by
   rw[Va]at Qb
   lia
  subst e;exact Tv (q u hv h1 h2)
theorem iW(T:Tells prog w A κ s O ky Mem){iZ:Bool}{k:Keyed}{xs:Array Keyed}{b m h:Nat}(g:Nat->Keyed)(hg:∀i,i<m->xs[b+i]?=U (g i))(hm:∀i,i<m->Mem (g i))(hk:Mem k)(hh:h<m)
  (mono:∀i j,i<=j->j<m->eX O ky iZ k g j=B'->eX O ky iZ k g i=B') {st:SortSt} (hs:kindOf st=κ) {Q:Option Nat->SortSt->Shared->Prop}
  (q:∀v,v<=m->(∀i,i<v->eX O ky iZ k g i=B')->(∀i,v<=i->i<m->eX O ky iZ k g i=G')->Q (U v) st s):kasC (model prog w) A E (DE iZ k xs b m h) Q st s:=by
 have past:∀(i:Nat){R:Option Bool->SortSt->Shared->Prop},i<m->R (U (eX O ky iZ k g i)) st s->kasC (model prog w) A E (do
   let y<-elem' xs (b+i)
   if iZ=B' then lt' y k else do
    let r<-lt' k y
    pure (r.map (!·))) R st s:=λi R hi hR=>by
  refine Tq (aM (hg i hi) ?_);unfold eX at hR;cases iZ with
  |true=>rw[V2 rfl]at hR ⊢;exact p7 T (hm i hi) hk hs hR
  |false=>rw[V1 (by simp)]at hR ⊢;exact Tq (p7 T hk (hm i hi) hs (Tv hR))
 have mD:∀i j,i<=j->j<m->eX O ky iZ k g i=G'->eX O ky iZ k g j=G':=λi j gB hj hi=>by
  cases c:eX O ky iZ k g j with
  |false=>rfl
  |true=>rw[mono i j gB hj c]at hi;cases hi
 rw[EZ];dsimp only;refine Tq (past h hh ?_);dsimp only;cases c0:eX O ky iZ k g h with
 |true=>
  rw[V2 rfl];refine Tq (bK (Q:=λr ak s'=>st=ak/\s=s'/\∃la sp,r=(y',la,sp)/\h+la<m/\la<sp/\eX O ky iZ k g (h+la)=B'/\∀i,h+min sp (m-h)<=i->i<m->eX O ky iZ k g i=G') (V7 (c9 (λj r ak=>st=ak/\∃la sp,r=(y',la,sp)/\h+la<m/\la<sp/\j+1<=sp/\eX O ky iZ k g (h+la)=B') #[rfl,0,1,rfl,⋯,⋯,⋯,c0] (λj r ak x hj hI=>?_) (λr ak hI=>?_))) (λr ak s' hI=>?_))
  ·obtain⟨rfl,la,sp,rfl,v5,ml,Ia,hb⟩:=hI;dsimp only;by_cases c:sp>=m-h
   ·rw[V2 c];exact Tv #[rfl,rfl,rfl,la,sp,rfl,v5,ml,hb,λi hi him=>⋯]
   ·rw[V1 c];refine Tq (past _ ⋯ ?_);dsimp only;cases cb:eX O ky iZ k g (h+sp) with
    |true=>rw[V1 (by simp)];exact Tv #[rfl,rfl,_,_,rfl,⋯,⋯,⋯,cb]
    |false=>rw[V2 (by simp)];exact Tv #[rfl,rfl,rfl,la,sp,rfl,v5,ml,hb,λi hi him=>mD (h+sp) i ⋯ him cb]
  ·obtain⟨rfl,la,sp,rfl,v5,ml,Ia,hb⟩:=hI;rw[Va]at Ia;exact#[rfl,rfl,la,sp,rfl,v5,ml,hb,λi hi him=>⋯]
  obtain⟨rfl,rfl,la,sp,rfl,v5,ml,hb,xt⟩:=hI;have jt:∀i,i<h+la+1->eX O ky iZ k g i=B':=λi hi=>mono i _ ⋯ v5 hb
  dsimp only;exact xW past mono mD ⋯ ⋯ jt xt q
 |false=>
  rw[V1 (by simp)];refine Tq (bK (Q:=λr ak s'=>st=ak/\s=s'/\∃la sp,r=(y',la,sp)/\la<=h/\la<sp/\eX O ky iZ k g (h-la)=G'/\∀i,i<h+1-min sp (h+1)->eX O ky iZ k g i=B') (V7 (c9 (λj r ak=>st=ak/\∃la sp,r=(y',la,sp)/\la<=h/\la<sp/\j+1<=sp/\eX O ky iZ k g (h-la)=G') #[rfl,0,1,rfl,⋯,⋯,⋯,c0] (λj r ak x hj hI=>?_) (λr ak hI=>?_))) (λr ak s' hI=>?_))
  ·obtain⟨rfl,la,sp,rfl,v5,ml,Ia,hb⟩:=hI;dsimp only;by_cases c:sp>=h+1
   ·rw[V2 c];exact Tv #[rfl,rfl,rfl,la,sp,rfl,v5,ml,hb,λi hi=>⋯]
   ·rw[V1 c];refine Tq (past _ ⋯ ?_);dsimp only;cases cb:eX O ky iZ k g (h-sp) with
    |true=>rw[V2 rfl];exact Tv #[rfl,rfl,rfl,la,sp,rfl,v5,ml,hb,λi hi=>mono i (h-sp) ⋯ ⋯ cb]
    |false=>rw[V1 (by simp)];exact Tv #[rfl,rfl,_,_,rfl,⋯,⋯,⋯,cb]
  ·obtain⟨rfl,la,sp,rfl,v5,ml,Ia,hb⟩:=hI;rw[Va]at Ia;exact#[rfl,rfl,la,sp,rfl,v5,ml,hb,λi hi=>⋯]
  obtain⟨rfl,rfl,la,sp,rfl,v5,ml,hb,jt⟩:=hI;have xt:∀i,h-la<=i->i<m->eX O ky iZ k g i=G':=λi hi him=>mD (h-la) i ⋯ him hb
  dsimp only;exact xW past mono mD ⋯ ⋯ jt xt q
end
section
variable{O:KeyOrd}{ky:Keyed->O.α}
def le(O:KeyOrd)(ky:Keyed->O.α)(x y:Keyed):Prop:=O.kle (ky x) (ky y)
def gR(O:KeyOrd)(ky:Keyed->O.α)(l:List Keyed):Prop:=l.Pairwise (le O ky)
structure MI(O:KeyOrd)(ky:Keyed->O.α)(la lb out:List Keyed)(i j:Nat):Prop where
 p:out.Perm (la.take i++lb.take j)
 s:gR O ky out
 a:∀x∈out,∀y∈la.drop i,le O ky x y
 b:∀x∈out,∀y∈lb.drop j,le O ky x y
theorem cG{l:List Keyed}{i k:Nat}:l.drop i=(l.drop i).take k++l.drop (i+k):=by rw[<-List.drop_drop,Vu]
theorem gK{l:List Keyed}{i k:Nat}:l.take (i+k)=l.take i++(l.drop i).take k:=by rw[List.take_add]
theorem MI.pk{la lb out:List Keyed}{i j k:Nat}(h:MI O ky la lb out i j)(sa:gR O ky la)(hk:∀x∈(la.drop i).take k,∀y∈lb.drop j,le O ky x y):MI O ky la lb (out++(la.drop i).take k) (i+k) j:=by
 have sd:gR O ky (la.drop i):=sa.sublist (UX _ _);rw[cG (k:=k)]at sd;obtain⟨s1,s2,s3⟩:=Vq.mp sd;have FL:∀y∈(la.drop i).take k,y∈la.drop i:=λy hy=>Vm hy
 have wu:∀y∈la.drop (i+k),y∈la.drop i:=λy hy=>by rw[cG (k:=k)];exact T8 _ hy
 refine#[?_,Vq.mpr #[h.s,s1,λx hx y hy=>h.a x hx y (FL y hy)],λx hx y hy=>?_,λx hx y hy=>?_]
 ·rw[gK];refine(h.p.append_right _).trans ?_;rw[TH,TH];exact UQ _ Vt
 ·rcases TV.mp hx with hx|hx
  ·exact h.a x hx y (wu y hy)
  ·exact s3 x hx y hy
 ·rcases TV.mp hx with hx|hx
  ·exact h.b x hx y hy
  ·exact hk x hx y hy
theorem MI.pv{la lb out:List Keyed}{i j k:Nat}(h:MI O ky la lb out i j)(sb:gR O ky lb)(hk:∀x∈(lb.drop j).take k,∀y∈la.drop i,le O ky x y):MI O ky la lb (out++(lb.drop j).take k) i (j+k):=by
 have sd:gR O ky (lb.drop j):=sb.sublist (UX _ _);rw[cG (k:=k)]at sd;obtain⟨s1,s2,s3⟩:=Vq.mp sd;have FL:∀y∈(lb.drop j).take k,y∈lb.drop j:=λy hy=>Vm hy
 have wu:∀y∈lb.drop (j+k),y∈lb.drop j:=λy hy=>by rw[cG (k:=k)];exact T8 _ hy
 refine#[?_,Vq.mpr #[h.s,s1,λx hx y hy=>h.b x hx y (FL y hy)],λx hx y hy=>?_,λx hx y hy=>?_]
 ·rw[gK];refine(h.p.append_right _).trans ?_;rw[TH]
 ·rcases TV.mp hx with hx|hx
  ·exact h.a x hx y hy
  ·exact hk x hx y hy
 ·rcases TV.mp hx with hx|hx
  ·exact h.b x hx y (wu y hy)
  ·exact s3 x hx y hy
def qM(O:KeyOrd)(ky:Keyed->O.α)(la lb out:List Keyed):Prop:=out.Perm (la++lb)/\gR O ky out
theorem MI.tX{la lb out:List Keyed}{i j:Nat}(h:MI O ky la lb out i j)(sa:gR O ky la)(hj:lb.length<=j):qM O ky la lb (out++la.drop i++lb.drop j):=by have e:lb.drop j=[]:=UW hj;have e2:lb.take j=lb:=Vv hj;rw[e,Uh];refine#[?_,Vq.mpr #[h.s,sa.sublist (UX _ _),h.a]];refine(h.p.append_right _).trans ?_;rw[e2,TH];refine(UQ _ Vt).trans ?_;rw[<-TH,Vu]
theorem MI.IZ{la lb out:List Keyed}{i j:Nat}(h:MI O ky la lb out i j)(sb:gR O ky lb)(hi:la.length<=i):qM O ky la lb (out++la.drop i++lb.drop j):=by have e:la.drop i=[]:=UW hi;have e2:la.take i=la:=Vv hi;rw[e,Uh];refine#[?_,Vq.mpr #[h.s,sb.sublist (UX _ _),h.b]];refine(h.p.append_right _).trans ?_;rw[e2,TH,Vu]
theorem MI.uJ{la lb out:List Keyed}{i j:Nat}(h:MI O ky la lb out i j)(sa:gR O ky la)(sb:gR O ky lb)(hl:∀x∈lb.drop j,∀y∈la.drop i,le O ky x y):qM O ky la lb (out++lb.drop j++la.drop i):=by
 refine#[?_,Vq.mpr #[Vq.mpr #[h.s,sb.sublist (UX _ _),h.b],sa.sublist (UX _ _),λx hx y hy=>?_]]
 ·refine((h.p.append_right _).append_right _).trans ?_;rw[TH (la.take i),Vu];refine(Vt).trans ?_;rw[<-TH];refine(List.Perm.append_right _ Vt).trans ?_;rw[Vu]
 ·rcases TV.mp hx with hx|hx
  ·exact h.a x hx y hy
  ·exact hl x hx y hy
theorem MI.start{la lb:List Keyed}:MI O ky la lb [] 0 0:=#[by simp,List.Pairwise.nil,λx hx=>absurd hx (by simp),λx hx=>absurd hx (by simp)]
end
def FP:Array Keyed->Array Keyed->StateT SortSt Sem (Array Keyed):=sortPriv% PySem.Builtin.mergeLo
def setG:Nat->StateT SortSt Sem Unit:=sortPriv% PySem.Builtin.setMinGallop
abbrev GS:=Option (Array Keyed)×Array Keyed×Nat×Nat×Nat×Nat×Nat
abbrev SS:=Option (Array Keyed)×Array Keyed×Nat×Nat×Nat×Nat
abbrev OS:=Option (Array Keyed)×Array Keyed×Nat×Nat×Nat
def Be(x y o:Array Keyed)(i j:Nat):Array Keyed:=o++x.extract i x.size++y.extract j y.size
def wO(x y o:Array Keyed)(i j:Nat):Array Keyed:=o++y.extract j y.size++x.extract i x.size
def L7(x y o:Array Keyed)(i j mg ca cb:Nat):StateT SortSt Sem (ForInStep GS):=do
 let e<-elem' x i
 if (i+1+1==x.size)=B' then pure (.done (U (wO x y (o.push e) (i+1) j),o.push e,i+1,j,mg,ca,cb))
 else if (decide (ca<7)&&decide (cb<7))=B' then pure (.done (y',o.push e,i+1,j,mg,ca,cb))
 else pure (.yield (y',o.push e,i+1,j,mg,ca,cb))
def L6(x y o:Array Keyed)(i j mg ca qH:Nat):StateT SortSt Sem (ForInStep GS):=do
 let e<-elem' y j
 if (j+1==y.size)=B' then pure (.done (U (Be x y (o.push e) i (j+1)),o.push e,i,j+1,mg,ca,qH))
 else do
  let f<-elem' x i
  let r<-DE B' f y (j+1) (y.size-(j+1)) 0
  match r with
  |some k=>
   if k>0 then
    if (j+1+k==y.size)=B' then pure (.done (U (Be x y (o.push e++y.extract (j+1) (j+1+k)) i (j+1+k)),o.push e++y.extract (j+1) (j+1+k),i,j+1+k,mg,ca,k))
    else L7 x y (o.push e++y.extract (j+1) (j+1+k)) i (j+1+k) mg ca k
   else L7 x y (o.push e) i (j+1) mg ca k
  |_=>pure (.done (U (Be x y (o.push e) i (j+1)),o.push e,i,j+1,mg,ca,qH))
def L5(x y o:Array Keyed)(i j mg Nh qH:Nat):StateT SortSt Sem (ForInStep GS):=do
 setG mg
 let e<-elem' y j
 let r<-DE G' e x i (x.size-i) 0
 match r with
 |some k=>
  if k>0 then
   if (i+k+1==x.size)=B' then pure (.done (U (wO x y (o++x.extract i (i+k)) (i+k) j),o++x.extract i (i+k),i+k,j,mg,k,qH))
   else if (i+k==x.size)=B' then pure (.done (U (Be x y (o++x.extract i (i+k)) (i+k) j),o++x.extract i (i+k),i+k,j,mg,k,qH))
   else L6 x y (o++x.extract i (i+k)) (i+k) j mg k qH
  else L6 x y o i j mg k qH
 |_=>pure (.done (U (Be x y o i j),o,i,j,mg,Nh,qH))
def Ik(x y:Array Keyed)(mg:Nat)(r:SS):StateT SortSt Sem (ForInStep SS):=do
 let e<-elem' y r.2.2.2.1
 let f<-elem' x r.2.2.1
 let c<-lt' e f
 match c with
 |some yw=>
  if yw=B' then do
   let e<-elem' y r.2.2.2.1
   if (r.2.2.2.1+1==y.size)=B' then pure (.done (U (Be x y (r.2.1.push e) r.2.2.1 (r.2.2.2.1+1)),r.2.1.push e,r.2.2.1,r.2.2.2.1+1,0,r.2.2.2.2.2+1))
   else if r.2.2.2.2.2+1>=mg then pure (.done (y',r.2.1.push e,r.2.2.1,r.2.2.2.1+1,0,r.2.2.2.2.2+1))
   else pure (.yield (y',r.2.1.push e,r.2.2.1,r.2.2.2.1+1,0,r.2.2.2.2.2+1))
  else do
   let f<-elem' x r.2.2.1
   if (r.2.2.1+1+1==x.size)=B' then pure (.done (U (wO x y (r.2.1.push f) (r.2.2.1+1) r.2.2.2.1),r.2.1.push f,r.2.2.1+1,r.2.2.2.1,r.2.2.2.2.1+1,0))
   else if r.2.2.2.2.1+1>=mg then pure (.done (y',r.2.1.push f,r.2.2.1+1,r.2.2.2.1,r.2.2.2.2.1+1,0))
   else pure (.yield (y',r.2.1.push f,r.2.2.1+1,r.2.2.2.1,r.2.2.2.2.1+1,0))
 |_=>pure (.done (U (Be x y r.2.1 r.2.2.1 r.2.2.2.1),r.2.1,r.2.2.1,r.2.2.2.1,r.2.2.2.2.1,r.2.2.2.2.2))
def Gj(x y:Array Keyed)(r:OS):StateT SortSt Sem (ForInStep OS):=do
 let a<-forIn [:x.size+y.size] ((y',r.2.1,r.2.2.1,r.2.2.2.1,0,0):SS) λ_ a=>Ik x y r.2.2.2.2 a
 match a.1 with
 |some v=>pure (.done (U v,a.2.1,a.2.2.1,a.2.2.2.1,r.2.2.2.2))
 |none=>do
  rule "list.sort.gallop"
  let b<-forIn [:x.size+y.size] ((y',a.2.1,a.2.2.1,a.2.2.2.1,r.2.2.2.2+1,a.2.2.2.2.1,a.2.2.2.2.2):GS) λ_ b=>
   if b.2.2.2.2.1>1 then L5 x y b.2.1 b.2.2.1 b.2.2.2.1 (b.2.2.2.2.1-1) b.2.2.2.2.2.1 b.2.2.2.2.2.2 else L5 x y b.2.1 b.2.2.1 b.2.2.2.1 b.2.2.2.2.1 b.2.2.2.2.2.1 b.2.2.2.2.2.2
  match b.1 with
  |some v=>pure (.done (U v,b.2.1,b.2.2.1,b.2.2.2.1,b.2.2.2.2.1))
  |none=>do
   setG (b.2.2.2.2.1+1)
   pure (.yield (y',b.2.1,b.2.2.1,b.2.2.2.1,b.2.2.2.2.1+1))
def Qx(x y:Array Keyed):StateT SortSt Sem (Array Keyed):=do
 rule "list.sort.merge-lo"
 let e<-elem' y 0
 if (1==y.size)=B' then pure (Be x y #[e] 0 1)
 else if (0+1==x.size)=B' then pure (wO x y #[e] 0 1)
 else do
  let st<-get
  let r<-forIn [:x.size+y.size] ((y',#[e],0,1,gallopOf st):OS) λ_ r=>Gj x y r
  match r.1 with
  |some a=>pure a
  |none=>unsupported "internal:list.sort.merge-bound"
theorem Cc(x y:Array Keyed):FP x y=Qx x y:=by kernel_rfl
theorem jB(x:Array Keyed)(i:Nat):(x.extract i x.size).toList=x.toList.drop i:=by rw[Uu];show (x.toList.drop i).take (x.size-i)=_;exact Vv (by rw[U7];simp)
theorem kl(x:Array Keyed)(i k:Nat):(x.extract i (i+k)).toList=(x.toList.drop i).take k:=by rw[Uu];show (x.toList.drop i).take (i+k-i)=_;rw[Nat.add_sub_cancel_left]
theorem fI(x y o:Array Keyed)(i j:Nat):(Be x y o i j).toList=o.toList++x.toList.drop i++y.toList.drop j:=by unfold Be;rw[Ut,Ut,jB,jB]
theorem fV(x y o:Array Keyed)(i j:Nat):(wO x y o i j).toList=o.toList++y.toList.drop j++x.toList.drop i:=by unfold wO;rw[Ut,Ut,jB,jB]
theorem aF{x:Array Keyed}{i:Nat}(h:i<x.size):x[i]?=U (kas_item x i):=by unfold kas_item;simp[Array.getD,h]
theorem take_one{x:Array Keyed}{i:Nat}(h:i<x.size):(x.toList.drop i).take 1=[kas_item x i]:=by have e:x.toList.drop i=x.toList[i]'(by simpa using h)::x.toList.drop (i+1):=UV (by simpa using h);rw[e];unfold kas_item;simp[Array.getD,h]
theorem fS{x o:Array Keyed}{i:Nat}(h:i<x.size):(o.push (kas_item x i)).toList=o.toList++(x.toList.drop i).take 1:=by rw[take_one h];simp
section
variable{O:KeyOrd}{ky:Keyed->O.α}{Mem:Keyed->Prop}
theorem cv{x:Array Keyed}(sx:gR O ky x.toList){i j:Nat}(gB:i<=j)(hj:j<x.size):le O ky (kas_item x i) (kas_item x j):=by
 have e:∀k,(h:k<x.size)->kas_item x k=x.toList[k]'(by simpa using h):=λk h=>by unfold kas_item;simp[Array.getD,h]
 rw[e i ⋯,e j hj];by_cases c:i=j
 ·subst c;exact UN _
 ·exact Vr.mp sx i j (by simpa using (show i<x.size by lia)) (by simpa using hj) ⋯
theorem cc{x:Array Keyed}{i:Nat}{e:Keyed}(h:e∈x.toList.drop i):∃k,i<=k/\k<x.size/\e=kas_item x k:=by
 obtain⟨k,hk,rfl⟩:=U5 h;rw[U7]at hk;have Bb:i+k<x.size:=by simp at hk;lia
 refine#[i+k,⋯,Bb,?_];rw[List.getElem_drop];unfold kas_item;simp[Array.getD,Bb]
theorem aT{x:Array Keyed}{i n:Nat}{e:Keyed}(h:e∈(x.toList.drop i).take n):∃k,i<=k/\k<i+n/\k<x.size/\e=kas_item x k:=by
 obtain⟨k,hk,rfl⟩:=U5 h;rw[Ve,U7]at hk;have Bb:i+k<x.size:=by simp at hk;lia
 refine#[i+k,⋯,⋯,Bb,?_];rw[List.getElem_take,List.getElem_drop];unfold kas_item;simp[Array.getD,Bb]
structure MP(O:KeyOrd)(ky:Keyed->O.α)(Mem:Keyed->Prop)(x y:Array Keyed):Prop where
 sa:gR O ky x.toList
 sb:gR O ky y.toList
 ma:∀i,i<x.size->Mem (kas_item x i)
 mb:∀i,i<y.size->Mem (kas_item y i)
 pa:1<=x.size
 pb:1<=y.size
 first:O.blt (ky (kas_item y 0)) (ky (kas_item x 0))=B'
 last:∀j,j<y.size->O.blt (ky (kas_item y j)) (ky (kas_item x (x.size-1)))=B'
theorem MP.lst{x y:Array Keyed}(h:MP O ky Mem x y){i j:Nat}(hi:i+1=x.size):∀e∈y.toList.drop j,∀f∈x.toList.drop i,le O ky e f:=λe he f hf=>by
 obtain⟨k,_,k2,rfl⟩:=cc he;obtain⟨l,l1,l2,rfl⟩:=cc hf;have:l=x.size-1:=⋯
 subst this;exact UM (h.last k k2)
structure Bk(O:KeyOrd)(ky:Keyed->O.α)(x y o:Array Keyed)(i j:Nat):Prop where
 m:MI O ky x.toList y.toList o.toList i j
 i1:i+1<x.size
 j1:j<y.size
def GP(O:KeyOrd)(ky:Keyed->O.α)(x y:Array Keyed)(n:Nat)(v:Option (Array Keyed))(o:Array Keyed)(i j:Nat):Prop:=(∃a,v=U a/\qM O ky x.toList y.toList a.toList)\/(v=y'/\Bk O ky x y o i j/\n<=i+j)
def SI(de st:SortSt):Prop:=kindOf st=kindOf de/\arrOf st=arrOf de/\pendingOf st=pendingOf de/\failedOf st=failedOf de
theorem SI.refl(st:SortSt):SI st st:=#[rfl,rfl,rfl,rfl]
theorem SI.trans{a b c:SortSt}(h:SI a b)(g:SI b c):SI a c:=#[g.1.trans h.1,g.2.1.trans h.2.1,g.2.2.1.trans h.2.2.1,g.2.2.2.trans h.2.2.2]
variable{prog:Program}{w:World}{A:Around}{E:Value->Shared->Prop}{κ:SortKind}{s:Shared}
theorem jR{g:Nat}{st:SortSt}{Q:Unit->SortSt->Shared->Prop}(h:∀ak,SI st ak->Q () ak s):kasC (model prog w) A E (setG g) Q st s:=by
 have e:setG g=modify λt=>SortSt.mk' (kindOf t) (arrOf t) (pendingOf t) g (failedOf t):=by kernel_rfl
 rw[e];exact V6 (h _ #[rfl,rfl,rfl,rfl])
def xD(O:KeyOrd)(ky:Keyed->O.α)(x y:Array Keyed)(n:Nat):ForInStep GS->Prop
 |.done r=>GP O ky x y n r.1 r.2.1 r.2.2.1 r.2.2.2.1
 |.yield r=>r.1=y'/\GP O ky x y n r.1 r.2.1 r.2.2.1 r.2.2.2.1
theorem yM{x y o:Array Keyed}(M:MP O ky Mem x y){i j mg ca cb n:Nat}(h:MI O ky x.toList y.toList o.toList i j)(hi:i+1<x.size)(hj:j<y.size)(hk:∀l,j<=l->l<y.size->le O ky (kas_item x i) (kas_item y l))(hn:n<=i+1+j){st:SortSt}{Q:ForInStep GS->SortSt->Shared->Prop}
  (q:∀r,xD O ky x y n r->Q r st s):kasC (model prog w) A E (L7 x y o i j mg ca cb) Q st s:=by
 unfold L7;refine Tq (aM (aF ⋯) ?_);have m1:=h.pk (k:=1) M.sa (λe he f hf=>by
  obtain⟨a,a1,a2,a3,rfl⟩:=aT he;obtain⟨b,b1,b2,rfl⟩:=cc hf;have:a=i:=⋯
  subst this;exact hk b b1 b2)
 rw[<-fS (x:=x) ⋯]at m1;by_cases c:(i+1+1==x.size)=B'
 ·rw[V2 c];have c':i+1+1=x.size:=by simpa using c
  refine Tv (q _ (.inl #[_,rfl,?_]));rw[fV];exact m1.uJ M.sa M.sb (M.lst c')
 ·rw[V1 c];have c':¬i+1+1=x.size:=by simpa using c
  have g:GP O ky x y n y' (o.push (kas_item x i)) (i+1) j:=.inr #[rfl,#[m1,⋯,hj],⋯];by_cases d:(decide (ca<7)&&decide (cb<7))=B'
  ·rw[V2 d];exact Tv (q _ g)
  ·rw[V1 d];exact Tv (q _ #[rfl,g])
theorem yL(T:Tells prog w A κ s O ky Mem){x y o:Array Keyed}(M:MP O ky Mem x y){i j mg ca cb n:Nat}(h:MI O ky x.toList y.toList o.toList i j)(hi:i+1<x.size)(hj:j<y.size)(hk:∀l,i<=l->l<x.size->le O ky (kas_item y j) (kas_item x l))(hn:n<=i+j+1){st:SortSt}(hs:kindOf st=κ)
  {Q:ForInStep GS->SortSt->Shared->Prop} (q:∀r,xD O ky x y n r->Q r st s):kasC (model prog w) A E (L6 x y o i j mg ca cb) Q st s:=by
 unfold L6;refine Tq (aM (aF hj) ?_);have m1:=h.pv (k:=1) M.sb (λe he f hf=>by
  obtain⟨a,a1,a2,a3,rfl⟩:=aT he;obtain⟨b,b1,b2,rfl⟩:=cc hf;have:a=j:=⋯
  subst this;exact hk b b1 b2)
 rw[<-fS (x:=y) hj]at m1;by_cases c:(j+1==y.size)=B'
 ·rw[V2 c];have c':j+1=y.size:=by simpa using c
  refine Tv (q _ (.inl #[_,rfl,?_]));rw[fI];exact m1.tX M.sa (by simp;lia)
 ·rw[V1 c];have c':¬j+1=y.size:=by simpa using c
  refine Tq (aM (aF ⋯) (Tq ?_));refine iW T (λt=>kas_item y (j+1+t)) (λt ht=>aF ⋯) (λt ht=>M.mb _ ⋯) (M.ma i ⋯) ⋯ (λa b gN hb pS=>?_) hs (λk hk1 cZ me=>?_)
  ·unfold eX at pS ⊢;rw[V2 rfl]at pS ⊢;have:=cv M.sb (show j+1+a<=j+1+b by lia) ⋯;exact UO this pS
  ·have lo:∀t,t<k->O.blt (ky (kas_item y (j+1+t))) (ky (kas_item x i))=B':=λt ht=>by have:=cZ t ht;unfold eX at this;rw[V2 rfl]at this;exact this
   have vX:∀l,j+1+k<=l->l<y.size->le O ky (kas_item x i) (kas_item y l):=λl dq b7=>by have z:=me (l-(j+1)) ⋯ ⋯;unfold eX at z;rw[V2 rfl]at z;have z2:O.blt (ky (kas_item y (j+1+(l-(j+1))))) (ky (kas_item x i))=G':=z;rw[show j+1+(l-(j+1))=l by lia]at z2;exact z2
   dsimp only;by_cases k0:k>0
   ·rw[V2 k0];have m2:=m1.pv (k:=k) M.sb (λe he f hf=>by
     obtain⟨a,a1,a2,a3,rfl⟩:=aT he;obtain⟨b,b1,b2,rfl⟩:=cc hf;have h1:=lo (a-(j+1)) ⋯;rw[show j+1+(a-(j+1))=a by lia]at h1;exact T3 (UM h1) (cv M.sa b1 b2))
    rw[<-kl,<-Ut]at m2;by_cases d:(j+1+k==y.size)=B'
    ·rw[V2 d];have d':j+1+k=y.size:=by simpa using d
     refine Tv (q _ (.inl #[_,rfl,?_]));rw[fI];exact m2.tX M.sa (by simp;lia)
    ·rw[V1 d];have d':¬j+1+k=y.size:=by simpa using d
     exact yM M m2 hi ⋯ vX ⋯ q
   ·rw[V1 k0];have:k=0:=⋯
    subst this;exact yM M m1 hi ⋯ vX ⋯ q
theorem yK(T:Tells prog w A κ s O ky Mem){x y o:Array Keyed}(M:MP O ky Mem x y){i j mg ca cb n:Nat}(h:Bk O ky x y o i j)(hn:n<=i+j){de st:SortSt}(hs:kindOf st=κ)(kC:SI de st)
  {Q:ForInStep GS->SortSt->Shared->Prop} (q:∀r ak,SI de ak->xD O ky x y n r->Q r ak s):kasC (model prog w) A E (L5 x y o i j mg ca cb) Q st s:=by
 unfold L5;have hi:=h.i1;have hj:=h.j1;refine Tq (jR λsS h1=>?_);have Fi:kindOf sS=κ:=h1.1.trans hs;have q':=λr=>q r sS (kC.trans h1)
 refine Tq (aM (aF hj) (Tq ?_));refine iW T (λt=>kas_item x (i+t)) (λt ht=>aF ⋯) (λt ht=>M.ma _ ⋯) (M.mb j hj) ⋯ (λa b gN hb pS=>?_) Fi (λk hk1 cZ me=>?_)
 ·unfold eX at pS ⊢;rw[V1 (by simp)]at pS ⊢;have:=cv M.sa (show i+a<=i+b by lia) ⋯;cases z:O.blt (ky (kas_item y j)) (ky (kas_item x (i+a))) with
  |false=>rfl
  |true=>have z2:O.blt (ky (kas_item y j)) (ky (kas_item x (i+b)))=B':=UP z this;have yT:(!O.blt (ky (kas_item y j)) (ky (kas_item x (i+b))))=B':=pS;rw[z2]at yT;cases yT
 ·have lo:∀t,t<k->le O ky (kas_item x (i+t)) (kas_item y j):=λt ht=>by have z:=cZ t ht;unfold eX at z;rw[V1 (by simp)]at z;have z2:(!O.blt (ky (kas_item y j)) (ky (kas_item x (i+t))))=B':=z;show O.blt (ky (kas_item y j)) (ky (kas_item x (i+t)))=G';simpa using z2
  have vX:∀l,i+k<=l->l<x.size->le O ky (kas_item y j) (kas_item x l):=λl dq b7=>by
   have z:=me (l-i) ⋯ ⋯;unfold eX at z;rw[V1 (by simp)]at z;have z2:(!O.blt (ky (kas_item y j)) (ky (kas_item x (i+(l-i)))))=G':=z;rw[show i+(l-i)=l by lia]at z2;have z3:O.blt (ky (kas_item y j)) (ky (kas_item x l))=B':=by simpa using z2
   exact UM z3
  dsimp only;by_cases k0:k>0
  ·rw[V2 k0];have m2:=h.m.pk (k:=k) M.sa (λe he f hf=>by
    obtain⟨a,a1,a2,a3,rfl⟩:=aT he;obtain⟨b,b1,b2,rfl⟩:=cc hf;have h1:=lo (a-i) ⋯;rw[show i+(a-i)=a by lia]at h1;exact T3 h1 (cv M.sb b1 b2))
   rw[<-kl,<-Ut]at m2;by_cases c:(i+k+1==x.size)=B'
   ·rw[V2 c];have c':i+k+1=x.size:=by simpa using c
    refine Tv (q' _ (.inl #[_,rfl,?_]));rw[fV];exact m2.uJ M.sa M.sb (M.lst c')
   ·rw[V1 c];have c':¬i+k+1=x.size:=by simpa using c
    by_cases d:(i+k==x.size)=B'
    ·rw[V2 d];have d':i+k=x.size:=by simpa using d
     refine Tv (q' _ (.inl #[_,rfl,?_]));rw[fI];exact m2.IZ M.sb (by simp;lia)
    ·rw[V1 d];have d':¬i+k=x.size:=by simpa using d
     exact yL T M m2 ⋯ hj vX ⋯ Fi q'
  ·rw[V1 k0];have:k=0:=⋯
   subst this;exact yL T M h.m hi hj vX ⋯ Fi q'
end
section
variable{O:KeyOrd}{ky:Keyed->O.α}{Mem:Keyed->Prop}
variable{prog:Program}{w:World}{A:Around}{E:Value->Shared->Prop}{κ:SortKind}{s:Shared}
def SStep(O:KeyOrd)(ky:Keyed->O.α)(x y:Array Keyed)(n:Nat):ForInStep SS->Prop
 |.done r=>GP O ky x y n r.1 r.2.1 r.2.2.1 r.2.2.2.1
 |.yield r=>r.1=y'/\GP O ky x y n r.1 r.2.1 r.2.2.1 r.2.2.2.1
theorem GP.none{x y:Array Keyed}{n:Nat}{v:Option (Array Keyed)}{o:Array Keyed}{i j:Nat}(h:GP O ky x y n v o i j)(hv:v=y'):Bk O ky x y o i j/\n<=i+j:=by
 rcases h with ⟨a,e,_⟩|⟨_,h⟩
 ·rw[hv]at e;cases e
 ·exact h
theorem Hf(T:Tells prog w A κ s O ky Mem){x y:Array Keyed}(M:MP O ky Mem x y){mg:Nat}{r:SS}(h:Bk O ky x y r.2.1 r.2.2.1 r.2.2.2.1){n:Nat}(hn:n<=r.2.2.1+r.2.2.2.1+1){st:SortSt}(hs:kindOf st=κ)
  {Q:ForInStep SS->SortSt->Shared->Prop} (q:∀r',SStep O ky x y n r'->Q r' st s):kasC (model prog w) A E (Ik x y mg r) Q st s:=by
 obtain⟨v,o,i,j,ca,cb⟩:=r;have hi:i+1<x.size:=h.i1;have hj:j<y.size:=h.j1;have hm:MI O ky x.toList y.toList o.toList i j:=h.m;dsimp only at hn;unfold Ik;dsimp only;refine Tq (aM (aF hj) (Tq (aM (aF ⋯) (Tq (p7 T (M.mb j hj) (M.ma i ⋯) hs ?_)))));dsimp only;cases c:O.blt (ky (kas_item y j)) (ky (kas_item x i)) with
 |true=>
  rw[V2 rfl];refine Tq (aM (aF hj) ?_);have m1:=hm.pv (k:=1) M.sb (λe he f hf=>by
   obtain⟨a,a1,a2,a3,rfl⟩:=aT he;obtain⟨b,b1,b2,rfl⟩:=cc hf;have:a=j:=⋯
   subst this;exact T3 (UM c) (cv M.sa b1 b2))
  rw[<-fS (x:=y) hj]at m1;by_cases d:(j+1==y.size)=B'
  ·rw[V2 d];have d':j+1=y.size:=by simpa using d
   refine Tv (q _ (.inl #[_,rfl,?_]));rw[fI];exact m1.tX M.sa (by simp;lia)
  ·rw[V1 d];have d':¬j+1=y.size:=by simpa using d
   have g:GP O ky x y n y' (o.push (kas_item y j)) i (j+1):=.inr #[rfl,#[m1,hi,⋯],⋯];by_cases e:cb+1>=mg
   ·rw[V2 e];exact Tv (q _ g)
   ·rw[V1 e];exact Tv (q _ #[rfl,g])
 |false=>
  rw[V1 (by simp)];refine Tq (aM (aF ⋯) ?_);have m1:=hm.pk (k:=1) M.sa (λe he f hf=>by
   obtain⟨a,a1,a2,a3,rfl⟩:=aT he;obtain⟨b,b1,b2,rfl⟩:=cc hf;have:a=i:=⋯
   subst this;exact T3 (show O.kle (ky (kas_item x a)) (ky (kas_item y j)) from c) (cv M.sb b1 b2))
  rw[<-fS (x:=x) ⋯]at m1;by_cases d:(i+1+1==x.size)=B'
  ·rw[V2 d];have d':i+1+1=x.size:=by simpa using d
   refine Tv (q _ (.inl #[_,rfl,?_]));rw[fV];exact m1.uJ M.sa M.sb (M.lst d')
  ·rw[V1 d];have d':¬i+1+1=x.size:=by simpa using d
   have g:GP O ky x y n y' (o.push (kas_item x i)) (i+1) j:=.inr #[rfl,#[m1,⋯,hj],⋯];by_cases e:ca+1>=mg
   ·rw[V2 e];exact Tv (q _ g)
   ·rw[V1 e];exact Tv (q _ #[rfl,g])
def Iq(O:KeyOrd)(ky:Keyed->O.α)(x y:Array Keyed)(n:Nat):ForInStep OS->Prop
 |.done r=>∃a,r.1=U a/\qM O ky x.toList y.toList a.toList
 |.yield r=>r.1=y'/\Bk O ky x y r.2.1 r.2.2.1 r.2.2.2.1/\n<=r.2.2.1+r.2.2.2.1
theorem Ct(T:Tells prog w A κ s O ky Mem){x y:Array Keyed}(M:MP O ky Mem x y){r:OS}(h:Bk O ky x y r.2.1 r.2.2.1 r.2.2.2.1){n:Nat}(hn:n<=r.2.2.1+r.2.2.2.1){de st:SortSt}(hs:kindOf st=κ)(kC:SI de st)
  {Q:ForInStep OS->SortSt->Shared->Prop} (q:∀r' ak,SI de ak->Iq O ky x y (n+1) r'->Q r' ak s):kasC (model prog w) A E (Gj x y r) Q st s:=by
 unfold Gj;have hp:=M.pa;refine Tq (bK (Q:=λa ak s'=>st=ak/\s=s'/\GP O ky x y (n+1) a.1 a.2.1 a.2.2.1 a.2.2.2.1) (V7 (c9 (λjj a ak=>st=ak/\a.1=y'/\Bk O ky x y a.2.1 a.2.2.1 a.2.2.2.1/\n+jj<=a.2.2.1+a.2.2.2.1) #[rfl,rfl,h,by simpa using hn] (λjj a ak z hj hI=>?_) (λa ak hI=>?_))) (λa ak s' hI=>?_))
 ·obtain⟨rfl,a0,Ep,an⟩:=hI;refine Hf T M Ep (n:=n+jj+1) ⋯ hs (λr' fP=>#[rfl,?_]);cases r' with
  |done b=>
   refine#[rfl,rfl,?_];rcases fP with ⟨v,e,m⟩|⟨e,ok,l⟩
   ·exact .inl #[v,e,m]
   ·exact .inr #[e,ok,⋯]
  |yield b=>obtain⟨b0,gb⟩:=fP;obtain⟨ok,l⟩:=gb.none b0;exact#[rfl,b0,ok,⋯]
 ·obtain⟨rfl,a0,Ep,an⟩:=hI;rw[Va]at an;exact#[rfl,rfl,.inr #[a0,Ep,⋯]]
 obtain⟨rfl,rfl,ga⟩:=hI;rcases ga with ⟨v,e,m⟩|⟨e,ok,l⟩
 ·rw[e];exact Tv (q _ _ kC #[v,rfl,m])
 ·rw[e];refine Tq (V5 (Wp ?_));refine Tq (bK (Q:=λb ak s'=>SI de ak/\s=s'/\GP O ky x y (n+1) b.1 b.2.1 b.2.2.1 b.2.2.2.1) (V7 (c9 (λjj b ak=>SI de ak/\kindOf ak=κ/\b.1=y'/\Bk O ky x y b.2.1 b.2.2.1 b.2.2.2.1/\n+1<=b.2.2.1+b.2.2.2.1) #[kC,hs,rfl,ok,l] (λjj b ak z hj hI=>?_) (λb ak hI=>?_))) (λb ak s' hI=>?_))
  ·obtain⟨si,ks,b0,Bv,bn⟩:=hI;have kk:∀dJ,SI de dJ->kindOf dJ=κ:=λdJ h2=>(h2.1.trans si.1.symm).trans ks
   by_cases c:b.2.2.2.2.1>1
   ·rw[V2 c];refine yK T M Bv bn ks si (λr' dJ h2 fP=>#[rfl,?_]);cases r' with
    |done b'=>exact#[h2,rfl,fP]
    |yield b'=>obtain⟨c0,gc⟩:=fP;obtain⟨F8,l'⟩:=gc.none c0;exact#[h2,kk dJ h2,c0,F8,l']
   ·rw[V1 c];refine yK T M Bv bn ks si (λr' dJ h2 fP=>#[rfl,?_]);cases r' with
    |done b'=>exact#[h2,rfl,fP]
    |yield b'=>obtain⟨c0,gc⟩:=fP;obtain⟨F8,l'⟩:=gc.none c0;exact#[h2,kk dJ h2,c0,F8,l']
  ·obtain⟨si,ks,b0,Bv,bn⟩:=hI;exact#[si,rfl,.inr #[b0,Bv,bn]]
  obtain⟨si,rfl,gb⟩:=hI;rcases gb with ⟨v,e2,m⟩|⟨e2,OA,l2⟩
  ·rw[e2];exact Tv (q _ _ si #[v,rfl,m])
  ·rw[e2];exact Tq (jR λdJ h2=>Tv (q _ _ (si.trans h2) #[rfl,OA,l2]))
theorem Cd(T:Tells prog w A κ s O ky Mem){x y:Array Keyed}(M:MP O ky Mem x y){st:SortSt}(hs:kindOf st=κ){Q:Array Keyed->SortSt->Shared->Prop}(q:∀v ak,SI st ak->qM O ky x.toList y.toList v.toList->Q v ak s):kasC (model prog w) A E (FP x y) Q st s:=by
 rw[Cc];unfold Qx;have hp:=M.pa;have hq:=M.pb;refine Tq (V5 (Wp ?_));refine Tq (aM (aF ⋯) ?_);have m1:=(MI.start (O:=O) (ky:=ky) (la:=x.toList) (lb:=y.toList)).pv (k:=1) M.sb (λe he f hf=>by
  obtain⟨a,a1,a2,a3,rfl⟩:=aT he;obtain⟨b,b1,b2,rfl⟩:=cc hf;have:a=0:=⋯
  subst this;exact T3 (UM M.first) (cv M.sa (VL b) b2))
 have e0:(#[kas_item y 0]:Array Keyed).toList=[]++(y.toList.drop 0).take 1:=by rw[take_one ⋯];rfl
 rw[<-e0,VJ]at m1;by_cases c:(1==y.size)=B'
 ·rw[V2 c];have c':1=y.size:=by simpa using c
  refine Tv (q _ _ (SI.refl _) ?_);rw[fI];exact m1.tX M.sa (by simp;lia)
 ·rw[V1 c];have c':¬1=y.size:=by simpa using c
  by_cases d:(0+1==x.size)=B'
  ·rw[V2 d];have d':0+1=x.size:=by simpa using d
   refine Tv (q _ _ (SI.refl _) ?_);rw[fV];exact m1.uJ M.sa M.sb (M.lst d')
  ·rw[V1 d];have d':¬0+1=x.size:=by simpa using d
   refine Tq (V4 ?_);refine Tq (bK (Q:=λr ak s'=>SI st ak/\s=s'/\∃a,r.1=U a/\qM O ky x.toList y.toList a.toList) (V7 (c9 (λjj r ak=>SI st ak/\r.1=y'/\Bk O ky x y r.2.1 r.2.2.1 r.2.2.2.1/\jj+1<=r.2.2.1+r.2.2.2.1) #[SI.refl _,rfl,#[m1,(show 0+1<x.size by lia),(show 1<y.size by lia)],by simp] (λjj r ak z hj hI=>?_) (λr ak hI=>?_))) (λr ak s' hI=>?_))
   ·obtain⟨si,r0,C0,rn⟩:=hI;refine Ct T M C0 rn (si.1.trans hs) si (λr' dJ h2 fP=>#[rfl,?_]);cases r' with
    |done b=>exact#[h2,rfl,fP]
    |yield b=>exact#[h2,fP.1,fP.2.1,fP.2.2]
   ·obtain⟨si,r0,C0,rn⟩:=hI;rw[Va]at rn;have h1:=C0.i1;have h2:=C0.j1
    lia
   obtain⟨si,rfl,a,e,m⟩:=hI;rw[e];exact Tv (q _ _ si m)
end
section
variable{O:KeyOrd}{ky:Keyed->O.α}
structure HI(O:KeyOrd)(ky:Keyed->O.α)(la lb R:List Keyed)(i j:Nat):Prop where
 p:R.Perm (la.drop i++lb.drop j)
 s:gR O ky R
 a:∀x∈la.take i,∀y∈R,le O ky x y
 b:∀x∈lb.take j,∀y∈R,le O ky x y
theorem fL{l:List Keyed}{i k:Nat}(h:k<=i):l.take i=l.take k++(l.drop k).take (i-k):=by have:=gK (l:=l) (i:=k) (k:=i-k);rw[show k+(i-k)=i by lia]at this;exact this
theorem j5{l:List Keyed}{i k:Nat}(h:k<=i):l.drop k=(l.drop k).take (i-k)++l.drop i:=by have:=cG (l:=l) (i:=k) (k:=i-k);rw[show k+(i-k)=i by lia]at this;exact this
theorem HI.pk{la lb R:List Keyed}{i k j:Nat}(h:HI O ky la lb R i j)(hk:k<=i)(sa:gR O ky la)(hb:∀e∈(la.drop k).take (i-k),∀y∈lb.take j,le O ky y e):HI O ky la lb ((la.drop k).take (i-k)++R) k j:=by
 have st:gR O ky (la.take i):=sa.sublist (Vw _ _);rw[fL hk]at st;obtain⟨s1,s2,s3⟩:=Vq.mp st;have m1:∀y∈(la.drop k).take (i-k),y∈la.take i:=λy hy=>by rw[fL hk];exact T8 _ hy
 have m2:∀y∈la.take k,y∈la.take i:=λy hy=>by rw[fL hk];exact Vi _ hy
 refine#[?_,Vq.mpr #[s2,h.s,λx hx y hy=>h.a x (m1 x hx) y hy],λx hx y hy=>?_,λx hx y hy=>?_]
 ·refine(h.p.append_left _).trans ?_;rw[<-TH,<-j5 (l:=la) hk]
 ·rcases TV.mp hy with hy|hy
  ·exact s3 x hx y hy
  ·exact h.a x (m2 x hx) y hy
 ·rcases TV.mp hy with hy|hy
  ·exact hb y hy x hx
  ·exact h.b x hx y hy
theorem HI.pv{la lb R:List Keyed}{i k j:Nat}(h:HI O ky la lb R i j)(hk:k<=j)(sb:gR O ky lb)(hb:∀e∈(lb.drop k).take (j-k),∀y∈la.take i,le O ky y e):HI O ky la lb ((lb.drop k).take (j-k)++R) i k:=by
 have st:gR O ky (lb.take j):=sb.sublist (Vw _ _);rw[fL hk]at st;obtain⟨s1,s2,s3⟩:=Vq.mp st;have m1:∀y∈(lb.drop k).take (j-k),y∈lb.take j:=λy hy=>by rw[fL hk];exact T8 _ hy
 have m2:∀y∈lb.take k,y∈lb.take j:=λy hy=>by rw[fL hk];exact Vi _ hy
 refine#[?_,Vq.mpr #[s2,h.s,λx hx y hy=>h.b x (m1 x hx) y hy],λx hx y hy=>?_,λx hx y hy=>?_]
 ·refine(h.p.append_left _).trans ?_;rw[<-TH];refine(List.Perm.append_right _ Vt).trans ?_;rw[TH,<-j5 (l:=lb) hk]
 ·rcases TV.mp hy with hy|hy
  ·exact hb y hy x hx
  ·exact h.a x hx y hy
 ·rcases TV.mp hy with hy|hy
  ·exact s3 x hx y hy
  ·exact h.b x (m2 x hx) y hy
theorem HI.iV{la lb R:List Keyed}{i j:Nat}(h:HI O ky la lb R i j)(sa:gR O ky la)(sb:gR O ky lb)(hf:∀x∈lb.take j,∀y∈la.take i,le O ky x y):qM O ky la lb (lb.take j++la.take i++R):=by
 refine#[?_,?_]
 ·refine(h.p.append_left _).trans ?_;rw[TH,<-TH (la.take i),Vu];refine(Vt).trans ?_;rw[TH];refine UQ _ ((Vt).trans ?_);rw[Vu]
 ·refine Vq.mpr #[Vq.mpr #[sb.sublist (Vw _ _),sa.sublist (Vw _ _),hf],h.s,λx hx y hy=>?_];rcases TV.mp hx with hx|hx
  ·exact h.b x hx y hy
  ·exact h.a x hx y hy
theorem HI.tW{la lb R:List Keyed}{j:Nat}(h:HI O ky la lb R 0 j)(sa:gR O ky la)(sb:gR O ky lb):qM O ky la lb (la.take 0++lb.take j++R):=by have:=h.iV sa sb (λx hx y hy=>absurd hy (by simp));simpa using this
theorem HI.EI{la lb R:List Keyed}{i:Nat}(h:HI O ky la lb R i 0)(sa:gR O ky la)(sb:gR O ky lb):qM O ky la lb (la.take i++lb.take 0++R):=by have:=h.iV sa sb (λx hx y hy=>absurd hx (by simp));simpa using this
theorem HI.start{la lb:List Keyed}:HI O ky la lb [] la.length lb.length:=#[by simp,List.Pairwise.nil,λx _ y hy=>absurd hy (by simp),λx _ y hy=>absurd hy (by simp)]
end
def FM:Array Keyed->Array Keyed->StateT SortSt Sem (Array Keyed):=sortPriv% PySem.Builtin.mergeHi
abbrev GH:=Option (Array Keyed)×Nat×Nat×Array Keyed×Nat×Nat×Nat
abbrev SH:=Option (Array Keyed)×Nat×Nat×Array Keyed×Nat×Nat
abbrev OH:=Option (Array Keyed)×Nat×Nat×Array Keyed×Nat
def lM(x y o:Array Keyed)(i j:Nat):Array Keyed:=x.extract 0 i++y.extract 0 j++o.reverse
def vV(x y o:Array Keyed)(i j:Nat):Array Keyed:=y.extract 0 j++x.extract 0 i++o.reverse
def vZ(x y o:Array Keyed)(i j mg ca cb:Nat):StateT SortSt Sem (ForInStep GH):=do
 let e<-elem' x (i-1)
 if (i-1==0)=B' then pure (.done (U (lM x y (o.push e) (i-1) j),i-1,j,o.push e,mg,ca,cb))
 else if (decide (ca<7)&&decide (cb<7))=B' then pure (.done (y',i-1,j,o.push e,mg,ca,cb))
 else pure (.yield (y',i-1,j,o.push e,mg,ca,cb))
def b7(x y o:Array Keyed)(i j mg ca qH:Nat):StateT SortSt Sem (ForInStep GH):=do
 let e<-elem' y (j-1)
 if (j-1==1)=B' then pure (.done (U (vV x y (o.push e) i (j-1)),i,j-1,o.push e,mg,ca,qH))
 else do
  let f<-elem' x (i-1)
  let r<-DE B' f y 0 (j-1) (j-1-1)
  match r with
  |some k=>
   if j-1-k>0 then
    if (k==1)=B' then pure (.done (U (vV x y (o.push e++(y.extract k (j-1)).reverse) i k),i,k,o.push e++(y.extract k (j-1)).reverse,mg,ca,j-1-k))
    else if (k==0)=B' then pure (.done (U (lM x y (o.push e++(y.extract k (j-1)).reverse) i k),i,k,o.push e++(y.extract k (j-1)).reverse,mg,ca,j-1-k))
    else vZ x y (o.push e++(y.extract k (j-1)).reverse) i k mg ca (j-1-k)
   else vZ x y (o.push e) i (j-1) mg ca (j-1-k)
  |_=>pure (.done (U (lM x y (o.push e) i (j-1)),i,j-1,o.push e,mg,ca,qH))
def dq(x y o:Array Keyed)(i j mg Nh qH:Nat):StateT SortSt Sem (ForInStep GH):=do
 setG mg
 let e<-elem' y (j-1)
 let r<-DE G' e x 0 i (i-1)
 match r with
 |some k=>
  if i-k>0 then
   if (k==0)=B' then pure (.done (U (lM x y (o++(x.extract k i).reverse) k j),k,j,o++(x.extract k i).reverse,mg,i-k,qH))
   else b7 x y (o++(x.extract k i).reverse) k j mg (i-k) qH
  else b7 x y o i j mg (i-k) qH
 |_=>pure (.done (U (lM x y o i j),i,j,o,mg,Nh,qH))
def OY(x y:Array Keyed)(mg:Nat)(r:SH):StateT SortSt Sem (ForInStep SH):=do
 let e<-elem' y (r.2.2.1-1)
 let f<-elem' x (r.2.1-1)
 let c<-lt' e f
 match c with
 |some xw=>
  if xw=B' then do
   let f<-elem' x (r.2.1-1)
   if (r.2.1-1==0)=B' then pure (.done (U (lM x y (r.2.2.2.1.push f) (r.2.1-1) r.2.2.1),r.2.1-1,r.2.2.1,r.2.2.2.1.push f,r.2.2.2.2.1+1,0))
   else if r.2.2.2.2.1+1>=mg then pure (.done (y',r.2.1-1,r.2.2.1,r.2.2.2.1.push f,r.2.2.2.2.1+1,0))
   else pure (.yield (y',r.2.1-1,r.2.2.1,r.2.2.2.1.push f,r.2.2.2.2.1+1,0))
  else do
   let e<-elem' y (r.2.2.1-1)
   if (r.2.2.1-1==1)=B' then pure (.done (U (vV x y (r.2.2.2.1.push e) r.2.1 (r.2.2.1-1)),r.2.1,r.2.2.1-1,r.2.2.2.1.push e,0,r.2.2.2.2.2+1))
   else if r.2.2.2.2.2+1>=mg then pure (.done (y',r.2.1,r.2.2.1-1,r.2.2.2.1.push e,0,r.2.2.2.2.2+1))
   else pure (.yield (y',r.2.1,r.2.2.1-1,r.2.2.2.1.push e,0,r.2.2.2.2.2+1))
 |_=>pure (.done (U (lM x y r.2.2.2.1 r.2.1 r.2.2.1),r.2.1,r.2.2.1,r.2.2.2.1,r.2.2.2.2.1,r.2.2.2.2.2))
def Gk(x y:Array Keyed)(r:OH):StateT SortSt Sem (ForInStep OH):=do
 let a<-forIn [:x.size+y.size] ((y',r.2.1,r.2.2.1,r.2.2.2.1,0,0):SH) λ_ a=>OY x y r.2.2.2.2 a
 match a.1 with
 |some v=>pure (.done (U v,a.2.1,a.2.2.1,a.2.2.2.1,r.2.2.2.2))
 |none=>do
  rule "list.sort.gallop"
  let b<-forIn [:x.size+y.size] ((y',a.2.1,a.2.2.1,a.2.2.2.1,r.2.2.2.2+1,a.2.2.2.2.1,a.2.2.2.2.2):GH) λ_ b=>
   if b.2.2.2.2.1>1 then dq x y b.2.2.2.1 b.2.1 b.2.2.1 (b.2.2.2.2.1-1) b.2.2.2.2.2.1 b.2.2.2.2.2.2 else dq x y b.2.2.2.1 b.2.1 b.2.2.1 b.2.2.2.2.1 b.2.2.2.2.2.1 b.2.2.2.2.2.2
  match b.1 with
  |some v=>pure (.done (U v,b.2.1,b.2.2.1,b.2.2.2.1,b.2.2.2.2.1))
  |none=>do
   setG (b.2.2.2.2.1+1)
   pure (.yield (y',b.2.1,b.2.2.1,b.2.2.2.1,b.2.2.2.2.1+1))
def P9(x y:Array Keyed):StateT SortSt Sem (Array Keyed):=do
 rule "list.sort.merge-hi"
 let e<-elem' x (x.size-1)
 if (x.size-1==0)=B' then pure (lM x y #[e] (x.size-1) y.size)
 else if (y.size==1)=B' then pure (vV x y #[e] (x.size-1) y.size)
 else do
  let st<-get
  let r<-forIn [:x.size+y.size] ((y',x.size-1,y.size,#[e],gallopOf st):OH) λ_ r=>Gk x y r
  match r.1 with
  |some a=>pure a
  |none=>unsupported "internal:list.sort.merge-bound"
theorem Ca(x y:Array Keyed):FM x y=P9 x y:=by kernel_rfl
theorem nN(x:Array Keyed)(i:Nat):(x.extract 0 i).toList=x.toList.take i:=by rw[Uu];show (x.toList.drop 0).take (i-0)=_;simp
theorem ub(x:Array Keyed){k i:Nat}:(x.extract k i).toList=(x.toList.drop k).take (i-k):=by rw[Uu]
theorem dX(x y o:Array Keyed)(i j:Nat):(lM x y o i j).toList=x.toList.take i++y.toList.take j++o.toList.reverse:=by unfold lM;rw[Ut,Ut,nN,nN,Uw]
theorem fO(x y o:Array Keyed)(i j:Nat):(vV x y o i j).toList=y.toList.take j++x.toList.take i++o.toList.reverse:=by unfold vV;rw[Ut,Ut,nN,nN,Uw]
theorem vn(x o:Array Keyed)(k i:Nat):(o++(x.extract k i).reverse).toList.reverse=(x.toList.drop k).take (i-k)++o.toList.reverse:=by rw[Ut,Uw,List.reverse_append,List.reverse_reverse,ub]
theorem iE{x o:Array Keyed}{i:Nat}(h1:1<=i)(h2:i<=x.size):(o.push (kas_item x (i-1))).toList.reverse=(x.toList.drop (i-1)).take (i-(i-1))++o.toList.reverse:=by rw[show i-(i-1)=1 by lia,take_one ⋯];simp
section
variable{O:KeyOrd}{ky:Keyed->O.α}{Mem:Keyed->Prop}
variable{prog:Program}{w:World}{A:Around}{E:Value->Shared->Prop}{κ:SortKind}{s:Shared}
theorem eK{x:Array Keyed}{i:Nat}{e:Keyed}(h:e∈x.toList.take i):∃k,k<i/\k<x.size/\e=kas_item x k:=by
 have h':e∈(x.toList.drop 0).take i:=by simpa using h
 obtain⟨k,_,k1,k2,e⟩:=aT h';exact#[k,⋯,k2,e]
structure Bj(O:KeyOrd)(ky:Keyed->O.α)(x y o:Array Keyed)(i j:Nat):Prop where
 m:HI O ky x.toList y.toList o.toList.reverse i j
 i1:1<=i
 i2:i<x.size
 j1:2<=j
 j2:j<=y.size
theorem MP.fst{x y:Array Keyed}(h:MP O ky Mem x y){i:Nat}(hi:i<=x.size):∀e∈y.toList.take 1,∀f∈x.toList.take i,le O ky e f:=λe he f hf=>by
 obtain⟨k,k1,k2,rfl⟩:=eK he;obtain⟨l,l1,l2,rfl⟩:=eK hf;have:k=0:=⋯
 subst this;exact T3 (UM h.first) (cv h.sa (VL l) l2)
def HP(O:KeyOrd)(ky:Keyed->O.α)(x y:Array Keyed)(n:Nat)(v:Option (Array Keyed))(o:Array Keyed)(i j:Nat):Prop:=(∃a,v=U a/\qM O ky x.toList y.toList a.toList)\/(v=y'/\Bj O ky x y o i j/\i+j+n<=x.size+y.size)
theorem HP.none{x y:Array Keyed}{n:Nat}{v:Option (Array Keyed)}{o:Array Keyed}{i j:Nat}(h:HP O ky x y n v o i j)(hv:v=y'):Bj O ky x y o i j/\i+j+n<=x.size+y.size:=by
 rcases h with ⟨a,e,_⟩|⟨_,h⟩
 ·rw[hv]at e;cases e
 ·exact h
def xE(O:KeyOrd)(ky:Keyed->O.α)(x y:Array Keyed)(n:Nat):ForInStep GH->Prop
 |.done r=>HP O ky x y n r.1 r.2.2.2.1 r.2.1 r.2.2.1
 |.yield r=>r.1=y'/\HP O ky x y n r.1 r.2.2.2.1 r.2.1 r.2.2.1
theorem y8{x y o:Array Keyed}(M:MP O ky Mem x y){i j mg ca cb n:Nat}(h:HI O ky x.toList y.toList o.toList.reverse i j)(hi:1<=i)(vX:i<x.size)(hj:2<=j)(Ba:j<=y.size)(hk:∀l,l<j->le O ky (kas_item y l) (kas_item x (i-1)))(hn:i-1+j+n<=x.size+y.size){st:SortSt}{Q:ForInStep GH->SortSt->Shared->Prop}
  (q:∀r,xE O ky x y n r->Q r st s):kasC (model prog w) A E (vZ x y o i j mg ca cb) Q st s:=by
 unfold vZ;refine Tq (aM (aF ⋯) ?_);have m1:=h.pk (k:=i-1) ⋯ M.sa (λe he f hf=>by
  obtain⟨a,a1,a2,a3,rfl⟩:=aT he;obtain⟨b,b1,b2,rfl⟩:=eK hf;have:a=i-1:=⋯
  subst this;exact hk b b1)
 rw[<-iE (x:=x) hi ⋯]at m1;by_cases c:(i-1==0)=B'
 ·rw[V2 c];have c':i-1=0:=by simpa using c
  refine Tv (q _ (.inl #[_,rfl,?_]));rw[dX];rw[c']at m1 ⊢;exact m1.tW M.sa M.sb
 ·rw[V1 c];have c':¬i-1=0:=by simpa using c
  have g:HP O ky x y n y' (o.push (kas_item x (i-1))) (i-1) j:=.inr #[rfl,#[m1,⋯,⋯,hj,Ba],⋯];by_cases d:(decide (ca<7)&&decide (cb<7))=B'
  ·rw[V2 d];exact Tv (q _ g)
  ·rw[V1 d];exact Tv (q _ #[rfl,g])
theorem y7(T:Tells prog w A κ s O ky Mem){x y o:Array Keyed}(M:MP O ky Mem x y){i j mg ca cb n:Nat}(h:HI O ky x.toList y.toList o.toList.reverse i j)(hi:1<=i)(vX:i<x.size)(hj:2<=j)(Ba:j<=y.size)(hk:∀l,l<i->le O ky (kas_item x l) (kas_item y (j-1)))(hn:i+(j-1)+n<=x.size+y.size){st:SortSt}(hs:kindOf st=κ)
  {Q:ForInStep GH->SortSt->Shared->Prop} (q:∀r,xE O ky x y n r->Q r st s):kasC (model prog w) A E (b7 x y o i j mg ca cb) Q st s:=by
 unfold b7;refine Tq (aM (aF ⋯) ?_);have m1:=h.pv (k:=j-1) ⋯ M.sb (λe he f hf=>by
  obtain⟨a,a1,a2,a3,rfl⟩:=aT he;obtain⟨b,b1,b2,rfl⟩:=eK hf;have:a=j-1:=⋯
  subst this;exact hk b b1)
 rw[<-iE (x:=y) ⋯ Ba]at m1;by_cases c:(j-1==1)=B'
 ·rw[V2 c];have c':j-1=1:=by simpa using c
  refine Tv (q _ (.inl #[_,rfl,?_]));rw[fO];rw[c']at m1 ⊢;exact m1.iV M.sa M.sb (M.fst ⋯)
 ·rw[V1 c];have c':¬j-1=1:=by simpa using c
  refine Tq (aM (aF ⋯) (Tq ?_));refine iW T (λt=>kas_item y t) (λt ht=>by rw[VJ];exact aF ⋯) (λt ht=>M.mb _ ⋯) (M.ma (i-1) ⋯) ⋯ (λa b gN hb pS=>?_) hs (λk hk1 cZ me=>?_)
  ·unfold eX at pS ⊢;rw[V2 rfl]at pS ⊢;have:=cv M.sb gN ⋯;exact UO this pS
  ·have lo:∀t,t<k->le O ky (kas_item y t) (kas_item x (i-1)):=λt ht=>by have z:=cZ t ht;unfold eX at z;rw[V2 rfl]at z;exact UM z
   have up:∀t,k<=t->t<j-1->le O ky (kas_item x (i-1)) (kas_item y t):=λt h1 h2=>by have z:=me t h1 h2;unfold eX at z;rw[V2 rfl]at z;exact z
   dsimp only;by_cases k0:j-1-k>0
   ·rw[V2 k0];have m2:=m1.pv (k:=k) ⋯ M.sb (λe he f hf=>by
     obtain⟨a,a1,a2,a3,rfl⟩:=aT he;obtain⟨b,b1,b2,rfl⟩:=eK hf;exact T3 (cv M.sa (show b<=i-1 by lia) ⋯) (up a a1 ⋯))
    rw[<-vn]at m2;by_cases d:(k==1)=B'
    ·rw[V2 d];have d':k=1:=by simpa using d
     subst d';refine Tv (q _ (.inl #[_,rfl,?_]));rw[fO];exact m2.iV M.sa M.sb (M.fst ⋯)
    ·rw[V1 d];have d':¬k=1:=by simpa using d
     by_cases e:(k==0)=B'
     ·rw[V2 e];have e':k=0:=by simpa using e
      subst e';refine Tv (q _ (.inl #[_,rfl,?_]));rw[dX];exact m2.EI M.sa M.sb
     ·rw[V1 e];have e':¬k=0:=by simpa using e
      exact y8 M m2 hi vX ⋯ ⋯ lo ⋯ q
   ·rw[V1 k0];exact y8 M m1 hi vX ⋯ ⋯ (λl hl=>lo l ⋯) ⋯ q
theorem yZ(T:Tells prog w A κ s O ky Mem){x y o:Array Keyed}(M:MP O ky Mem x y){i j mg ca cb n:Nat}(h:Bj O ky x y o i j)(hn:i+j+n<=x.size+y.size){de st:SortSt}(hs:kindOf st=κ)(kC:SI de st)
  {Q:ForInStep GH->SortSt->Shared->Prop} (q:∀r ak,SI de ak->xE O ky x y n r->Q r ak s):kasC (model prog w) A E (dq x y o i j mg ca cb) Q st s:=by
 unfold dq;have hi:=h.i1;have vX:=h.i2;have hj:=h.j1;have Ba:=h.j2;refine Tq (jR λsS h1=>?_);have Fi:kindOf sS=κ:=h1.1.trans hs;have q':=λr=>q r sS (kC.trans h1)
 refine Tq (aM (aF ⋯) (Tq ?_));refine iW T (λt=>kas_item x t) (λt ht=>by rw[VJ];exact aF ⋯) (λt ht=>M.ma _ ⋯) (M.mb (j-1) ⋯) ⋯ (λa b gN hb pS=>?_) Fi (λk hk1 cZ me=>?_)
 ·unfold eX at pS ⊢;rw[V1 (by simp)]at pS ⊢;have:=cv M.sa gN ⋯;cases z:O.blt (ky (kas_item y (j-1))) (ky (kas_item x a)) with
  |false=>rfl
  |true=>have z2:O.blt (ky (kas_item y (j-1))) (ky (kas_item x b))=B':=UP z this;have yT:(!O.blt (ky (kas_item y (j-1))) (ky (kas_item x b)))=B':=pS;rw[z2]at yT;cases yT
 ·have lo:∀t,t<k->le O ky (kas_item x t) (kas_item y (j-1)):=λt ht=>by have z:=cZ t ht;unfold eX at z;rw[V1 (by simp)]at z;have z2:(!O.blt (ky (kas_item y (j-1))) (ky (kas_item x t)))=B':=z;show O.blt (ky (kas_item y (j-1))) (ky (kas_item x t))=G';simpa using z2
  have up:∀t,k<=t->t<i->le O ky (kas_item y (j-1)) (kas_item x t):=λt h1 h2=>by
   have z:=me t h1 h2;unfold eX at z;rw[V1 (by simp)]at z;have z2:(!O.blt (ky (kas_item y (j-1))) (ky (kas_item x t)))=G':=z;have z3:O.blt (ky (kas_item y (j-1))) (ky (kas_item x t))=B':=by simpa using z2
   exact UM z3
  dsimp only;by_cases k0:i-k>0
  ·rw[V2 k0];have m2:=h.m.pk (k:=k) ⋯ M.sa (λe he f hf=>by
    obtain⟨a,a1,a2,a3,rfl⟩:=aT he;obtain⟨b,b1,b2,rfl⟩:=eK hf;exact T3 (cv M.sb (show b<=j-1 by lia) ⋯) (up a a1 ⋯))
   rw[<-vn]at m2;by_cases e:(k==0)=B'
   ·rw[V2 e];have e':k=0:=by simpa using e
    subst e';refine Tv (q' _ (.inl #[_,rfl,?_]));rw[dX];exact m2.tW M.sa M.sb
   ·rw[V1 e];have e':¬k=0:=by simpa using e
    exact y7 T M m2 ⋯ ⋯ hj Ba lo ⋯ Fi q'
  ·rw[V1 k0];exact y7 T M h.m hi vX hj Ba (λl hl=>lo l ⋯) ⋯ Fi q'
def QP(O:KeyOrd)(ky:Keyed->O.α)(x y:Array Keyed)(n:Nat):ForInStep SH->Prop
 |.done r=>HP O ky x y n r.1 r.2.2.2.1 r.2.1 r.2.2.1
 |.yield r=>r.1=y'/\HP O ky x y n r.1 r.2.2.2.1 r.2.1 r.2.2.1
theorem Hc(T:Tells prog w A κ s O ky Mem){x y:Array Keyed}(M:MP O ky Mem x y){mg:Nat}{r:SH}(h:Bj O ky x y r.2.2.2.1 r.2.1 r.2.2.1){n:Nat}(hn:r.2.1+r.2.2.1+n<=x.size+y.size+1){st:SortSt}(hs:kindOf st=κ)
  {Q:ForInStep SH->SortSt->Shared->Prop} (q:∀r',QP O ky x y n r'->Q r' st s):kasC (model prog w) A E (OY x y mg r) Q st s:=by
 obtain⟨v,i,j,o,ca,cb⟩:=r;have hi:1<=i:=h.i1;have vX:i<x.size:=h.i2;have hj:2<=j:=h.j1;have Ba:j<=y.size:=h.j2;have hm:HI O ky x.toList y.toList o.toList.reverse i j:=h.m;dsimp only at hn;unfold OY;dsimp only;refine Tq (aM (aF ⋯) (Tq (aM (aF ⋯) (Tq (p7 T (M.mb (j-1) ⋯) (M.ma (i-1) ⋯) hs ?_)))));dsimp only;cases c:O.blt (ky (kas_item y (j-1))) (ky (kas_item x (i-1))) with
 |true=>
  rw[V2 rfl];refine Tq (aM (aF ⋯) ?_);have m1:=hm.pk (k:=i-1) ⋯ M.sa (λe he f hf=>by
   obtain⟨a,a1,a2,a3,rfl⟩:=aT he;obtain⟨b,b1,b2,rfl⟩:=eK hf;have:a=i-1:=⋯
   subst this;exact T3 (cv M.sb (show b<=j-1 by lia) ⋯) (UM c))
  rw[<-iE (x:=x) hi ⋯]at m1;by_cases d:(i-1==0)=B'
  ·rw[V2 d];have d':i-1=0:=by simpa using d
   refine Tv (q _ (.inl #[_,rfl,?_]));rw[dX];rw[d']at m1 ⊢;exact m1.tW M.sa M.sb
  ·rw[V1 d];have d':¬i-1=0:=by simpa using d
   have g:HP O ky x y n y' (o.push (kas_item x (i-1))) (i-1) j:=.inr #[rfl,#[m1,⋯,⋯,hj,Ba],⋯];by_cases e:ca+1>=mg
   ·rw[V2 e];exact Tv (q _ g)
   ·rw[V1 e];exact Tv (q _ #[rfl,g])
 |false=>
  rw[V1 (by simp)];refine Tq (aM (aF ⋯) ?_);have m1:=hm.pv (k:=j-1) ⋯ M.sb (λe he f hf=>by
   obtain⟨a,a1,a2,a3,rfl⟩:=aT he;obtain⟨b,b1,b2,rfl⟩:=eK hf;have:a=j-1:=⋯
   subst this;exact T3 (cv M.sa (show b<=i-1 by lia) ⋯) c)
  rw[<-iE (x:=y) ⋯ Ba]at m1;by_cases d:(j-1==1)=B'
  ·rw[V2 d];have d':j-1=1:=by simpa using d
   refine Tv (q _ (.inl #[_,rfl,?_]));rw[fO];rw[d']at m1 ⊢;exact m1.iV M.sa M.sb (M.fst ⋯)
  ·rw[V1 d];have d':¬j-1=1:=by simpa using d
   have g:HP O ky x y n y' (o.push (kas_item y (j-1))) i (j-1):=.inr #[rfl,#[m1,hi,vX,⋯,⋯],⋯];by_cases e:cb+1>=mg
   ·rw[V2 e];exact Tv (q _ g)
   ·rw[V1 e];exact Tv (q _ #[rfl,g])
def QO(O:KeyOrd)(ky:Keyed->O.α)(x y:Array Keyed)(n:Nat):ForInStep OH->Prop
 |.done r=>∃a,r.1=U a/\qM O ky x.toList y.toList a.toList
 |.yield r=>r.1=y'/\Bj O ky x y r.2.2.2.1 r.2.1 r.2.2.1/\r.2.1+r.2.2.1+n<=x.size+y.size
theorem Cu(T:Tells prog w A κ s O ky Mem){x y:Array Keyed}(M:MP O ky Mem x y){r:OH}(h:Bj O ky x y r.2.2.2.1 r.2.1 r.2.2.1){n:Nat}(hn:r.2.1+r.2.2.1+n<=x.size+y.size){de st:SortSt}(hs:kindOf st=κ)(kC:SI de st)
  {Q:ForInStep OH->SortSt->Shared->Prop} (q:∀r' ak,SI de ak->QO O ky x y (n+1) r'->Q r' ak s):kasC (model prog w) A E (Gk x y r) Q st s:=by
 unfold Gk;have hp:=M.pa;refine Tq (bK (Q:=λa ak s'=>st=ak/\s=s'/\HP O ky x y (n+1) a.1 a.2.2.2.1 a.2.1 a.2.2.1) (V7 (c9 (λjj a ak=>st=ak/\a.1=y'/\Bj O ky x y a.2.2.2.1 a.2.1 a.2.2.1/\a.2.1+a.2.2.1+n+jj<=x.size+y.size) #[rfl,rfl,h,by simpa using hn] (λjj a ak z hj hI=>?_) (λa ak hI=>?_))) (λa ak s' hI=>?_))
 ·obtain⟨rfl,a0,Ep,an⟩:=hI;refine Hc T M Ep (n:=n+jj+1) ⋯ hs (λr' fP=>#[rfl,?_]);cases r' with
  |done b=>
   refine#[rfl,rfl,?_];rcases fP with ⟨v,e,m⟩|⟨e,ok,l⟩
   ·exact .inl #[v,e,m]
   ·exact .inr #[e,ok,⋯]
  |yield b=>obtain⟨b0,gb⟩:=fP;obtain⟨ok,l⟩:=gb.none b0;exact#[rfl,b0,ok,⋯]
 ·obtain⟨rfl,a0,Ep,an⟩:=hI;rw[Va]at an;exact#[rfl,rfl,.inr #[a0,Ep,⋯]]
 obtain⟨rfl,rfl,ga⟩:=hI;rcases ga with ⟨v,e,m⟩|⟨e,ok,l⟩
 ·rw[e];exact Tv (q _ _ kC #[v,rfl,m])
 ·rw[e];refine Tq (V5 (Wp ?_));refine Tq (bK (Q:=λb ak s'=>SI de ak/\s=s'/\HP O ky x y (n+1) b.1 b.2.2.2.1 b.2.1 b.2.2.1) (V7 (c9 (λjj b ak=>SI de ak/\kindOf ak=κ/\b.1=y'/\Bj O ky x y b.2.2.2.1 b.2.1 b.2.2.1/\b.2.1+b.2.2.1+(n+1)<=x.size+y.size) #[kC,hs,rfl,ok,l] (λjj b ak z hj hI=>?_) (λb ak hI=>?_))) (λb ak s' hI=>?_))
  ·obtain⟨si,ks,b0,Bv,bn⟩:=hI;have kk:∀dJ,SI de dJ->kindOf dJ=κ:=λdJ h2=>(h2.1.trans si.1.symm).trans ks
   by_cases c:b.2.2.2.2.1>1
   ·rw[V2 c];refine yZ T M Bv bn ks si (λr' dJ h2 fP=>#[rfl,?_]);cases r' with
    |done b'=>exact#[h2,rfl,fP]
    |yield b'=>obtain⟨c0,gc⟩:=fP;obtain⟨F8,l'⟩:=gc.none c0;exact#[h2,kk dJ h2,c0,F8,l']
   ·rw[V1 c];refine yZ T M Bv bn ks si (λr' dJ h2 fP=>#[rfl,?_]);cases r' with
    |done b'=>exact#[h2,rfl,fP]
    |yield b'=>obtain⟨c0,gc⟩:=fP;obtain⟨F8,l'⟩:=gc.none c0;exact#[h2,kk dJ h2,c0,F8,l']
  ·obtain⟨si,ks,b0,Bv,bn⟩:=hI;exact#[si,rfl,.inr #[b0,Bv,bn]]
  obtain⟨si,rfl,gb⟩:=hI;rcases gb with ⟨v,e2,m⟩|⟨e2,OA,l2⟩
  ·rw[e2];exact Tv (q _ _ si #[v,rfl,m])
  ·rw[e2];exact Tq (jR λdJ h2=>Tv (q _ _ (si.trans h2) #[rfl,OA,l2]))
theorem Cb(T:Tells prog w A κ s O ky Mem){x y:Array Keyed}(M:MP O ky Mem x y){st:SortSt}(hs:kindOf st=κ){Q:Array Keyed->SortSt->Shared->Prop}(q:∀v ak,SI st ak->qM O ky x.toList y.toList v.toList->Q v ak s):kasC (model prog w) A E (FM x y) Q st s:=by
 rw[Ca];unfold P9;have hp:=M.pa;have hq:=M.pb;refine Tq (V5 (Wp ?_));refine Tq (aM (aF ⋯) ?_);have m0:=HI.start (O:=O) (ky:=ky) (la:=x.toList) (lb:=y.toList);have lx:x.toList.length=x.size:=by simp
 have ly:y.toList.length=y.size:=by simp
 rw[lx,ly]at m0;have m1:=m0.pk (k:=x.size-1) ⋯ M.sa (λe he f hf=>by
  obtain⟨a,a1,a2,a3,rfl⟩:=aT he;obtain⟨b,b1,b2,rfl⟩:=eK hf;have:a=x.size-1:=⋯
  subst this;exact UM (M.last b b2))
 have e0:(#[kas_item x (x.size-1)]:Array Keyed).toList.reverse=(x.toList.drop (x.size-1)).take (x.size-(x.size-1))++[]:=by rw[show x.size-(x.size-1)=1 by lia,take_one ⋯];rfl
 rw[<-e0]at m1;by_cases c:(x.size-1==0)=B'
 ·rw[V2 c];have c':x.size-1=0:=by simpa using c
  refine Tv (q _ _ (SI.refl _) ?_);rw[dX];rw[c']at m1 ⊢;exact m1.tW M.sa M.sb
 ·rw[V1 c];have c':¬x.size-1=0:=by simpa using c
  by_cases d:(y.size==1)=B'
  ·rw[V2 d];have d':y.size=1:=by simpa using d
   refine Tv (q _ _ (SI.refl _) ?_);rw[fO];rw[d']at m1 ⊢;exact m1.iV M.sa M.sb (M.fst ⋯)
  ·rw[V1 d];have d':¬y.size=1:=by simpa using d
   refine Tq (V4 ?_);refine Tq (bK (Q:=λr ak s'=>SI st ak/\s=s'/\∃a,r.1=U a/\qM O ky x.toList y.toList a.toList) (V7 (c9 (λjj r ak=>SI st ak/\r.1=y'/\Bj O ky x y r.2.2.2.1 r.2.1 r.2.2.1/\r.2.1+r.2.2.1+(jj+1)<=x.size+y.size) #[SI.refl _,rfl,#[m1,(show 1<=x.size-1 by lia),(show x.size-1<x.size by lia),(show 2<=y.size by lia),Tr _],(show x.size-1+y.size+(0+1)<=x.size+y.size by lia)] (λjj r ak z hj hI=>?_) (λr ak hI=>?_))) (λr ak s' hI=>?_))
   ·obtain⟨si,r0,C0,rn⟩:=hI;refine Cu T M C0 rn (si.1.trans hs) si (λr' dJ h2 fP=>#[rfl,?_]);cases r' with
    |done b=>exact#[h2,rfl,fP]
    |yield b=>exact#[h2,fP.1,fP.2.1,fP.2.2]
   ·obtain⟨si,r0,C0,rn⟩:=hI;rw[Va]at rn;have h1:=C0.i1;have h2:=C0.j1
    lia
   obtain⟨si,rfl,a,e,m⟩:=hI;rw[e];exact Tv (q _ _ si m)
end
def J3:Nat->StateT SortSt Sem Bool:=sortPriv% PySem.Builtin.mergeAt
def back(M:Array Keyed)(p:Nat)(a:Array Keyed):Array Keyed:=M.toList.zipIdx.foldl (λb(q,j)=>b.setIfInBounds (p+j) q) a
theorem FK(i:Nat):J3 i=(do
 let t<-get
 let (U (p,n,pw),U (q,m,_)):=((pendingOf t)[i]?,(pendingOf t)[i+1]?)|unsupported "internal:list.sort.pending"
 set (SortSt.mk' (kindOf t) (arrOf t) (((pendingOf t).setIfInBounds i (p,n+m,pw)).eraseIdxIfInBounds (i+1)) (gallopOf t) (failedOf t))
 let U k<-DE G' (<-elem' (arrOf t) q) (arrOf t) p n 0|return G'
 let (p,n):=(p+k,n-k)
 if n==0 then return B'
 let U m<-DE B' (<-elem' (arrOf t) (p+n-1)) (arrOf t) q m (m-1)|return G'
 if m==0 then return B'
 let x:=(arrOf t).extract p q
 let y:=(arrOf t).extract q (q+m)
 let M<-if n<=m then FP x y else FM x y
 modify λt=>SortSt.mk' (kindOf t) (back M p (arrOf t)) (pendingOf t) (gallopOf t) (failedOf t)
 return (failedOf (<-get)).isNone):=by kernel_rfl
theorem lV:∀(M:List Keyed)(p c:Nat)(a:Array Keyed),p+c+M.length<=a.size->((M.zipIdx c).foldl (λb(q:Keyed×Nat)=>b.setIfInBounds (p+q.2) q.1) a).toList=a.toList.take (p+c)++M++a.toList.drop (p+c+M.length)
 |[],p,c,a,h=>by simp
 |e::M,p,c,a,h=>by
  rw[Vy,List.foldl_cons];simp only[TN]at h;have ih:=lV M p (c+1) (a.setIfInBounds (p+c) e) (by rw[Array.size_setIfInBounds];lia);rw[ih];have hs:(a.setIfInBounds (p+c) e).toList=a.toList.take (p+c)++[e]++a.toList.drop (p+c+1):=by rw[Array.toList_setIfInBounds];rw[List.set_eq_take_append_cons_drop];rw[V2 (by simp;lia)];simp
  have hl:(a.toList.take (p+c)++[e]).length=p+c+1:=by simp;lia
  rw[hs];have e1:(a.toList.take (p+c)++[e]++a.toList.drop (p+c+1)).take (p+(c+1))=a.toList.take (p+c)++[e]:=by rw[show p+(c+1)=(a.toList.take (p+c)++[e]).length by lia,List.take_left]
  have e2:(a.toList.take (p+c)++[e]++a.toList.drop (p+c+1)).drop (p+(c+1)+M.length)=a.toList.drop (p+c+(e::M).length):=by
   rw[show p+(c+1)+M.length=(a.toList.take (p+c)++[e]).length+M.length by lia,List.drop_append,UW (Nat.le_add_right _ _),Vn,Nat.add_sub_cancel_left,List.drop_drop];congr 1;simp only[TN]
   lia
  rw[e1,e2];simp
section
variable{prog:Program}{w:World}{A:Around}{E:Value->Shared->Prop}{s:Shared}
theorem zh{t st:SortSt}{Q:PUnit->SortSt->Shared->Prop}(h:Q ⟨⟩ t s):kasC (model prog w) A E (set t:StateT SortSt Sem PUnit) Q st s:=by unfold kasC;rw[StateT.run_set];exact Th h
end
def aL(lo n m:Nat):StateT SortSt Sem AscSt:=
 forIn [n:m] ((y',n):AscSt) λ_ r=>do
  let x<-ltAt' (lo+r.2) (lo+r.2-1)
  match x with
  |some c=>if c=B' then pure (.done (y',r.2)) else pure (.yield (y',r.2+1))
  |_=>pure (.done (U y',r.2))
def t3(lo n m:Nat):StateT SortSt Sem (Option Nat):=do
 reverseSlice' lo (lo+n)
 let r<-aL lo n m
 match r.1 with
 |some v=>pure v
 |none=>pure (U r.2)
def dL(lo n m:Nat):StateT SortSt Sem DescSt:=
 forIn [n:m] ((y',n,0):DescSt) λ_ r=>do
  let x<-ltAt' (lo+r.2.1) (lo+r.2.1-1)
  match x with
  |some c=>
   if c=B' then
    if r.2.2>0 then do
     reverseSlice' (lo+r.2.1-(r.2.2+1)) (lo+r.2.1)
     pure (.yield (y',r.2.1+1,0))
    else pure (.yield (y',r.2.1+1,0))
   else do
    let y<-ltAt' (lo+r.2.1-1) (lo+r.2.1)
    match y with
    |some d=>if d=B' then pure (.done (y',r.2.1,r.2.2)) else pure (.yield (y',r.2.1+1,r.2.2+1))
    |_=>pure (.done (U y',r.2.1,r.2.2))
  |_=>pure (.done (U y',r.2.1,r.2.2))
def dP(lo n m:Nat):StateT SortSt Sem (Option Nat):=do
 rule "list.sort.descending-run"
 let r<-dL lo (n+1) m
 match r.1 with
 |some v=>pure v
 |none=>
  if r.2.2>0 then do
   reverseSlice' (lo+r.2.1-(r.2.2+1)) (lo+r.2.1)
   t3 lo r.2.1 m
  else t3 lo r.2.1 m
def cR(lo m:Nat):StateT SortSt Sem (Option Nat):=do
 let r<-aL lo 1 m
 match r.1 with
 |some v=>pure v
 |none=>
  if (r.2==m)=B' then pure (U r.2)
  else if r.2>1 then do
   let x<-ltAt' lo (lo+r.2-1)
   match x with
   |some c=>if c=B' then pure (U r.2) else do
     reverseSlice' lo (lo+r.2)
     dP lo r.2 m
   |_=>pure y'
  else dP lo r.2 m
theorem IR(lo m:Nat):countRun' lo m=cR lo m:=by kernel_rfl
def pL(lo k:Nat):StateT SortSt Sem (Option Bool×Nat×Nat):=
 forIn [:k] ((y',0,k):Option Bool×Nat×Nat) λ_ r=>
  if r.2.1>=r.2.2 then pure (.done (y',r.2.1,r.2.2)) else do
   let x<-ltAt' (lo+k) (lo+(r.2.1+r.2.2)/2)
   match x with
   |some c=>if c=B' then pure (.yield (y',r.2.1,(r.2.1+r.2.2)/2)) else pure (.yield (y',(r.2.1+r.2.2)/2+1,r.2.2))
   |_=>pure (.done (U G',r.2.1,r.2.2))
def bS(lo n ok:Nat):StateT SortSt Sem Bool:=do
 let r<-forIn [max ok 1:n] ((y',()):Option Bool×Unit) λk _=>do
  let r<-pL lo k
  match r.1 with
  |some v=>pure (.done (U v,()))
  |none=>do
   moveDown' (lo+k) (lo+r.2.1)
   pure (.yield (y',()))
 match r.1 with
 |some v=>pure v
 |none=>pure B'
theorem ID(lo n ok:Nat):binarySort' lo n ok=bS lo n ok:=by kernel_rfl
section
variable{O:KeyOrd}{ky:Keyed->O.α}{Mem:Keyed->Prop}
variable{prog:Program}{w:World}{A:Around}{E:Value->Shared->Prop}{κ:SortKind}{s:Shared}
theorem dm{β:Type}{a b:Nat}{b0:β}{f:Nat->β->StateT SortSt Sem (ForInStep β)}{Q:β->SortSt->Shared->Prop}(Inv:Nat->β->SortSt->Prop){de:SortSt}(h0:Inv a b0 de)
  (step:∀x c st,a<=x->x<b->Inv x c st->kasC (model prog w) A E (f x c) (λr ak s'=>s'=s/\match r with|.done b'=>Q b' ak s|.yield b'=>Inv (x+1) b' ak) st s)
  (fin:∀c st,Inv (max a b) c st->Q c st s):kasC (model prog w) A E (forIn [a:b] b0 f) Q de s:=by
 have go:∀(n x:Nat)(c:β)(st:SortSt),x+n=max a b->a<=x->Inv x c st->kasC (model prog w) A E (forIn (List.range' x n) c f) Q st s:=by
  intro n
  induction n with
  |zero=>
   intro x c st hx hax hI;have e:x=max a b:=⋯
   subst e;exact kasC_nil (fin c st hI)
  |succ n ih=>
   intro x c st hx hax hI;rw[List.range'_succ];refine kasC_cons (Wi (step x c st hax ⋯ hI) (λr s' h'=>?_) λ_ _ e=>e);obtain⟨r,ak⟩:=r;obtain⟨rfl,h'⟩:=h';cases r with
   |done b'=>exact h'
   |yield b'=>exact ih (x+1) b' ak ⋯ ⋯ h'
 exact V7 (go (b-a) a b0 de ⋯ (Tr _) h0)
structure Bs(κ:SortKind)(P:Array (Nat×Nat×Nat))(lo:Nat)(b:Array Keyed)(st:SortSt):Prop where
 k:kindOf st=κ
 f:failedOf st=y'
 p:pendingOf st=P
 pm:(arrOf st).toList.Perm b.toList
 lw:∀i,i<lo->kas_item (arrOf st) i=kas_item b i
variable{P:Array (Nat×Nat×Nat)}{lo:Nat}{b:Array Keyed}
theorem Bs.size{st:SortSt}(h:Bs κ P lo b st):(arrOf st).size=b.size:=by have:=h.pm.length_eq;simpa using this
theorem Bs.mem{st:SortSt}(h:Bs κ P lo b st)(hb:∀x∈b.toList,Mem x){i:Nat}(hi:i<b.size):Mem (kas_item (arrOf st) i):=by
 have A7:i<(arrOf st).size:=by rw[h.size];exact hi
 refine hb _ (h.pm.mem_iff.mp ?_);have e:kas_item (arrOf st) i=(arrOf st)[i]:=by unfold kas_item;simp[Array.getD,A7]
 rw[e];simp
theorem ib{p q:Array Keyed}{i j:Nat}(h:p[i]?=q[j]?):kas_item p i=kas_item q j:=by unfold kas_item;rw[Us,Us,h]
theorem ie{a:Array Keyed}{i j:Nat}(hj:j<=a.size)(k:Nat):kas_item (mirror a i j ((j-i)/2)) k=if i<=k/\k<j then kas_item a (i+j-1-k) else kas_item a k:=by
 have e:=getElem?_mirror_all (i:=i) hj k;by_cases h1:i<=k/\k<j
 ·rw[V2 h1]at e ⊢;exact ib e
 ·rw[V1 h1]at e ⊢;exact ib e
theorem kH{a:Array Keyed}{src d:Nat}(hs:src<a.size)(hd:d<=src)(k:Nat):
  kas_item (bubble a src d) k=if k=src-d then kas_item a src else if src-d<k/\k<=src then kas_item a (k-1) else kas_item a k:=by
 have e:=getElem?_bubble hs d hd k;by_cases h1:k=src-d
 ·rw[V2 h1]at e ⊢;exact ib e
 ·rw[V1 h1]at e ⊢;by_cases h2:src-d<k/\k<=src
  ·rw[V2 h2]at e ⊢;exact ib e
  ·rw[V1 h2]at e ⊢;exact ib e
theorem Bs.rev{st:SortSt}(h:Bs κ P lo b st){i j:Nat}(hi:lo<=i)(hj:j<=b.size):Bs κ P lo b (setArr st (mirror (arrOf st) i j ((j-i)/2))):=
 #[h.k,h.f,h.p,(Array.perm_iff_toList_perm.mp (mirror_perm _ _ _ _)).trans h.pm,λk hk=>by
  have:=ie (a:=arrOf st) (i:=i) (j:=j) (by rw[h.size];exact hj) k;rw[V1 ⋯]at this;exact this.trans (h.lw k hk)]
theorem Bs.QW{st:SortSt}(h:Bs κ P lo b st){c d:Nat}(hs:c<b.size)(hd:lo+d<=c):Bs κ P lo b (setArr st (bubble (arrOf st) c d)):=
 #[h.k,h.f,h.p,(Array.perm_iff_toList_perm.mp (bubble_perm _ _ _)).trans h.pm,λk hk=>by
  have:=kH (a:=arrOf st) (src:=c) (d:=d) (by rw[h.size];exact hs) ⋯ k;rw[V1 ⋯,V1 ⋯]at this;exact this.trans (h.lw k hk)]
theorem il(T:Tells prog w A κ s O ky Mem)(hb:∀x∈b.toList,Mem x){st:SortSt}(h:Bs κ P lo b st){i j:Nat}(hi:i<b.size)(hj:j<b.size){Q:Option Bool->SortSt->Shared->Prop}
  (q:Q (U (O.blt (ky (kas_item (arrOf st) i)) (ky (kas_item (arrOf st) j)))) st s):kasC (model prog w) A E (ltAt' i j) Q st s:=by
 rw[ltAt'_eq];refine Tq (V4 ?_);dsimp only;exact Tq (aM (aF (by rw[h.size];exact hi)) (Tq (aM (aF (by rw[h.size];exact hj)) (p7 T (h.mem hb hi) (h.mem hb hj) h.k q))))
def Up(O:KeyOrd)(ky:Keyed->O.α)(lo:Nat)(a:Array Keyed)(n:Nat):Prop:=∀i j,lo<=i->i<=j->j<lo+n->O.kle (ky (kas_item a i)) (ky (kas_item a j))
def Dn(O:KeyOrd)(ky:Keyed->O.α)(lo:Nat)(a:Array Keyed)(n:Nat):Prop:=∀i j,lo<=i->i<=j->j<lo+n->O.kle (ky (kas_item a j)) (ky (kas_item a i))
def MD(O:KeyOrd)(ky:Keyed->O.α)(lo:Nat)(a:Array Keyed)(n q:Nat):Prop:=∀k,lo+n-(q+1)<=k->k<lo+n->ky (kas_item a k)=ky (kas_item a (lo+n-1))
theorem Up.succ{a:Array Keyed}{n:Nat}(h:Up O ky lo a n)(h1:1<=n)(h2:O.kle (ky (kas_item a (lo+n-1))) (ky (kas_item a (lo+n)))):Up O ky lo a (n+1):=λi j hi gB hj=>by
 by_cases e:j=lo+n
 ·subst e;by_cases e2:i=lo+n
  ·subst e2;exact UN _
  ·exact T3 (h i (lo+n-1) hi ⋯ ⋯) h2
 ·exact h i j hi gB ⋯
theorem Dn.succ{a:Array Keyed}{n:Nat}(h:Dn O ky lo a n)(h1:1<=n)(h2:O.kle (ky (kas_item a (lo+n))) (ky (kas_item a (lo+n-1)))):Dn O ky lo a (n+1):=λi j hi gB hj=>by
 by_cases e:j=lo+n
 ·subst e;by_cases e2:i=lo+n
  ·subst e2;exact UN _
  ·exact T3 h2 (h i (lo+n-1) hi ⋯ ⋯)
 ·exact h i j hi gB ⋯
theorem Dn.of{a c:Array Keyed}{n:Nat}(e:∀k,ky (kas_item c k)=ky (kas_item a k))(h:Dn O ky lo a n):Dn O ky lo c n:=λi j x y z=>by rw[e,e];exact h i j x y z
theorem Up.one(a:Array Keyed):Up O ky lo a 1:=λi j x y z=>by rw[show i=j by lia];exact UN _
theorem Dn.one(a:Array Keyed):Dn O ky lo a 1:=λi j x y z=>by rw[show i=j by lia];exact UN _
theorem yu{a:Array Keyed}{i j:Nat}(hj:j<=a.size)(he:∀k,i<=k->k<j->ky (kas_item a k)=ky (kas_item a (j-1)))(k:Nat):ky (kas_item (mirror a i j ((j-i)/2)) k)=ky (kas_item a k):=by
 rw[ie hj];split
 ·rename_i h;rw[he (i+j-1-k) ⋯ ⋯,he k h.1 h.2]
 ·rfl
theorem Hw{a:Array Keyed}{n:Nat}(hn:lo+n<=a.size)(h:Dn O ky lo a n):Up O ky lo (mirror a lo (lo+n) ((lo+n-lo)/2)) n:=λi j hi gB hj=>by rw[ie hn,ie hn,V2 ⋯,V2 ⋯];exact h _ _ ⋯ ⋯ ⋯
theorem Dp(T:Tells prog w A κ s O ky Mem)(hb:∀x∈b.toList,Mem x){st:SortSt}(h:Bs κ P lo b st){n m:Nat}(hz:lo+m<=b.size)(h1:1<=n)(hn:n<=m)(hu:Up O ky lo (arrOf st) n){Q:AscSt->SortSt->Shared->Prop}
  (q:∀k,n<=k->k<=m->Up O ky lo (arrOf st) k->(k<m->O.blt (ky (kas_item (arrOf st) (lo+k))) (ky (kas_item (arrOf st) (lo+k-1)))=B')->Q (y',k) st s):kasC (model prog w) A E (aL lo n m) Q st s:=by
 unfold aL;refine dm (λx r ak=>st=ak/\r=(y',x)/\Up O ky lo (arrOf st) x) #[rfl,rfl,hu] (λx r ak hx1 BX hI=>?_) (λr ak hI=>?_)
 ·obtain⟨rfl,rfl,hu⟩:=hI;dsimp only;refine Tq (il T hb h ⋯ ⋯ ?_);dsimp only;cases c:O.blt (ky (kas_item (arrOf st) (lo+x))) (ky (kas_item (arrOf st) (lo+x-1))) with
  |true=>rw[V2 rfl];exact Tv #[rfl,q x hx1 ⋯ hu λ_=>c]
  |false=>rw[V1 (by simp)];exact Tv #[rfl,rfl,rfl,hu.succ ⋯ c]
 ·obtain⟨rfl,rfl,hu⟩:=hI;rw[show max n m=m by lia]at hu ⊢;exact q m hn (Tr _) hu λz=>absurd z ⋯
theorem oJ{i j:Nat}{st:SortSt}{Q:Unit->SortSt->Shared->Prop}(q:Q () (setArr st (mirror (arrOf st) i j ((j-i)/2))) s):kasC (model prog w) A E (reverseSlice' i j) Q st s:=by rw[reverseSlice'_eq];exact V6 q
theorem IW(T:Tells prog w A κ s O ky Mem)(hb:∀x∈b.toList,Mem x){st:SortSt}(h:Bs κ P lo b st){n m:Nat}(hz:lo+m<=b.size)(h1:1<=n)(hn:n<=m)(hd:Dn O ky lo (arrOf st) n){Q:DescSt->SortSt->Shared->Prop}
  (q:∀ak k e,Bs κ P lo b ak->n<=k->k<=m->e+1<=k->Dn O ky lo (arrOf ak) k->MD O ky lo (arrOf ak) k e->Q (y',k,e) ak s):kasC (model prog w) A E (dL lo n m) Q st s:=by
 unfold dL;have one:∀(a:Array Keyed)(k:Nat),1<=k->MD O ky lo a k 0:=λa k hk j x y=>by rw[show j=lo+k-1 by lia]
 refine dm (λx r ak=>∃e,r=(y',x,e)/\Bs κ P lo b ak/\e+1<=x/\Dn O ky lo (arrOf ak) x/\MD O ky lo (arrOf ak) x e) #[0,rfl,h,⋯,hd,one _ _ h1] (λx r ak hx1 BX hI=>?_) (λr ak hI=>?_)
 ·obtain⟨e,rfl,h,he,hd,hq⟩:=hI;have jD:=h.size;dsimp only;refine Tq (il T hb h ⋯ ⋯ ?_);dsimp only;cases c:O.blt (ky (kas_item (arrOf ak) (lo+x))) (ky (kas_item (arrOf ak) (lo+x-1))) with
  |true=>
   rw[V2 rfl];have rE:=hd.succ ⋯ (UM c);by_cases d:e>0
   ·rw[V2 d];refine Tq (oJ (Tv #[rfl,0,rfl,h.rev ⋯ ⋯,⋯,?_,one _ _ ⋯]));exact Dn.of (yu ⋯ hq) rE
   ·rw[V1 d];exact Tv #[rfl,0,rfl,h,⋯,rE,one _ _ ⋯]
  |false=>
   rw[V1 (by simp)];refine Tq (il T hb h ⋯ ⋯ ?_);dsimp only;cases d:O.blt (ky (kas_item (arrOf ak) (lo+x-1))) (ky (kas_item (arrOf ak) (lo+x))) with
   |true=>rw[V2 rfl];exact Tv #[rfl,q ak x e h hx1 ⋯ he hd hq]
   |false=>
    rw[V1 (by simp)];have heq:ky (kas_item (arrOf ak) (lo+x))=ky (kas_item (arrOf ak) (lo+x-1)):=O.total _ _ c d;refine Tv #[rfl,e+1,rfl,h,⋯,hd.succ ⋯ (by rw[heq];exact UN _),λk k1 k2=>?_];rw[show lo+(x+1)-1=lo+x by lia];by_cases z:k=lo+x
    ·rw[z]
    ·rw[hq k ⋯ ⋯,heq]
 ·obtain⟨e,rfl,h,he,hd,hq⟩:=hI;rw[show max n m=m by lia]at hd hq he ⊢;exact q ak m e h hn (Tr _) he hd hq
theorem D3(T:Tells prog w A κ s O ky Mem)(hb:∀x∈b.toList,Mem x){st:SortSt}(h:Bs κ P lo b st){n m:Nat}(hz:lo+m<=b.size)(h1:1<=n)(hn:n<=m)(hd:Dn O ky lo (arrOf st) n){Q:Option Nat->SortSt->Shared->Prop}
  (q:∀ak k,Bs κ P lo b ak->1<=k->k<=m->Up O ky lo (arrOf ak) k->Q (U k) ak s):kasC (model prog w) A E (t3 lo n m) Q st s:=by
 unfold t3;have jD:=h.size;refine Tq (oJ (Tq (Dp T hb (h.rev (Tr _) ⋯) hz h1 hn (Hw ⋯ hd) λk k1 k2 ku _=>?_)));exact Tv (q _ k (h.rev (Tr _) ⋯) ⋯ k2 ku)
theorem Dx(T:Tells prog w A κ s O ky Mem)(hb:∀x∈b.toList,Mem x){st:SortSt}(h:Bs κ P lo b st){n m:Nat}(hz:lo+m<=b.size)(h1:1<=n)(hn:n+1<=m)(hd:Dn O ky lo (arrOf st) (n+1)){Q:Option Nat->SortSt->Shared->Prop}
  (q:∀ak k,Bs κ P lo b ak->1<=k->k<=m->Up O ky lo (arrOf ak) k->Q (U k) ak s):kasC (model prog w) A E (dP lo n m) Q st s:=by
 unfold dP;refine Tq (V5 (Wp ?_));refine Tq (IW T hb h hz ⋯ hn hd λak k e h' k1 k2 ke kd kq=>?_);dsimp only;have jD:=h'.size;by_cases d:e>0
 ·rw[V2 d];exact Tq (oJ (D3 T hb (h'.rev ⋯ ⋯) hz ⋯ k2 (Dn.of (yu ⋯ kq) kd) q))
 ·rw[V1 d];exact D3 T hb h' hz ⋯ k2 kd q
theorem IS(T:Tells prog w A κ s O ky Mem)(hb:∀x∈b.toList,Mem x){st:SortSt}(h:Bs κ P lo b st){m:Nat}(hz:lo+m<=b.size)(h1:1<=m){Q:Option Nat->SortSt->Shared->Prop}
  (q:∀ak k,Bs κ P lo b ak->1<=k->k<=m->Up O ky lo (arrOf ak) k->Q (U k) ak s):kasC (model prog w) A E (countRun' lo m) Q st s:=by
 rw[IR];unfold cR;have jD:=h.size;refine Tq (Dp T hb h hz (Tr _) h1 (Up.one _) λn n1 n2 nu nl=>?_);dsimp only;by_cases e:(n==m)=B'
 ·rw[V2 e];exact Tv (q _ n h n1 n2 nu)
 ·rw[V1 e];have e':n≠m:=by simpa using e
  have cZ:=nl ⋯;by_cases hn:n>1
  ·rw[V2 hn];refine Tq (il T hb h ⋯ ⋯ ?_);dsimp only;cases c:O.blt (ky (kas_item (arrOf st) lo)) (ky (kas_item (arrOf st) (lo+n-1))) with
   |true=>rw[V2 rfl];exact Tv (q _ n h n1 n2 nu)
   |false=>
    rw[V1 (by simp)];have all:∀k,lo<=k->k<lo+n->ky (kas_item (arrOf st) k)=ky (kas_item (arrOf st) (lo+n-1)):=λk k1 k2=>by refine KeyOrd.kle_antisymm (nu k (lo+n-1) k1 ⋯ ⋯) (T3 (show O.kle (ky (kas_item (arrOf st) (lo+n-1))) (ky (kas_item (arrOf st) lo)) from c) (nu lo k (Tr _) k1 k2))
    refine Tq (oJ (Dx T hb (h.rev (Tr _) ⋯) hz n1 ⋯ (Dn.of (yu ⋯ all) (Dn.succ (λi j hi gB hj=>?_) n1 (UM cZ))) q));rw[all i hi ⋯,all j ⋯ hj];exact UN _
  ·rw[V1 hn];have e1:n=1:=⋯
   subst e1;exact Dx T hb h hz n1 ⋯ (Dn.succ (Dn.one _) n1 (UM cZ)) q
theorem Kp(T:Tells prog w A κ s O ky Mem)(hb:∀x∈b.toList,Mem x){st:SortSt}(h:Bs κ P lo b st){k:Nat}(hz:lo+k<b.size)(hu:Up O ky lo (arrOf st) k){Q:Option Bool×Nat×Nat->SortSt->Shared->Prop}
  (q:∀l r,l<=k->(∀i,lo<=i->i<lo+l->O.kle (ky (kas_item (arrOf st) i)) (ky (kas_item (arrOf st) (lo+k))))->(∀i,lo+l<=i->i<lo+k->O.klt (ky (kas_item (arrOf st) (lo+k))) (ky (kas_item (arrOf st) i)))->Q (y',l,r) st s):kasC (model prog w) A E (pL lo k) Q st s:=by
 unfold pL;refine dm (λx c ak=>st=ak/\∃l r,c=(y',l,r)/\l<=r/\r<=k/\r-l<=k-x/\(∀i,lo<=i->i<lo+l->O.kle (ky (kas_item (arrOf st) i)) (ky (kas_item (arrOf st) (lo+k))))/\(∀i,lo+r<=i->i<lo+k->O.klt (ky (kas_item (arrOf st) (lo+k))) (ky (kas_item (arrOf st) i))))
  #[rfl,0,k,rfl,⋯,⋯,⋯,λi a c=>absurd a ⋯,λi a c=>absurd a ⋯] (λx r ak hx1 BX hI=>?_) (λr ak hI=>?_)
 ·obtain⟨rfl,l,r,rfl,lr,rk,rl,jt,xt⟩:=hI;dsimp only;by_cases c:l>=r
  ·rw[V2 c];have e:l=r:=⋯
   subst e;exact Tv #[rfl,q l l rk jt xt]
  ·rw[V1 c];refine Tq (il T hb h ⋯ ⋯ ?_);dsimp only;cases d:O.blt (ky (kas_item (arrOf st) (lo+k))) (ky (kas_item (arrOf st) (lo+(l+r)/2))) with
   |true=>rw[V2 rfl];exact Tv #[rfl,rfl,l,(l+r)/2,rfl,⋯,⋯,⋯,jt,λi i1 i2=>UP d (hu _ _ ⋯ i1 i2)]
   |false=>rw[V1 (by simp)];exact Tv #[rfl,rfl,(l+r)/2+1,r,rfl,⋯,⋯,⋯,λi i1 i2=>T3 (hu i (lo+(l+r)/2) i1 ⋯ ⋯) d,xt]
 ·obtain⟨rfl,l,r,rfl,lr,rk,rl,jt,xt⟩:=hI;have e:l=r:=⋯
  subst e;exact q l l rk jt xt
theorem IE(T:Tells prog w A κ s O ky Mem)(hb:∀x∈b.toList,Mem x){st:SortSt}(h:Bs κ P lo b st){n k:Nat}(hz:lo+n<=b.size)(h1:1<=k)(hk:k<=n)(hu:Up O ky lo (arrOf st) k){Q:Bool->SortSt->Shared->Prop}
  (q:∀ak,Bs κ P lo b ak->Up O ky lo (arrOf ak) n->Q B' ak s):kasC (model prog w) A E (binarySort' lo n k) Q st s:=by
 rw[ID];unfold bS;refine Tq (dm (λx c ak=>c=(y',())/\Bs κ P lo b ak/\Up O ky lo (arrOf ak) x) #[rfl,h,by rw[show max k 1=k by lia];exact hu] (λx r ak hx1 BX hI=>?_) (λr ak hI=>?_))
 ·obtain⟨rfl,h,hu⟩:=hI;have jD:=h.size;refine Tq (Kp T hb h ⋯ hu λl r hl jt xt=>?_);dsimp only;rw[moveDown'_eq];refine Tq (V6 (Tv #[rfl,rfl,h.QW ⋯ ⋯,λi j hi gB hj=>?_]));show O.kle (ky (kas_item (bubble (arrOf ak) (lo+x) (lo+x-(lo+l))) i)) (ky (kas_item (bubble (arrOf ak) (lo+x) (lo+x-(lo+l))) j));rw[kH ⋯ ⋯,kH ⋯ ⋯,show lo+x-(lo+x-(lo+l))=lo+l by lia]
  repeat' split
  all_goals first
   |(exfalso;lia)
   |exact UN _
   |exact jt _ ⋯ ⋯
   |exact UM (xt _ ⋯ ⋯)
   |exact hu _ _ ⋯ ⋯ ⋯
 ·obtain⟨rfl,h,hu⟩:=hI;rw[show max (max k 1) n=n by lia]at hu;exact Tv (q _ h hu)
end
def OD(size pw:Nat):StateT SortSt Sem (Option Unit×Unit):=
 forIn [:size] ((y',()):Option Unit×Unit) λ_ _=>do
  let st<-get
  match (if (pendingOf st).size>1 then(pendingOf st)[(pendingOf st).size-2]? else y') with
  |some (_,_,older)=>
   if older<=pw then pure (.done (y',())) else do
    let ok<-J3 ((pendingOf st).size-2)
    if (!ok)=B' then pure (.done (U (),())) else pure (.yield (y',()))
  |_=>pure (.done (y',()))
def LP(size lo n:Nat):StateT SortSt Sem (ForInStep (Option Unit×Nat)):=do
 let st<-get
 match (pendingOf st).back? with
 |some (s1,n1,_)=>do
  let r<-OD size (power' size (2*s1+n1) (2*s1+n1+n1+n) size)
  match r.1 with
  |some v=>pure (.done (U v,lo))
  |none=>do
   modify λs=>setPending s ((pendingOf s).modify ((pendingOf s).size-1) λ(st,len,_)=>(st,len,power' size (2*s1+n1) (2*s1+n1+n1+n) size))
   modify λs=>setPending s ((pendingOf s).push (lo,n,0))
   pure (.yield (y',lo+n))
 |_=>do
  modify λs=>setPending s ((pendingOf s).push (lo,n,0))
  pure (.yield (y',lo+n))
def K5(size mr lo:Nat):StateT SortSt Sem (ForInStep (Option Unit×Nat)):=
 if lo>=size then pure (.done (y',lo)) else do
  let f<-countRun' lo (size-lo)
  match f with
  |some n=>
   if n<mr then do
    rule "list.sort.binary-insertion"
    let ok<-binarySort' lo (min (size-lo) mr) n
    if (!ok)=B' then pure (.done (U (),lo)) else LP size lo (min (size-lo) mr)
   else LP size lo n
  |_=>pure (.done (U (),lo))
def ix(p:Array (Nat×Nat×Nat)):Nat:=if (if p.size-2>0 then p[p.size-2-1]?.map (·.2.1) else y').any (· < (p[p.size-2+1]?.elim 0 (·.2.1))) then p.size-2-1 else p.size-2
def Ml(size:Nat):StateT SortSt Sem (Option Unit×Unit):=
 forIn [:size] ((y',()):Option Unit×Unit) λ_ _=>do
  let st<-get
  if (pendingOf st).size<=1 then pure (.done (y',())) else do
   let ok<-J3 (ix (pendingOf st))
   if (!ok)=B' then pure (.done (U (),())) else pure (.yield (y',()))
def sR:StateT SortSt Sem Unit:=do
 let st<-get
 let r<-forIn [:(arrOf st).size] ((y',0):Option Unit×Nat) λ_ r=>K5 (arrOf st).size (minRun' (arrOf st).size (arrOf st).size 0) r.2
 match r.1 with
 |some v=>pure v
 |none=>do
  let r<-Ml (arrOf st).size
  match r.1 with
  |some v=>pure v
  |none=>pure ()
theorem KB:sortRuns'=sR:=by kernel_rfl
section
variable{O:KeyOrd}{ky:Keyed->O.α}
theorem Up.K4{b:Array Keyed}{n:Nat}(hn:b.size=n)(h:Up O ky 0 b n):gR O ky b.toList:=by
 refine Vr.mpr λi j hi hj gB=>?_
 have e:∀k,(h:k<b.size)->kas_item b k=b.toList[k]'(by simpa using h):=λk h=>by unfold kas_item;simp[Array.getD,h]
 have A9:j<b.size:=by simpa using hj
 rw[<-e i ⋯,<-e j A9];exact h i j ⋯ ⋯ ⋯
end
section
variable{O:KeyOrd}{ky:Keyed->O.α}{Mem:Keyed->Prop}
variable{prog:Program}{w:World}{A:Around}{E:Value->Shared->Prop}{κ:SortKind}{s:Shared}
theorem item_list(b:Array Keyed)(t:Nat):kas_item b t=b.toList.getD t (Value.none,Value.none):=by unfold kas_item;simp[Array.getD,List.getD];split<;>simp_all
theorem Hh{l:List Keyed}(h:gR O ky l){i j:Nat}(gB:i<=j)(hj:j<l.length):le O ky (l.getD i (Value.none,Value.none)) (l.getD j (Value.none,Value.none)):=by
 rcases Nat.lt_or_ge i j with c|c
 ·have:=Vr.mp h i j ⋯ hj c;rw[U0,U0,TZ hj,TZ ⋯];exact this
 ·have e:i=j:=⋯
  subst e;exact UN _
theorem yI{l m:List Keyed}{d:Keyed}{i:Nat}(h:i<l.length):(l++m).getD i d=l.getD i d:=by rw[U0,U0,Uj h]
theorem yJ{l m:List Keyed}{d:Keyed}{i:Nat}(h:l.length<=i):(l++m).getD i d=m.getD (i-l.length) d:=by rw[U0,U0,Uk h]
theorem Oq(T:Tells prog w A κ s O ky Mem){a:Array Keyed}{P:Array (Nat×Nat×Nat)}{i p n1 n2 pw z g:Nat}(Rj:P[i]?=U (p,n1,pw))(NN:P[i+1]?=U (p+n1,n2,z))(jD:p+n1+n2<=a.size)(h1:1<=n1)(h2:1<=n2)(hm:∀i,i<a.size->Mem (kas_item a i))
  (sA:∀i j,p<=i->i<=j->j<p+n1->le O ky (kas_item a i) (kas_item a j)) (sB:∀i j,p+n1<=i->i<=j->j<p+n1+n2->le O ky (kas_item a i) (kas_item a j))
  {Q:Bool->SortSt->Shared->Prop} (q:∀ak:SortSt,kindOf ak=κ->pendingOf ak=(P.setIfInBounds i (p,n1+n2,pw)).eraseIdxIfInBounds (i+1)->failedOf ak=y'->(arrOf ak).toList.Perm a.toList->Up O ky p (arrOf ak) (n1+n2)->
   (∀t,t<p\/p+n1+n2<=t->kas_item (arrOf ak) t=kas_item a t)->Q B' ak s):
  kasC (model prog w) A E (J3 i) Q (SortSt.mk' κ a P g y') s:=by
 rw[FK];refine Tq (V4 ?_);dsimp only;have e0:(pendingOf (SortSt.mk' κ a P g y'))[i]?=U (p,n1,pw):=Rj;have e1:(pendingOf (SortSt.mk' κ a P g y'))[i+1]?=U (p+n1,n2,z):=NN;rw[e0,e1];dsimp only;refine Tq (zh ?_);refine Tq (aM (aF (x:=a) (show p+n1<a.size by lia)) (Tq ?_));refine iW T (λt=>kas_item a (p+t)) (λt ht=>aF (x:=a) ⋯) (λt ht=>hm _ ⋯) (hm (p+n1) ⋯) ⋯ (λi j gB hj hb=>?_) rfl (λk hk1 cZ me=>?_)
 ·unfold eX at hb ⊢;rw[V1 (by simp)]at hb ⊢;have:=sA (p+i) (p+j) ⋯ ⋯ ⋯;cases zz:O.blt (ky (kas_item a (p+n1))) (ky (kas_item a (p+i))) with
  |false=>rfl
  |true=>have z2:O.blt (ky (kas_item a (p+n1))) (ky (kas_item a (p+j)))=B':=UP zz this;have ug:(!O.blt (ky (kas_item a (p+n1))) (ky (kas_item a (p+j))))=B':=hb;rw[z2]at ug;cases ug
 have lo:∀t,p<=t->t<p+k->le O ky (kas_item a t) (kas_item a (p+n1)):=λt h0 ht=>by have zz:=cZ (t-p) ⋯;unfold eX at zz;rw[V1 (by simp)]at zz;have z2:(!O.blt (ky (kas_item a (p+n1))) (ky (kas_item a (p+(t-p)))))=B':=zz;rw[show p+(t-p)=t by lia]at z2;show O.blt (ky (kas_item a (p+n1))) (ky (kas_item a t))=G';simpa using z2
 have up:∀t,p+k<=t->t<p+n1->O.blt (ky (kas_item a (p+n1))) (ky (kas_item a t))=B':=λt h1 h2=>by have zz:=me (t-p) ⋯ ⋯;unfold eX at zz;rw[V1 (by simp)]at zz;have z2:(!O.blt (ky (kas_item a (p+n1))) (ky (kas_item a (p+(t-p)))))=G':=zz;rw[show p+(t-p)=t by lia]at z2;simpa using z2
 have As:∀b:Array Keyed,(∀i j,i<j->j<b.size->le O ky (kas_item b i) (kas_item b j))->gR O ky b.toList:=λb hb=>by
  refine Vr.mpr λi j hi hj gB=>?_
  have e:∀k,(h:k<b.size)->kas_item b k=b.toList[k]'(by simpa using h):=λk h=>by unfold kas_item;simp[Array.getD,h]
  rw[<-e i (by simpa using hi),<-e j (by simpa using hj)];exact hb i j gB (by simpa using hj)
 dsimp only;by_cases c:(n1-k==0)=B'
 ·rw[V2 c];have c':n1-k=0:=by simpa using c
  refine Tv (q _ rfl rfl rfl (UR _) (λi j hi gB hj=>?_) λt _=>rfl);by_cases ci:j<p+n1
  ·exact sA i j hi gB ci
  ·by_cases cj:i<p+n1
   ·exact T3 (lo i hi ⋯) (sB (p+n1) j (Tr _) ⋯ ⋯)
   ·exact sB i j ⋯ ⋯ ⋯
 ·rw[V1 c];have c':¬n1-k=0:=by simpa using c
  refine Tq (aM (aF (x:=a) (show p+k+(n1-k)-1<a.size by lia)) (Tq ?_));have el:p+k+(n1-k)-1=p+n1-1:=⋯
  refine iW T (λt=>kas_item a (p+n1+t)) (λt ht=>aF (x:=a) ⋯) (λt ht=>hm _ ⋯) (hm _ ⋯) ⋯ (λi j gB hj hb=>?_) rfl (λm hm1 hmlt hmge=>?_)
  ·unfold eX at hb ⊢;rw[V2 rfl]at hb ⊢;exact UO (sB (p+n1+i) (p+n1+j) ⋯ ⋯ ⋯) hb
  have QV:∀t,p+n1<=t->t<p+n1+m->O.blt (ky (kas_item a t)) (ky (kas_item a (p+n1-1)))=B':=λt h1 h2=>by have zz:=hmlt (t-(p+n1)) ⋯;unfold eX at zz;rw[V2 rfl,el]at zz;have z2:O.blt (ky (kas_item a (p+n1+(t-(p+n1))))) (ky (kas_item a (p+n1-1)))=B':=zz;rw[show p+n1+(t-(p+n1))=t by lia]at z2;exact z2
  have Pv:∀t,p+n1+m<=t->t<p+n1+n2->le O ky (kas_item a (p+n1-1)) (kas_item a t):=λt h1 h2=>by have zz:=hmge (t-(p+n1)) ⋯ ⋯;unfold eX at zz;rw[V2 rfl,el]at zz;have z2:O.blt (ky (kas_item a (p+n1+(t-(p+n1))))) (ky (kas_item a (p+n1-1)))=G':=zz;rw[show p+n1+(t-(p+n1))=t by lia]at z2;exact z2
  have m0:m≠0:=λe=>by have z1:=Pv (p+n1) ⋯ ⋯;have z2:=up (p+n1-1) ⋯ ⋯;exact KeyOrd.not_klt_of_kle z1 z2
  dsimp only;rw[V1 (by simpa using m0)];have gx:∀t,t<n1-k->kas_item (a.extract (p+k) (p+n1)) t=kas_item a (p+k+t):=λt ht=>by unfold kas_item;simp[Array.getD,show t<p+n1-(p+k) by lia,show p+k+t<a.size by lia,show min (p+n1) a.size=p+n1 by lia]
  have gy:∀t,t<m->kas_item (a.extract (p+n1) (p+n1+m)) t=kas_item a (p+n1+t):=λt ht=>by unfold kas_item;simp[Array.getD,show p+n1+t<a.size by lia,show min (p+n1+m) a.size=p+n1+m by lia,ht]
  have sx:(a.extract (p+k) (p+n1)).size=n1-k:=by simp;lia
  have sy:(a.extract (p+n1) (p+n1+m)).size=m:=by simp;lia
  have MM:MP O ky Mem (a.extract (p+k) (p+n1)) (a.extract (p+n1) (p+n1+m)):=by
   refine#[As _ λi j gB hj=>?_,As _ λi j gB hj=>?_,λi hi=>?_,λi hi=>?_,⋯,⋯,?_,λj hj=>?_]
   ·rw[gx i ⋯,gx j ⋯];exact sA _ _ ⋯ ⋯ ⋯
   ·rw[gy i ⋯,gy j ⋯];exact sB _ _ ⋯ ⋯ ⋯
   ·rw[gx i ⋯];exact hm _ ⋯
   ·rw[gy i ⋯];exact hm _ ⋯
   ·rw[gx 0 ⋯,gy 0 ⋯];exact up (p+k) (Tr _) ⋯
   ·rw[sx,gx (n1-k-1) ⋯,gy j ⋯,show p+k+(n1-k-1)=p+n1-1 by lia];exact QV _ ⋯ ⋯
  have lx:(a.extract (p+k) (p+n1)).toList=(a.toList.drop (p+k)).take (n1-k):=by have:=ub a (k:=p+k) (i:=p+n1);rw[show p+n1-(p+k)=n1-k by lia]at this;exact this
  have ly:(a.extract (p+n1) (p+n1+m)).toList=(a.toList.drop (p+n1)).take m:=kl a (p+n1) m;have fin:∀(v:Array Keyed)(ak:SortSt),kindOf ak=κ->arrOf ak=a->pendingOf ak=(P.setIfInBounds i (p,n1+n2,pw)).eraseIdxIfInBounds (i+1)->failedOf ak=y'->qM O ky (a.extract (p+k) (p+n1)).toList (a.extract (p+n1) (p+n1+m)).toList v.toList->
    kasC (model prog w) A E (do
     modify λt=>SortSt.mk' (kindOf t) (back v (p+k) (arrOf t)) (pendingOf t) (gallopOf t) (failedOf t)
     let t<-get
     pure (failedOf t).isNone) Q ak s:=λv ak k1 k2 k3 k4 hv=>by
   refine Tq (V6 (Tq (V4 (Tv ?_))));obtain⟨vp,vs⟩:=hv;have vl:v.toList.length=n1-k+m:=by
    rw[vp.length_eq,TK];simp only[TR]
    lia
   have bl:(back v (p+k) a).toList=a.toList.take (p+k)++v.toList++a.toList.drop (p+n1+m):=by
    have:=lV v.toList (p+k) 0 a ⋯;unfold back;refine Eq.trans ?_ (this.trans ?_)
    ·rfl
    ·rw[Nat.add_zero,vl,show p+k+(n1-k+m)=p+n1+m by lia]
   have al:a.toList.length=a.size:=TR;have Ss:a.toList=a.toList.take (p+k)++((a.toList.drop (p+k)).take (n1-k)++(a.toList.drop (p+n1)).take m)++a.toList.drop (p+n1+m):=by have b1:=j5 (l:=a.toList) (i:=p+n1) (k:=p+k) ⋯;rw[show p+n1-(p+k)=n1-k by lia]at b1;rw[TH,TH,<-cG (l:=a.toList) (i:=p+n1) (k:=m),<-b1,Vu]
   have pm:(back v (p+k) a).toList.Perm a.toList:=by
    rw[bl]
    conv=>rhs;rw[Ss]
    rw[lx,ly]at vp;exact((UR _).append vp).append (UR _)
   have Ot:∀e∈v.toList,(∃t,p+k<=t/\t<p+n1/\e=kas_item a t)\/(∃t,p+n1<=t/\t<p+n1+m/\e=kas_item a t):=λe he=>by
    rw[lx,ly]at vp;rcases TV.mp (vp.mem_iff.mp he)with he|he
    ·obtain⟨t,t1,t2,t3,rfl⟩:=aT he;exact .inl #[t,t1,⋯,rfl]
    ·obtain⟨t,t1,t2,t3,rfl⟩:=aT he;exact .inr #[t,t1,⋯,rfl]
   have Iy:∀t,t<p+k->kas_item (back v (p+k) a) t=kas_item a t:=λt ht=>by rw[item_list,item_list,bl,TH,yI (by rw[Ve];lia)];rw[U0,U0,U3 ht]
   have at2:∀t,p+k<=t->t<p+n1+m->kas_item (back v (p+k) a) t=v.toList.getD (t-(p+k)) (Value.none,Value.none):=λt h1 h2=>by
    have hl:(a.toList.take (p+k)).length=p+k:=by rw[Ve];lia
    rw[item_list,bl,TH,yJ ⋯,hl,yI ⋯]
   have MX:∀t,p+n1+m<=t->kas_item (back v (p+k) a) t=kas_item a t:=λt h1=>by
    have hl:(a.toList.take (p+k)++v.toList).length=p+n1+m:=by rw[TK,Ve];lia
    rw[item_list,item_list,bl,yJ ⋯,hl];rw[U0,U0,List.getElem?_drop];congr 2
    lia
   have wu:∀t,p+k<=t->t<p+n1+m->(∃u,p+k<=u/\u<p+n1/\kas_item (back v (p+k) a) t=kas_item a u)\/(∃u,p+n1<=u/\u<p+n1+m/\kas_item (back v (p+k) a) t=kas_item a u):=λt h1 h2=>by rw[at2 t h1 h2];refine Ot _ ?_;rw[U0,TZ ⋯];exact U4 _
   have ss:Up O ky p (back v (p+k) a) (n1+n2):=λi j hi gB hj=>by
    show le O ky (kas_item (back v (p+k) a) i) (kas_item (back v (p+k) a) j);by_cases c1:j<p+k
    ·rw[Iy i ⋯,Iy j c1];exact sA i j hi gB ⋯
    by_cases c2:j<p+n1+m
    ·by_cases c3:i<p+k
     ·rw[Iy i c3];rcases wu j ⋯ c2 with ⟨u,u1,u2,e⟩|⟨u,u1,u2,e⟩
      ·rw[e];exact sA i u hi ⋯ u2
      ·rw[e];exact T3 (lo i hi c3) (sB (p+n1) u (Tr _) u1 ⋯)
     ·rw[at2 i ⋯ ⋯,at2 j ⋯ c2];exact Hh vs ⋯ ⋯
    ·rw[MX j ⋯];by_cases c3:i<p+k
     ·rw[Iy i c3];exact T3 (lo i hi c3) (sB (p+n1) j (Tr _) ⋯ ⋯)
     by_cases c4:i<p+n1+m
     ·rcases wu i ⋯ c4 with ⟨u,u1,u2,e⟩|⟨u,u1,u2,e⟩
      ·rw[e];exact T3 (sA u (p+n1-1) ⋯ ⋯ ⋯) (Pv j ⋯ ⋯)
      ·rw[e];exact sB u j u1 ⋯ ⋯
     ·rw[MX i ⋯];exact sB i j ⋯ gB ⋯
   have qq:=q (SortSt.mk' (kindOf ak) (back v (p+k) (arrOf ak)) (pendingOf ak) (gallopOf ak) (failedOf ak)) k1 k3 k4 (by rw[k2];exact pm) (by rw[k2];exact ss) (λt ht=>by
    show kas_item (back v (p+k) (arrOf ak)) t=_;rw[k2];rcases ht with ht|ht
    ·exact Iy t ⋯
    ·exact MX t ⋯)
   have e:(failedOf ak).isNone=B':=by rw[k4];rfl
   show Q (failedOf ak).isNone _ s;rw[e];exact qq
  by_cases d:n1-k<=m
  ·rw[V2 d];refine Tq (Cd T MM rfl λv ak si hv=>?_);exact fin v ak si.1 si.2.1 si.2.2.1 si.2.2.2 hv
  ·rw[V1 d];refine Tq (Cb T MM rfl λv ak si hv=>?_);exact fin v ak si.1 si.2.1 si.2.2.1 si.2.2.2 hv
end
section
variable{O:KeyOrd}{ky:Keyed->O.α}{Mem:Keyed->Prop}
variable{prog:Program}{w:World}{A:Around}{E:Value->Shared->Prop}{κ:SortKind}{s:Shared}{a:Array Keyed}
def Rn(O:KeyOrd)(ky:Keyed->O.α)(b:Array Keyed):List (Nat×Nat×Nat)->Nat->Nat->Prop
 |[],lo,hi=>lo=hi
 |x::r,lo,hi=>x.1=lo/\1<=x.2.1/\Up O ky lo b x.2.1/\Rn O ky b r (lo+x.2.1) hi
theorem Rn.le{b:Array Keyed}:∀{l:List (Nat×Nat×Nat)}{lo hi:Nat},Rn O ky b l lo hi->lo+l.length<=hi
 |[],lo,hi,h=>by have h:lo=hi:=h;simp;lia
 |x::r,lo,hi,h=>by
  obtain⟨_,h2,_,h4⟩:=h;have:=Rn.le h4;simp only[TN]
  lia
theorem Rn.app{b:Array Keyed}:∀{l m:List (Nat×Nat×Nat)}{lo hi:Nat},Rn O ky b (l++m) lo hi↔∃k,Rn O ky b l lo k/\Rn O ky b m k hi
 |[],m,lo,hi=>#[λh=>#[lo,rfl,h],λ#[k,h1,h2]=>by have h1:lo=k:=h1;subst h1;exact h2]
 |x::r,m,lo,hi=>by
  constructor
  ·rintro⟨h1,h2,h3,h4⟩;obtain⟨k,k1,k2⟩:=Rn.app.mp h4;exact#[k,#[h1,h2,h3,k1],k2]
  ·rintro⟨k,⟨h1,h2,h3,h4⟩,k2⟩;exact#[h1,h2,h3,Rn.app.mpr #[k,h4,k2]]
theorem Rn.congr{b c:Array Keyed}:∀{l:List (Nat×Nat×Nat)}{lo hi:Nat},Rn O ky b l lo hi->(∀t,lo<=t->t<hi->kas_item c t=kas_item b t)->Rn O ky c l lo hi
 |[],lo,hi,h,_=>h
 |x::r,lo,hi,#[h1,h2,h3,h4],e=>by have hl:=Rn.le h4;refine#[h1,h2,λi j hi gB hj=>?_,Rn.congr h4 λt a b=>e t ⋯ b];rw[e i ⋯ ⋯,e j ⋯ ⋯];exact h3 i j hi gB hj
structure Ru(O:KeyOrd)(ky:Keyed->O.α)(κ:SortKind)(a:Array Keyed)(lo:Nat)(st:SortSt):Prop where
 k:kindOf st=κ
 f:failedOf st=y'
 pm:(arrOf st).toList.Perm a.toList
 rn:Rn O ky (arrOf st) (pendingOf st).toList 0 lo
theorem Ru.size{lo:Nat}{st:SortSt}(h:Ru O ky κ a lo st):(arrOf st).size=a.size:=by have:=h.pm.length_eq;simpa using this
theorem Ru.mem{lo:Nat}{st:SortSt}(h:Ru O ky κ a lo st)(hb:∀x∈a.toList,Mem x){i:Nat}(hi:i<(arrOf st).size):Mem (kas_item (arrOf st) i):=by refine hb _ (h.pm.mem_iff.mp ?_);unfold kas_item;simp[Array.getD,hi]
theorem Hg{α:Type}{l:List α}{i:Nat}(h:i+1<l.length):∃l1 x y l2,l=l1++x::y::l2/\l1.length=i:=by refine#[l.take i,l[i],l[i+1],l.drop (i+2),?_,by rw[Ve];lia];rw[<-UV h,<-UV ⋯,Vu]
theorem rm{P:Array (Nat×Nat×Nat)}{l1 l2:List (Nat×Nat×Nat)}{x y v:Nat×Nat×Nat}{i:Nat}(h:P.toList=l1++x::y::l2)(hi:l1.length=i):((P.setIfInBounds i v).eraseIdxIfInBounds (i+1)).toList=l1++v::l2:=by
 have jD:P.size=l1.length+(l2.length+2):=by
  have:=VY List.length h;simp at this
  lia
 have e1:(P.setIfInBounds i v).toList=l1++v::y::l2:=by rw[Array.toList_setIfInBounds,h,<-hi,List.set_append_right _ _ (Tr _)];simp
 unfold Array.eraseIdxIfInBounds;rw[dif_pos (by rw[Array.size_setIfInBounds];lia),Array.toList_eraseIdx,e1,<-hi];rw[List.eraseIdx_append_of_length_le ⋯];simp
theorem qo(T:Tells prog w A κ s O ky Mem)(hb:∀x∈a.toList,Mem x){lo i:Nat}{st:SortSt}(h:Ru O ky κ a lo st)(jt:lo<=a.size)(hi:i+1<(pendingOf st).size){Q:Bool->SortSt->Shared->Prop}
  (q:∀ak,Ru O ky κ a lo ak->(pendingOf ak).size+1=(pendingOf st).size->(∀t,lo<=t->kas_item (arrOf ak) t=kas_item (arrOf st) t)->Q B' ak s):kasC (model prog w) A E (J3 i) Q st s:=by
 obtain⟨l1,x,y,l2,hl,hlen⟩:=Hg (l:=(pendingOf st).toList) (i:=i) (by simpa using hi);have jD:=h.size;have rn:=h.rn;rw[hl]at rn;obtain⟨p,r1,r2⟩:=Rn.app.mp rn;obtain⟨xp,xn,xw⟩:=x;obtain⟨yp,yn,yw⟩:=y;obtain⟨e1,x1,x2,e2,y1,y2,r3⟩:=r2;have e1:xp=p:=e1;have e2:yp=p+xn:=e2;subst e1 e2;have h3:=r3.le;simp only at x1 x2 y1 y2 r3 h3;have eP:∀j,(pendingOf st)[j]?=(l1++(xp,xn,xw)::(xp+xn,yn,yw)::l2)[j]?:=λj=>by rw[<-hl,Array.getElem?_toList]
 have g1:(pendingOf st)[i]?=U (xp,xn,xw):=by rw[eP,Uk ⋯,show i-l1.length=0 by lia];rfl
 have g2:(pendingOf st)[i+1]?=U (xp+xn,yn,yw):=by rw[eP,Uk ⋯,show i+1-l1.length=1 by lia];rfl
 have Q3:st=SortSt.mk' κ (arrOf st) (pendingOf st) (gallopOf st) y':=by have e:st=SortSt.mk' (kindOf st) (arrOf st) (pendingOf st) (gallopOf st) (failedOf st):=rfl;rw[h.k,h.f]at e;exact e
 have z:=Oq (E:=E) T (a:=arrOf st) (P:=pendingOf st) (g:=gallopOf st) g1 g2 ⋯ x1 y1 (λi hi=>h.mem hb hi) (λi j a b c=>x2 i j a b c) (λi j a b c=>y2 i j a b c) (Q:=Q) λak k1 k2 k3 k4 k5 k6=>?_
 ·rw[<-Q3]at z;exact z
 ·have ee:=rm (v:=(xp,xn+yn,xw)) hl hlen;refine q ak #[k1,k3,k4.trans h.pm,?_] ?_ λt ht=>k6 t (.inr ⋯)
  ·rw[k2,ee];refine Rn.app.mpr #[xp,r1.congr λt _ ht=>k6 t (.inl ht),rfl,by show 1<=xn+yn;lia,k5,?_];have:Rn O ky (arrOf ak) l2 (xp+xn+yn) lo:=r3.congr λt ht _=>k6 t (.inr ht)
   rw[Nat.add_assoc]at this;exact this
  ·rw[k2,<-TR,ee,<-TR,hl];simp
   lia
theorem GM(T:Tells prog w A κ s O ky Mem)(hb:∀x∈a.toList,Mem x){lo size pw:Nat}{st:SortSt}(h:Ru O ky κ a lo st)(jt:lo<=a.size)(hp:1<=(pendingOf st).size){Q:Option Unit×Unit->SortSt->Shared->Prop}
  (q:∀ak,Ru O ky κ a lo ak->1<=(pendingOf ak).size->(∀t,lo<=t->kas_item (arrOf ak) t=kas_item (arrOf st) t)->Q (y',()) ak s):kasC (model prog w) A E (OD size pw) Q st s:=by
 unfold OD;refine dm (λ_ c ak=>c=(y',())/\Ru O ky κ a lo ak/\1<=(pendingOf ak).size/\∀t,lo<=t->kas_item (arrOf ak) t=kas_item (arrOf st) t) #[rfl,h,hp,λ_ _=>rfl] (λx c ak _ _ hI=>?_) (λc ak hI=>?_)
 ·obtain⟨rfl,h',pX,he⟩:=hI;refine Tq (V4 ?_);by_cases c1:(pendingOf ak).size>1
  ·rw[V2 c1];have:(pendingOf ak)[(pendingOf ak).size-2]?=U (pendingOf ak)[(pendingOf ak).size-2]:=by simp
   rw[this];dsimp only;by_cases c2:(pendingOf ak)[(pendingOf ak).size-2].2.2<=pw
   ·rw[V2 c2];exact Tv #[rfl,q _ h' pX he]
   ·rw[V1 c2];refine Tq (qo T hb h' jt ⋯ λdJ h2 s2 e2=>?_);rw[V1 (by simp)];exact Tv #[rfl,rfl,h2,⋯,λt ht=>(e2 t ht).trans (he t ht)]
  ·rw[V1 c1];exact Tv #[rfl,q _ h' pX he]
 ·obtain⟨rfl,h',pX,he⟩:=hI;exact q _ h' pX he
theorem Rn.OC{b:Array Keyed}{l:List (Nat×Nat×Nat)}{x y:Nat×Nat×Nat}{lo hi:Nat}(h:Rn O ky b (l++[x]) lo hi)(e1:y.1=x.1)(e2:y.2.1=x.2.1):Rn O ky b (l++[y]) lo hi:=by obtain⟨k,k1,h1,h2,h3,h4⟩:=Rn.app.mp h;exact Rn.app.mpr #[k,k1,e1.trans h1,by rw[e2];exact h2,by rw[e2];exact h3,by rw[e2];exact h4]
theorem snoc{α:Type}{P:Array α}(h:1<=P.size):∃l x,P.toList=l++[x]/\P.back?=U x:=by
 have lF:P.toList≠[]:=λz=>by have:=VY List.length z;simp at this;rw[this]at h;simp at h
 refine#[P.toList.dropLast,P.toList.getLast lF,(UU lF).symm,?_];rw[<-Array.getLast?_toList,List.getLast?_eq_some_getLast lF]
theorem ji{α:Type}(f:α->α):∀(l:List α)(x:α),(l++[x]).modify l.length f=l++[f x]
 |[],x=>rfl
 |y::l,x=>by show y::(l++[x]).modify l.length f=y::(l++[f x]);rw[ji f l x]
theorem xJ(T:Tells prog w A κ s O ky Mem)(hb:∀x∈a.toList,Mem x){size lo n:Nat}{st:SortSt}(h:Ru O ky κ a lo st)(jt:lo<=a.size)(hn:1<=n)(hu:Up O ky lo (arrOf st) n)(h0:1<=(pendingOf st).size\/lo=0){Q:ForInStep (Option Unit×Nat)->SortSt->Shared->Prop}
  (q:∀ak,Ru O ky κ a (lo+n) ak->1<=(pendingOf ak).size->Q (.yield (y',lo+n)) ak s):kasC (model prog w) A E (LP size lo n) Q st s:=by
 unfold LP;refine Tq (V4 ?_);by_cases hp:1<=(pendingOf st).size
 ·obtain⟨l,x,hl,Rv⟩:=snoc hp;rw[Rv];obtain⟨s1,n1,w1⟩:=x;dsimp only;refine Tq (GM T hb h jt hp λdJ h2 p2 e2=>?_);dsimp only;obtain⟨l2,x2,b7,Rw⟩:=snoc p2;have Si:(pendingOf dJ).size=l2.length+1:=by
   have:=VY List.length b7;simp at this
   lia
  refine Tq (V6 (Tq (V6 (Tv (q _ #[h2.k,h2.f,h2.pm,?_] ?_)))))
  ·show Rn O ky (arrOf dJ) (((pendingOf dJ).modify ((pendingOf dJ).size-1) _).push (lo,n,0)).toList 0 (lo+n);rw[Array.toList_push,Array.toList_modify,b7,Si];have em:(l2++[x2]).modify (l2.length+1-1) (λ(x:Nat×Nat×Nat)=>(x.1,x.2.1,power' size (2*s1+n1) (2*s1+n1+n1+n) size))=l2++[(x2.1,x2.2.1,power' size (2*s1+n1) (2*s1+n1+n1+n) size)]:=by rw[Nat.add_sub_cancel];exact ji _ _ _
   rw[show (λ(x:Nat×Nat×Nat)=>match x with|(st,len,_)=>(st,len,power' size (2*s1+n1) (2*s1+n1+n1+n) size))=λ(x:Nat×Nat×Nat)=>(x.1,x.2.1,power' size (2*s1+n1) (2*s1+n1+n1+n) size) from rfl,em];have rn:=h2.rn;rw[b7]at rn;refine Rn.app.mpr #[lo,rn.OC rfl rfl,rfl,hn,λi j hi gB hj=>?_,rfl];rw[e2 i hi,e2 j ⋯];exact hu i j hi gB hj
  ·show 1<=(((pendingOf dJ).modify ((pendingOf dJ).size-1) _).push (lo,n,0)).size;rw[Array.size_push]
   lia
 ·have hz:(pendingOf st).size=0:=⋯
  have e:(pendingOf st).back?=y':=by rw[Array.back?_eq_none_iff];exact Ur hz
  rw[e];have N1:lo=0:=h0.resolve_left hp;subst N1;refine Tq (V6 (Tv (q _ #[h.k,h.f,h.pm,?_] ?_)))
  ·show Rn O ky (arrOf st) ((pendingOf st).push (0,n,0)).toList 0 (0+n);rw[Array.toList_push,Ur hz];exact#[rfl,hn,hu,rfl]
  ·show 1<=((pendingOf st).push (0,n,0)).size;rw[Array.size_push]
   lia
theorem Hj(T:Tells prog w A κ s O ky Mem)(hb:∀x∈a.toList,Mem x){mr lo:Nat}{st:SortSt}(h:Ru O ky κ a lo st)(jt:lo<a.size)(hm:1<=mr)(h0:1<=(pendingOf st).size\/lo=0){Q:ForInStep (Option Unit×Nat)->SortSt->Shared->Prop}
  (q:∀ak n,1<=n->lo+n<=a.size->Ru O ky κ a (lo+n) ak->1<=(pendingOf ak).size->Q (.yield (y',lo+n)) ak s):kasC (model prog w) A E (K5 a.size mr lo) Q st s:=by
 unfold K5;rw[V1 ⋯];have jD:=h.size;have ug:∀x∈(arrOf st).toList,Mem x:=λx hx=>hb x (h.pm.mem_iff.mp hx)
 have b0:Bs κ (pendingOf st) lo (arrOf st) st:=#[h.k,h.f,rfl,UR _,λ_ _=>rfl];have QK:∀{ak:SortSt},Bs κ (pendingOf st) lo (arrOf st) ak->Ru O ky κ a lo ak:=λb=>#[b.k,b.f,b.pm.trans h.pm,by rw[b.p];exact h.rn.congr λt _ ht=>b.lw t ht]
 refine Tq (IS T ug b0 (m:=a.size-lo) ⋯ ⋯ λak k b' k1 k2 ku=>?_);dsimp only;by_cases c:k<mr
 ·rw[V2 c];refine Tq (V5 (Wp ?_));refine Tq (IE T ug b' (n:=min (a.size-lo) mr) ⋯ k1 ⋯ ku λdJ b2 u2=>?_);rw[V1 (by simp)];exact xJ T hb (QK b2) ⋯ ⋯ u2 (by rw[b2.p];exact h0) λIl h3 p3=>q Il _ ⋯ ⋯ h3 p3
 ·rw[V1 c];exact xJ T hb (QK b') ⋯ ⋯ ku (by rw[b'.p];exact h0) λIl h3 p3=>q Il _ ⋯ ⋯ h3 p3
theorem JS{P:Array (Nat×Nat×Nat)}(h:1<P.size):ix P+1<P.size:=by
 have key:ix P=P.size-2-1\/ix P=P.size-2:=by
  unfold ix;generalize Option.any _ _=b;cases b
  ·exact .inr rfl
  ·exact .inl rfl
 rcases key with e|e<;>lia
theorem FU(T:Tells prog w A κ s O ky Mem)(hb:∀x∈a.toList,Mem x){st:SortSt}(h:Ru O ky κ a a.size st){Q:Option Unit×Unit->SortSt->Shared->Prop}
  (q:∀ak,Ru O ky κ a a.size ak->(pendingOf ak).size<=1->Q (y',()) ak s):kasC (model prog w) A E (Ml a.size) Q st s:=by
 unfold Ml;have hle:=h.rn.le;simp at hle;refine dm (λx c ak=>c=(y',())/\Ru O ky κ a a.size ak/\(pendingOf ak).size<=max 1 (a.size-x)) #[rfl,h,⋯] (λx c ak _ hx hI=>?_) (λc ak hI=>?_)
 ·obtain⟨rfl,h',hp⟩:=hI;refine Tq (V4 ?_);by_cases c1:(pendingOf ak).size<=1
  ·rw[V2 c1];exact Tv #[rfl,q _ h' c1]
  ·rw[V1 c1];refine Tq (qo T hb h' (Tr _) (JS ⋯) λdJ h2 s2 _=>?_);rw[V1 (by simp)];exact Tv #[rfl,rfl,h2,⋯]
 ·obtain⟨rfl,h',hp⟩:=hI;exact q _ h' ⋯
theorem kN:∀(f n r:Nat),1<=n->1<=minRun' f n r
 |0,n,r,h=>by
  have e:minRun' 0 n r=n+r:=by kernel_rfl
  rw[e];lia
 |f+1,n,r,h=>by
  rw[minRun'_succ];split
  ·lia
  ·exact kN f (n/2) _ ⋯
theorem G1(T:Tells prog w A κ s O ky Mem)(hb:∀x∈a.toList,Mem x)(h2:2<=a.size){g:Nat}{Q:Unit->SortSt->Shared->Prop}
  (q:∀ak:SortSt,failedOf ak=y'->(arrOf ak).toList.Perm a.toList->gR O ky (arrOf ak).toList->Q () ak s):kasC (model prog w) A E sortRuns' Q (SortSt.mk' κ a #[] g y') s:=by
 rw[KB];unfold sR;refine Tq (V4 ?_);have Qy:=kN a.size a.size 0 ⋯;show kasC _ _ _ (do
  let r<-forIn [:a.size] ((y',0):Option Unit×Nat) λ_ r=>K5 a.size (minRun' a.size a.size 0) r.2
  match r.1 with
  |some v=>pure v
  |none=>do
   let r<-Ml a.size
   match r.1 with
   |some v=>pure v
   |none=>pure ()) _ _ _
 generalize minRun' a.size a.size 0=mr at Qy ⊢;refine Tq (bK (Q:=λr ak s'=>s=s'/\r.1=y'/\Ru O ky κ a a.size ak) (dm (λx c ak=>∃lo,c=(y',lo)/\x<=lo/\lo<=a.size/\Ru O ky κ a lo ak/\(1<=(pendingOf ak).size\/lo=0)) #[0,rfl,Tr _,⋯,#[rfl,rfl,UR _,rfl],.inr rfl] (λx c ak _ hx hI=>?_) (λc ak hI=>?_)) (λr ak s' hI=>?_))
 ·obtain⟨lo,rfl,Qp,jt,h,h0⟩:=hI;by_cases c:lo<a.size
  ·exact Hj T hb h c Qy h0 λdJ n n1 n2 h2 p2=>#[rfl,lo+n,rfl,⋯,n2,h2,.inl p2]
  ·have e:lo=a.size:=⋯
   subst e;unfold K5;rw[V2 (Tr _)];exact Tv #[rfl,rfl,rfl,h]
 ·obtain⟨lo,rfl,Qp,jt,h,h0⟩:=hI;have e:lo=a.size:=⋯
  subst e;exact#[rfl,rfl,h]
 ·obtain⟨rfl,e,h⟩:=hI;obtain⟨r1,r2⟩:=r;cases e;refine Tq (FU T hb h λdJ g1 g2=>Tv (q dJ g1.f g1.pm ?_));have rn:=g1.rn
  match hl:(pendingOf dJ).toList,rn with
  |[],rn=>have rn:0=a.size:=rn;lia
  |[x],rn=>obtain⟨_,_,u,e⟩:=rn;have e:0+x.2.1=a.size:=e;exact Up.K4 (g1.size.trans ⋯) u
  |x::y::r,_=>
   exfalso;have:=VY List.length hl;simp at this
   lia
end
end MxTim
end
section
namespace Mx
open PySem PySem.W PySem.Spec PyProof.Rows L2 PySem.SeqAt MxSort
theorem qc{α β:Type}{f:α->β}{l l':List β}(h:l.Perm l'):∀r:List α,l=r.map f->∃p:List α,p.Perm r/\l'=p.map f:=by
 induction h with
 |nil=>intro r e;exact#[r,UR _,e]
 |cons x h ih=>
  intro r e;cases r with
  |nil=>cases e
  |cons y r=>rw[Ul]at e;injection e with e1 e2;obtain⟨p,p1,p2⟩:=ih r e2;exact#[y::p,p1.cons y,by rw[Ul,e1,p2]]
 |swap x y l=>
  intro r e;cases r with
  |nil=>cases e
  |cons a r=>
   cases r with
   |nil=>rw[Ul]at e;injection e with e1 e2;cases e2
   |cons b r=>rw[Ul,Ul]at e;injection e with e1 e2;injection e2 with e3 e4;exact#[b::a::r,List.Perm.swap a b r,by rw[Ul,Ul,e1,e3,e4]]
 |trans h1 h2 ih1 ih2=>intro r e;obtain⟨p,p1,p2⟩:=ih1 r e;obtain⟨q,q1,q2⟩:=ih2 p p2;exact#[q,q1.trans p1,q2]
section
variable{prog:Program}{w:World}{A:Around}{E:Value->Shared->Prop}{s:Shared}
def Ed{O:KeyOrd}(vs:List Value)(key:Nat->O.α):Prop:=∀i j,i<vs.length->j<vs.length->vs.getD i Value.none=vs.getD j Value.none->key i=key j
open Classical in
noncomputable def FG{O:KeyOrd}(vs:List Value)(key:Nat->O.α)(k:Keyed):O.α:=if h:∃i,i<vs.length/\vs.getD i Value.none=k.1 then key (Classical.choose h) else key 0
theorem jI{O:KeyOrd}{vs:List Value}{key:Nat->O.α}(hi:Ed vs key){i:Nat}(h:i<vs.length)(v:Value):FG vs key (vs.getD i Value.none,v)=key i:=by unfold FG;have ex:∃j,j<vs.length/\vs.getD j Value.none=((vs.getD i Value.none,v):Keyed).1:=#[i,h,rfl];rw[dif_pos ex];have z:=Classical.choose_spec ex;exact hi _ _ z.1 h z.2
theorem qG(vs:List Value):(vs.toArray.zip vs.toArray).toList=(List.range vs.length).map λi=>(vs.getD i Value.none,vs.getD i Value.none):=by
 refine List.ext_getElem (by simp) λi h1 h2=>?_
 simp at h1;simp[h1]
theorem GY{κ:SortKind}{vs:List Value}{O:KeyOrd}{key:Nat->O.α}(T:Tells O key (kas_ask prog w A κ vs) vs.length s)(hi:Ed vs key)(h2:2<=vs.length)(Q8:vs.length<1000000){Q:SortSt->Shared->Prop}
  (hG:∀(p:Array Nat)(ak:SortSt),Ord vs.length p->Up key p vs.length->(arrOf ak).map (·.2)=(p.toList.map λi=>vs.getD i Value.none).toArray->failedOf ak=y'->Q ak s):
  wpAny (model prog w) A ((sortRuns').run (SortSt.mk' κ (vs.toArray.zip vs.toArray) #[] 7 y')) (λr s'=>Q r.2 s') E s:=by
 have hz:(vs.toArray.zip vs.toArray).size=vs.length:=by simp
 have T':MxTim.Tells prog w A κ s O (FG vs key) (λk=>∃i,i<vs.length/\k=(vs.getD i Value.none,vs.getD i Value.none)):=by rintro x y ⟨i,A7,rfl⟩ ⟨j,A9,rfl⟩ C hC;rw[jI hi A7,jI hi A9]at hC;exact T i j A7 A9 C hC
 have run:=MxTim.G1 (E:=E) T' (a:=vs.toArray.zip vs.toArray) (λx hx=>by
   rw[qG]at hx;obtain⟨i,i1,i2⟩:=Ub.mp hx;exact#[i,Uq.mp i1,i2.symm]) ⋯ (g:=7) (Q:=λ_ ak s'=>Q ak s') (λak f pm K4=>?_)
 ·exact run
 ·rw[qG]at pm;obtain⟨p,p1,p2⟩:=qc pm.symm (List.range vs.length) rfl;have hl:p.length=vs.length:=by rw[p1.length_eq,U9]
  have cZ:∀i∈p,i<vs.length:=λi hi=>Uq.mp (p1.mem_iff.mp hi)
  refine hG p.toArray ak (by unfold MxSort.Ord;exact p1) (λi j gB hj=>?_) ?_ f
  ·by_cases e:i=j
   ·subst e;exact UN _
   ·unfold MxTim.gR at K4;rw[p2,Vs,Vr]at K4;have z:=K4 i j ⋯ ⋯ ⋯;unfold MxTim.le at z;rw[jI hi (cZ _ (U4 _)),jI hi (cZ _ (U4 _))]at z;unfold Oj;rw[show p.toArray.getD i 0=p[i] by simp[Array.getD,show i<p.length by lia],show p.toArray.getD j 0=p[j] by simp[Array.getD,show j<p.length by lia]];exact z
  ·apply Uv.mp;rw[Array.toList_map,p2,Vg];rfl
theorem Ar{a:Addr}{vs:List Value}{n:Nat}{P:PySem.Fin->Shared->Prop}(ho:s.heap.get? a=U (seqObj "list" vs.toArray n))(Ra:vs.length<1000000){O:KeyOrd}{key:Nat->O.α}
  (hk:2<=vs.length->∀h',(∀b o,b≠a->s.heap.get? b=U o->h'.get? b=U o)->∃κ:SortKind,(∀(Q:SortKind->Shared->Prop)(E:Value->Shared->Prop),Q κ {s with heap:=h'}->wpAny (model prog w) A (keyKind' vs.toArray) Q E {s with heap:=h'})/\
   Tells O key (kas_ask prog w A κ vs) vs.length {s with heap:=h'}/\Ed vs key)
  (h:∀(p:Array Nat)(h':Heap)(e:Nat),Ord vs.length p->Up key p vs.length->(∀b o,b≠a->s.heap.get? b=U o->h'.get? b=U o)->h'.get? a=U (seqObj "list" (p.toList.map λi=>vs.getD i Value.none).toArray e)->
   P (.done (.ret .none)) {s with heap:=h'}):wpAny (model prog w) A (Builtin.«list.sort» #[[.ref a],[]]) P E s:=by
 have ha:a<s.heap.objs.size:=Tx ho;have mh:vs.length<=sizeLine:=by rw[Wc];lia
 rw[list_sort_plain];refine Td (listItems_at ho rfl (Td (listUpdate_at ho rfl ?_ (by rw[Tj];exact mh) (VL _))));obtain⟨e1,Qe⟩:∃e1,(s.heap.update a (Obj.mapSeq λ_=>(#[]:Array Value))).get? a=U (seqObj "list" #[] e1):=#[_,get?_update_seq ho λ_=>#[]];refine Td (seqEpoch_at Qe rfl (Td (wpAny_newTuple ?_ mh)));refine Td (wpAny_newList (Wh ?_) (VL _));show wpAny (model prog w) A _ P E {s with heap:=((s.heap.update a (Obj.mapSeq λ_=>(#[]:Array Value))).push (seqObj "tuple" vs.toArray 0)).push (seqObj "list" #[] 0)};generalize hh:((s.heap.update a (Obj.mapSeq λ_=>(#[]:Array Value))).push (seqObj "tuple" vs.toArray 0)).push (seqObj "list" #[] 0)=h1;have k1:∀b o,b≠a->s.heap.get? b=U o->h1.get? b=U o:=λb o hb e=>by rw[<-hh];exact Tf _ (Tf _ ((T4 s.heap _ (VM hb)).trans e))
 have NS:h1.get? a=U (seqObj "list" #[] e1):=by rw[<-hh];exact Tf _ (Tf _ Qe)
 dsimp only;have fin:∀(ak:SortSt)(p:Array Nat),Ord vs.length p->Up key p vs.length->(arrOf ak).map (·.2)=(p.toList.map λi=>vs.getD i Value.none).toArray->failedOf ak=y'->
   wpAny (model prog w) A (do
    let touched:=(<-seqEpoch a) != e1
    Builtin.List.listUpdate (.ref a) λ_=>(arrOf ak).map (·.2)
    if let U e:=failedOf ak then rule "list.sort.comparison-raised";throw e
    if touched then rule "list.sort.modified";raiseError "ValueError" "list modified during sort"
    ret .none) P E {s with heap:=h1}:=λak p hp hu Ff hf=>by
  refine Td (seqEpoch_at (s:={s with heap:=h1}) NS rfl ?_);have jD:(p.toList.map λi=>vs.getD i Value.none).toArray.size=vs.length:=by rw[Tj,Tw,TR,hp.size]
  rw[Ff];refine Td (listUpdate_at (s:={s with heap:=h1}) NS rfl ?_ (VL _) (by rw[jD];lia));rw[hf];simp only[bne_self_eq_false,UA,V0];obtain⟨c2,lO⟩:∃c2,(h1.update a (Obj.mapSeq λ_=>(p.toList.map λi=>vs.getD i Value.none).toArray)).get? a=U (seqObj "list" (p.toList.map λi=>vs.getD i Value.none).toArray c2):=#[_,get?_update_seq NS λ_=>_];exact Th (h p _ c2 hp hu (λb o hb e=>(T4 h1 _ (VM hb)).trans (k1 b o hb e)) lO)
 by_cases h2:2<=vs.length
 ·have E8:¬vs.toArray.size<2:=by rw[Tj];lia
  rw[V1 E8,V1 E8];obtain⟨κ,RK,T,hi⟩:=hk h2 h1 k1;refine Td (RK _ _ ?_);refine Td (Wi (GY (s:={s with heap:=h1}) (Q:=λak s'=>s'={s with heap:=h1}/\∃p:Array Nat,Ord vs.length p/\Up key p vs.length/\(arrOf ak).map (·.2)=(p.toList.map λi=>vs.getD i Value.none).toArray/\failedOf ak=y') T hi h2 Ra
   (λp ak hp hu ho hf=>#[rfl,p,hp,hu,ho,hf])) ?_ λ_ _ e=>e)
  rintro⟨⟨⟩,ak⟩ s' ⟨rfl,p,hp,hu,Ff,hf⟩;exact fin ak p hp hu Ff hf
 ·have E8:vs.toArray.size<2:=by rw[Tj];lia
  rw[V2 E8,V2 E8];refine Td (Th ?_);rw[StateT.run_pure];refine Td (Th ?_);refine fin (SortSt.mk' general' (vs.toArray.zip vs.toArray) #[] 7 y') (List.range vs.length).toArray (by unfold MxSort.Ord;simp) (λi j gB hj=>?_) ?_ rfl
  ·rw[show i=j by lia];exact UN _
  ·apply Uv.mp;show (((vs.toArray.zip vs.toArray)).map (·.2)).toList=_
   match vs,h2 with
   |[],_=>simp
   |[v],_=>simp
   |_::_::_,h2=>exact absurd (by simp) h2
end
inductive SK where
 |tt|ts|ti|s|i
 deriving DecidableEq
def SK.ok:SK->D->Prop
 |.tt,d=>∃f r,d= .tup (.tup f::r)
 |.ts,d=>∃f r,d= .tup (.str f::r)
 |.ti,d=>∃f r,d= .tup (.int f::r)
 |.s,d=>∃x,d= .str x
 |.i,d=>∃x,d= .int x
def SK.κ:SK->SortKind
 |.tt=>tuples' G'
 |.ts=>tuples' B'
 |.ti=>tuples' B'
 |.s=>oneType'
 |.i=>oneType'
def SK.f:SK->String
 |.tt=>"tuple"
 |.ts=>"str"
 |.s=>"str"
 |_=>"int"
section
variable{P:Program}{w:World}{H:Hp}{prog:Program}{s:Shared}{A:Around}
theorem B5{b:Bool}{n m:Nat}{Q:Bool->Shared->Prop}{v wv:Value}{us vs:List Value}{d e:D}{ds es:List D}(z:Zp G' A s (v::us) (wv::vs) (d::ds) (e::es))
  (hs:b=B'->∀{E:Value->Shared->Prop},wpAny (model prog w) A (oneLt' B' v wv) (λr s'=>r=D.lt d e/\s'=s) E s)
  (hlen:ds.length+m=es.length+n) (q:Q (D.fQ (d::ds) (e::es)) s):KatLex prog w A b (decide (n<m)) Q ((v::us).zip (wv::vs)) 0 s:=by
 cases z with
 |cons he hl z'=>
  rw[Vz];rw[D.d4]at q;refine kat_cons (he prog w _ _ ?_);by_cases hde:d=e
  ·rw[(D.cK d e).mpr hde];rw[V2 hde]at q;exact kat_yes (B4 z' 1 ⋯ hlen q)
  ·rw[show D.gh d e=G' by rw[D.jA];exact T1 hde];rw[V1 hde]at q;refine kat_no ?_;cases b with
   |false=>rw[show (G'&&0==0)=G' by rfl];exact kat_one v wv (hl hde prog w _ _ q)
   |true=>rw[show (B'&&0==0)=B' by rfl];exact Wi (hs rfl) (λr s'#[e1,e2]=>by subst e1 e2;exact q) λ_ _ x=>x
theorem n0(hok:dN P w H s.heap){n:Nat}(hu:A.units+n<cLine){b:Bool}{d0 e0:D}{dr er:List D}{x y:V}{u v:Value}(hd:D.dep (.tup (d0::dr))<=n+1)(hl:D.dG (.tup (d0::dr)) (.tup (e0::er)))
  (hs:b=B'->(∃p q,d0= .str p/\e0= .str q)\/∃p q,d0= .int p/\e0= .int q) (hx:DV H x (.tup (d0::dr))) (hy:DV H y (.tup (e0::er))) (rx:RelV x u) (ry:RelV y v) {Q:Bool->Shared->Prop} {E:Value->Shared->Prop}
  (q:Q (D.lt (.tup (d0::dr)) (.tup (e0::er))) s):wpAny (model prog w) A (keyLt' (tuples' b) u v) Q E s:=by
 obtain⟨a,xs,q1,e1,e2⟩:=hx.aw;subst q1;cases rx;obtain⟨b',ys,q1,f1,f2⟩:=hy.aw;subst q1;cases ry;obtain⟨its,r1,o,ho,hc,k,BS⟩:=aV hok e1;obtain⟨b9,r2,o2,kB,lO,k2,rG⟩:=aV hok f1;obtain⟨x0,xr,rfl,HW,PU⟩:=e2.cons_inv;obtain⟨y0,yr,rfl,PV,Q7⟩:=f2.cons_inv;cases r1 with
 |cons r10 r1r=>
  cases r2 with
  |cons r20 r2r=>
   rename_i u0 ur v0 vr;have rE:D.cF (d0::dr)<=n:=by unfold D.dep at hd;lia
   have uk:D.gj (d0::dr) (e0::er):=by unfold D.dG at hl;exact hl
   have zz:Zp G' A s (u0::ur) (v0::vr) (d0::dr) (e0::er):=AW hok hu (λd e x y u v hd2 b7 BX JL rx2 ry2=>B8 hok n d e x y u v A hd2 hu b7 BX JL rx2 ry2) rE uk e2 f2 (.cons r10 r1r) (.cons r20 r2r);refine kat_lt ho BS kB rG ?_;have l1:(u0::ur).toArray.size=(d0::dr).length:=by rw[Tj,TN,TN,<-r1r.length,PU.length]
   have l2:(v0::vr).toArray.size=(e0::er).length:=by rw[Tj,TN,TN,<-r2r.length,Q7.length]
   have q':Q (D.fQ (d0::dr) (e0::er)) s:=by have z:=q;unfold D.lt at z;exact z
   refine B5 zz (λhb=>?_) (by rw[l1,l2];simp only[TN];lia) q';intro E';rcases hs hb with ⟨p,q2,rfl,rfl⟩|⟨p,q2,rfl,rfl⟩
   ·have z1:=HW.str_inv;have z2:=PV.str_inv;subst z1 z2;obtain⟨t,rfl⟩:=r10;obtain⟨t',rfl⟩:=r20;exact oneLt_str #[by unfold D.lt;rfl,rfl]
   ·have z1:=HW.int_inv;have z2:=PV.int_inv;subst z1 z2;obtain⟨t,rfl⟩:=r10;obtain⟨t',rfl⟩:=r20;exact oneLt_int #[by unfold D.lt;rfl,rfl]
theorem mv(x y:Value):keyLt' oneType' x y=oneLt' B' x y:=rfl
theorem B6(hok:dN P w H s.heap){n:Nat}(hu:A.units+n<cLine)(k:SK){d e:D}{x y:V}{u v:Value}(hd:D.dep d<=n+1)(hl:D.dG d e)(fd:k.ok d)(fe:k.ok e)(hx:DV H x d)(hy:DV H y e)(rx:RelV x u)(ry:RelV y v){Q:Bool->Shared->Prop}{E:Value->Shared->Prop}
  (q:Q (D.lt d e) s):wpAny (model prog w) A (keyLt' k.κ u v) Q E s:=by
 cases k with
 |tt=>obtain⟨f,r,rfl⟩:=fd;obtain⟨f',r',rfl⟩:=fe;exact n0 (b:=G') hok hu hd hl (λz=>nomatch z) hx hy rx ry q
 |ts=>obtain⟨f,r,rfl⟩:=fd;obtain⟨f',r',rfl⟩:=fe;exact n0 hok hu hd hl (λ_=>.inl #[_,_,rfl,rfl]) hx hy rx ry q
 |ti=>obtain⟨f,r,rfl⟩:=fd;obtain⟨f',r',rfl⟩:=fe;exact n0 hok hu hd hl (λ_=>.inr #[_,_,rfl,rfl]) hx hy rx ry q
 |s=>obtain⟨f,rfl⟩:=fd;obtain⟨f',rfl⟩:=fe;have z1:=hx.str_inv;have z2:=hy.str_inv;subst z1 z2;obtain⟨t,rfl⟩:=rx;obtain⟨t',rfl⟩:=ry;show wpAny _ _ (keyLt' oneType' _ _) _ _ _;rw[mv];unfold D.lt at q;exact oneLt_str q
 |i=>obtain⟨f,rfl⟩:=fd;obtain⟨f',rfl⟩:=fe;have z1:=hx.int_inv;have z2:=hy.int_inv;subst z1 z2;obtain⟨t,rfl⟩:=rx;obtain⟨t',rfl⟩:=ry;show wpAny _ _ (keyLt' oneType' _ _) _ _ _;rw[mv];unfold D.lt at q;exact oneLt_int q
theorem uH(hok:dN P w H s.heap){k:SK}(hk:k= .tt\/k= .ts\/k= .ti):∀{xs:List V}{us:List Value}{ds:List D},bf H xs ds->ay xs us->(∀d∈ds,k.ok d)->
  ∃fs,KatTups s.heap us fs/\fs.length=us.length/\∀v∈fs,Looks (model prog w) s.heap (typeOf v) (.type k.f)
 |[],us,ds,_,r,_=>by cases r;exact#[[],KatTups.nil,rfl,λv hv=>absurd hv (by simp)]
 |x::xs,us,ds,h,r,hf=>by
  cases r with
  |cons r0 rr=>
   cases ds with
   |nil=>unfold bf at h;exact h.elim
   |cons d ds=>
    unfold bf at h;obtain⟨fs,t,l,lk⟩:=uH hok hk h.2 rr λd hd=>hf d (Tp _ hd)
    have sh:∃d0 dr,d= .tup (d0::dr)/\((k= .ts/\∃p,d0= .str p)\/(k= .ti/\∃p,d0= .int p)\/(k= .tt/\∃p,d0= .tup p)):=by
     have z:=hf d Tt;rcases hk with rfl|rfl|rfl
     ·obtain⟨f,r,rfl⟩:=z;exact#[_,_,rfl,.inr (.inr #[rfl,_,rfl])]
     ·obtain⟨f,r,rfl⟩:=z;exact#[_,_,rfl,.inl #[rfl,_,rfl]]
     ·obtain⟨f,r,rfl⟩:=z;exact#[_,_,rfl,.inr (.inl #[rfl,_,rfl])]
    obtain⟨d0,dr,rfl,xo⟩:=sh;obtain⟨a,ys,q1,e1,e2⟩:=h.1.aw;subst q1;cases r0;obtain⟨its,r1,o,ho,hc,kk,BS⟩:=aV hok e1;obtain⟨x0,xr,rfl,HW,PU⟩:=e2.cons_inv;cases r1 with
    |cons r10 r1r=>
     rename_i u0 ur;refine#[u0::fs,KatTups.cons ho hc BS (by simp) t,by simp[l],λv hv=>?_];rcases TC.mp hv with rfl|hv
     ·rcases xo with ⟨hb,p,rfl⟩|⟨hb,p,rfl⟩|⟨hb,p,rfl⟩
      ·have z1:=HW.str_inv;subst z1;obtain⟨t',rfl⟩:=r10;rw[hb];exact Looks.of_pure rfl
      ·have z1:=HW.int_inv;subst z1;obtain⟨t',rfl⟩:=r10;rw[hb];exact Looks.of_pure rfl
      ·obtain⟨a2,y2,q2,g1,g2⟩:=HW.aw;subst q2;cases r10;obtain⟨b9,_,o2,kB,lO,_⟩:=aV hok g1;rw[hb];show Looks (model prog w) _ _ (Value.type "tuple");rw[<-lO];exact(Looks.ld kB).andThen .now
     ·exact lk v hv
theorem vz:∀{xs:List V}{us:List Value}{ds:List D},bf H xs ds->ay xs us->(∀d∈ds,SK.s.ok d)->∃ss,StrsAre us ss
 |[],us,ds,_,r,_=>by cases r;exact#[[],.nil]
 |x::xs,us,ds,h,r,hf=>by
  cases r with
  |cons r0 rr=>
   cases ds with
   |nil=>unfold bf at h;exact h.elim
   |cons d ds=>
    unfold bf at h;obtain⟨ss,q⟩:=vz h.2 rr λd hd=>hf d (Tp _ hd)
    obtain⟨y,rfl⟩:=hf d Tt;have z1:=h.1.str_inv;subst z1;obtain⟨t,rfl⟩:=r0;exact#[y::ss,.cons y t q]
theorem uz:∀{xs:List V}{us:List Value}{ds:List D},bf H xs ds->ay xs us->(∀d∈ds,SK.i.ok d)->∃ss,IntsAre us ss
 |[],us,ds,_,r,_=>by cases r;exact#[[],.nil]
 |x::xs,us,ds,h,r,hf=>by
  cases r with
  |cons r0 rr=>
   cases ds with
   |nil=>unfold bf at h;exact h.elim
   |cons d ds=>
    unfold bf at h;obtain⟨ss,q⟩:=uz h.2 rr λd hd=>hf d (Tp _ hd)
    obtain⟨y,rfl⟩:=hf d Tt;have z1:=h.1.int_inv;subst z1;obtain⟨t,rfl⟩:=r0;exact#[y::ss,.cons y t q]
theorem JV(hok:dN P w H s.heap)(k:SK){xs:List V}{us:List Value}{ds:List D}(hd:bf H xs ds)(r:ay xs us)(hf:∀d∈ds,k.ok d)(h2:2<=us.length){Q:SortKind->Shared->Prop}{E:Value->Shared->Prop}(q:Q k.κ s):
  wpAny (model prog w) A (keyKind' us.toArray) Q E s:=by
 have tup:k= .tt\/k= .ts\/k= .ti->wpAny (model prog w) A (keyKind' us.toArray) Q E s:=λhk=>by obtain⟨fs,t,l,lk⟩:=uH (prog:=prog) hok hk hd r hf;refine kat_kind t ⋯ lk (by rcases hk with rfl|rfl|rfl<;>rfl) ?_;rcases hk with rfl|rfl|rfl<;>exact q
 cases k with
 |tt=>exact tup (.inl rfl)
 |ts=>exact tup (.inr (.inl rfl))
 |ti=>exact tup (.inr (.inr rfl))
 |s=>
  obtain⟨ss,hs⟩:=vz hd r hf
  match us,h2,hs with
  |v1::v2::vs,_,hs=>rw[keyKind_strs hs];exact Th q
 |i=>
  obtain⟨ss,hs⟩:=uz hd r hf
  match us,h2,hs with
  |v1::v2::vs,_,hs=>rw[keyKind_ints hs];exact Th q
end
def jU(ds:List D):Prop:=ds.length<1000000/\(2<=ds.length->D.cF ds<=100/\(∃k:SK,∀d∈ds,k.ok d)/\∀d∈ds,∀e∈ds,D.dG d e)
section
variable{X:Cx}{J':List (Addr×Obj)}{σ:L2.St}{H:Hp}
theorem wU{s:Shared}{A:Around}{Q:PySem.Fin->Shared->Prop}{E:Value->Shared->Prop}(hu:A.units+148<cLine)(I:Inv X J' σ H s){ys:List V}{its:List Value}{ds:List D}(rv:ay ys its)(xq:bf H ys ds)(hc:jU ds)
  (q:∀(l:Addr)(zs:List V)(es:List D)(s':Shared),H l=y'->bf H zs es->jX ds es->Inv X J' σ (upd H l (.lst zs)) s'->Q (.done (.ret (.ref l))) s'):
  wpAny (model X.prog X.w) A (do let l<-newList its;let _<-holding [l] (call (.builtin "list.sort") [l] []);ret l) Q E s:=by
 obtain⟨hlen,hc⟩:=hc;have hl:=rv.length;have b7:=xq.length;have mh:its.length<=sizeLine:=by rw[Wc];lia
 refine Td (wpAny_newList ?_ (by simpa using mh));have Me:(s.heap.push (seqObj "list" its.toArray 0)).get? s.heap.objs.size=U (seqObj "list" its.toArray 0):=Tu _ rfl;show wpAny _ _ _ _ _ {s with heap:=s.heap.push (seqObj "list" its.toArray 0)};have ne:∀b o,s.heap.get? b=U o->b≠s.heap.objs.size:=λb o e=>T7 (Tx e)
 refine Td (Wh (Wf slot_list_sort (s:={s with heap:=s.heap.push (seqObj "list" its.toArray 0)}) #[_,Me,rfl] entry_list_sort
  (Ar (s:={s with heap:=s.heap.push (seqObj "list" its.toArray 0)}) (O:=IX) (key:=λi=>ds.getD i (.int 0)) Me ⋯ (λh2 h' kk=>?_) λp h' e hp JI kk hD=>?_) (args_list_sort _)))
 ·obtain⟨Rz,⟨k,hf⟩,Bc⟩:=hc ⋯;have BU:dN X.prog X.w H h':=I.hok.kept λb o e=>kk b o (ne b o e) (Tf _ e)
  refine#[k.κ,λQ' E' q'=>JV (s:={s with heap:=h'}) BU k xq rv hf ⋯ q',λi j hi hj C hC=>?_,λi j hi hj eij=>?_]
  ·obtain⟨di,Jd,LY⟩:=xq.get (i:=i) (x:=ys[i]'⋯) (by simp);obtain⟨dj,LZ,Nv⟩:=xq.get (i:=j) (x:=ys[j]'⋯) (by simp);obtain⟨ui,Oa,OP⟩:=rv.get (i:=i) (x:=ys[i]'⋯) (by simp);obtain⟨uj,Ob,OQ⟩:=rv.get (i:=j) (x:=ys[j]'⋯) (by simp);unfold kas_ask;rw[show its.getD i Value.none=ui by simp[Oa],show its.getD j Value.none=uj by simp[Ob]];have ki:ds.getD i (.int 0)=di:=by simp[Jd]
   have kj:ds.getD j (.int 0)=dj:=by simp[LZ]
   have mi:di∈ds:=Vl Jd;have mj:dj∈ds:=Vl LZ;refine B6 (s:={s with heap:=h'}) BU (n:=100) (by show A.units+1+100<cLine;lia) k (Tz (nI Jd) ⋯) (Bc di mi dj mj) (hf di mi) (hf dj mj) LY Nv OP OQ ?_;have PX:C (D.lt (ds.getD i (.int 0)) (ds.getD j (.int 0))) {s with heap:=h'}:=hC;rw[ki,kj]at PX;exact PX
  ·obtain⟨di,Jd,LY⟩:=xq.get (i:=i) (x:=ys[i]'⋯) (by simp);obtain⟨dj,LZ,Nv⟩:=xq.get (i:=j) (x:=ys[j]'⋯) (by simp);obtain⟨ui,Oa,OP⟩:=rv.get (i:=i) (x:=ys[i]'⋯) (by simp);obtain⟨uj,Ob,OQ⟩:=rv.get (i:=j) (x:=ys[j]'⋯) (by simp);rw[show its.getD i Value.none=ui by simp[Oa],show its.getD j Value.none=uj by simp[Ob]]at eij;subst eij;have ki:ds.getD i (.int 0)=di:=by simp[Jd]
   have kj:ds.getD j (.int 0)=dj:=by simp[LZ]
   show ds.getD i (.int 0)=ds.getD j (.int 0);rw[ki,kj];rw[OP.inj OQ]at LY;exact LY.inj Nv
 ·refine#[_,rfl,Th ?_];have pX:p.toList.Perm (List.range its.length):=hp;have A8:∀i∈p.toList,i<ys.length:=λi hi=>by
   have:=Uq.mp (pX.mem_iff.mp hi)
   lia
  have new:bR X.prog X.w (upd H s.heap.objs.size (.lst (p.toList.map λi=>ys.getD i .aE))) h' s.heap.objs.size (.lst (p.toList.map λi=>ys.getD i .aE)):=
   #[by rw[Tw,pX.length_eq,U9];rw[Wc];lia,_,e,qC rv A8,hD]
  have I2:=I.laid (t':=s.toks) (a:=s.heap.objs.size) (λb o q=>kk b o (ne b o q) (Tf _ q)) (Tr _) new;refine q _ _ (p.toList.map λi=>ds.getD i (.int 0)) _ (I.hok.fresh (Tr _)) (xq.map A8) #[?_,?_] I2
  ·have e1:=pX.map (λi=>ds.getD i (.int 0));rw[show its.length=ds.length by lia]at e1;rw[kM]at e1;exact e1
  ·have Oc:∀i j,i<=j->j<its.length->D.lt (ds.getD (p.getD j 0) (.int 0)) (ds.getD (p.getD i 0) (.int 0))=G':=JI;have jD:p.toList.length=its.length:=by rw[pX.length_eq,U9]
   rw[Vs,Vr];intro i j hi hj gB;have:=Oc i j ⋯ ⋯;rw[show p.getD i 0=p.toList[i] by simp at hi;simp[Array.getD,hi],show p.getD j 0=p.toList[j] by simp at hj;simp[Array.getD,hj]]at this;exact this
end
def GR(K:PySem.W.Frag):List V->Hp->VK->Prop:=λxs H Q=>∃a ys ds,xs=[.ref a]/\(du K H a ys\/dO K H a ys)/\bf H ys ds/\jU ds/\∀l zs es,H l=y'->bf H zs es->jX ds es->Q (.ref l) (upd H l (.lst zs))
theorem nv{X:Cx}(hu:X.A.units+150<cLine):dy X (.builtin "sorted") (GR X.K):=by
 intro J' s σ H xs us Q I r h;obtain⟨a,ys,ds,rfl,hq,xq,hc,q⟩:=h;obtain⟨u,rfl,ru⟩:=r.one;cases ru;have sh:∃(its:List Value)(T:String)(o:Obj)(n:Nat),ay ys its/\(T="list"\/T="tuple")/\s.heap.get? a=U o/\o.cls= .type T/\o.data= .seq its.toArray n:=by
  rcases hq with hq|hq
  ·obtain⟨its,rv,⟨o,n,ho,hc,_,hd⟩,_⟩:=I.list hq;exact#[its,"list",o,n,rv,.inl rfl,ho,hc,hd]
  ·obtain⟨its,rv,⟨o,ho,hc,n,hd⟩,_⟩:=I.tuple hq;exact#[its,"tuple",o,n,rv,.inr rfl,ho,hc,hd]
 obtain⟨its,T,o,n,rv,hT,ho,vW,hd⟩:=sh;have mh:its.length<=sizeLine:=by rw[Wc,<-rv.length,xq.length];have:=hc.1;lia
 refine Calls.call_function_entry kind_sorted plain_sorted entry_sorted (args_sorted1 _) ?_;unfold Builtin.«sorted»;refine Td (m:=checkCount "sorted" 1 1 _) (Th (Td (wpAny_collect_seq a hT ho vW hd (λh1 k1=>?_) (by rw[Tj];exact mh))));have I1:Inv X J' σ H {s with heap:=h1}:=I.kept (t':=s.toks) k1;exact wU (A:=X.A.in1) (by show X.A.units+1+148<cLine;lia) I1 rv xq hc λl zs es s' hl hz hso I2=>#[_,rfl,.ref l,_,I2,rfl,q l zs es hl hz hso]
end Mx
end
section
namespace Mx
open PySem PySem.W PySem.Spec PyProof.Rows L2 HT
open PySem.AutoSeq1 (wpAny_loadPart')
theorem tuple_addW0(l b:Addr)(items fA:Array Value)(n n2:Nat)(dd A2:Option Addr)(sl xx:Array (Option Value))(SW:items.isEmpty=B'):
  Meets (Builtin.«tuple.__add__» #[[.ref l,.ref b],[]]) (λ_ R s=>s.heap.get? l=U {cls:=.type "tuple",dict:=dd,data:=.seq items n,slots:=sl}/\s.heap.get? b=U {cls:=.type "tuple",dict:=A2,data:=.seq fA n2,slots:=xx}/\R (.ok (.ret (Value.ref b))) s):=
 .of_wp λprog w A R s h=>by
  obtain⟨hp,g,d,tk,os⟩:=s;obtain⟨hl,hb,h⟩:=h;have f2:=sub_tuple_tuple
  wp_walk using wpAny_loadPart' hl,wpAny_loadPart' hb
  exact#[_,rfl,h]
theorem zd{α:Type}(pre:List α)(x:α):o7 (pre++[x]).length (-1)=U pre.length:=by
 unfold o7;rw[V1 (by decide),V2 (by simp;lia)];simp
 lia
theorem xN{α:Type}(pre:List α)(x:α):nh (pre++[x]) (-1)=U x:=by unfold nh;rw[zd];simp
end Mx
end
section
namespace L2
open PySem PySem.Spec PyProof.Rows
def gL(e:Expr)(d:Nat)(it acc:Value)(env:Env)(target:Expr)(ifs:List Expr)(p:Pos)(body:Sem Unit):Sem PySem.Fin:=do
 standAt p
 match<-pyNext it with
 |none=>pure (.done .next)
 |some v=>
  letOwnedTupleGo target it v
  assign target env v
  let mut ok:=B'
  for c in ifs do
   if ok then ok<-isTrue c env (eval c env)
  if ok then body
  again (.compLoop e d it acc env)
theorem nC{prog:Program}{w:World}{A:Around}{R:Result->Shared->Prop}{s:Shared}{elt target:Expr}{gens:List Comprehension}{scope:Scope}{pos:Pos}{d:Nat}{ifs:List Expr}{p:Pos}{it acc:Value}{env:Env}{body:Sem Unit}(heq:compTurn (.ListComp elt gens scope pos) d it acc env=gL (.ListComp elt gens scope pos) d it acc env target ifs p body){EE:Value->Shared->Prop}
  (Jn:∀x s',EE x s'->notedBy (model prog w) A env (λx s'=>R (.error x) s') x s') (I:Nat->Shared->Prop)
  (turn:∀n s,I n s->wpAny (model prog w) A (pyNext it) (λr s₁=>match r with
   |none=>R (.ok .next) s₁
   |some v=>wpAny (model prog w) A (letOwnedTupleGo target it v) (λ_ s₁'=>wpAny (model prog w) A (assign target env v) (λ_ s₂=>
     wpAny (model prog w) A (forIn ifs B' λc r=>if r=B' then do let ok<-isTrue c env (eval c env);pure (ForInStep.yield ok) else pure (ForInStep.yield r)) (λok s₃=>
      if ok=B' then wpAny (model prog w) A body (λ_ s₄=>∃m,m<n/\I m s₄) EE s₃
      else∃m,m<n/\I m s₃) EE s₂) EE s₁') EE s₁) EE s)
  (n:Nat) (h:I n s):codeAny (model prog w) A (.compLoop (.ListComp elt gens scope pos) d it acc env) R s:=by
 refine codeAny_loop rfl I (λn s hI=>?_) n h;show wpAny _ A ((compTurn (.ListComp elt gens scope pos) d it acc env).onRaise (λx=>do noteFrame x env;theTreesLotGoes x)) _ _ s;refine wpAny_noted ?_;rw[heq];unfold gL;refine Td (Wr (Td (Wi (turn n s hI) (λr s₁ h₁=>?_) Jn)));cases r with
 |none=>exact Th h₁
 |some v=>
  refine Td (Wi h₁ (λ_ s₁' h₁'=>?_) Jn);refine Td (Wi h₁' (λ_ s₂ h₂=>Td (Wi h₂ (λok s₃ h₃=>?_) Jn)) Jn);cases ok with
  |false=>exact Th #[rfl,h₃]
  |true=>exact Td (Wi h₃ (λ_ s₄ h₄=>Th #[rfl,h₄]) Jn)
def kh(elt:Expr)(acc:Value)(env:Env):Sem Unit:=do let _<-call (.builtin "list.append") [acc,<-eval elt env]
theorem qA(elt target iter:Expr)(ifs:List Expr)(scope:Scope)(pos:Pos)(it acc:Value)(env:Env):
  compTurn (.ListComp elt [#[target,iter,ifs,0]] scope pos) 0 it acc env=gL (.ListComp elt [#[target,iter,ifs,0]] scope pos) 0 it acc env target ifs iter.pos (kh elt acc env):=by rfl
def Le(σ σ2:St):Prop:=σ2.length=σ.length/\∀(j:Nat)(v:V),σ[j]?=U (U v)->σ2[j]?=U (U v)
theorem Le.refl(σ:St):Le σ σ:=#[rfl,λ_ _ h=>h]
def GL(σ0:St)(g:TG):Prop:=∀x σ H(Q:St->Hp->Prop),Le σ0 σ->g x σ H Q->g x σ H λσ2 H2=>Le σ0 σ2/\Q σ2 H2
def LD(σ0:St)(g:xg):Prop:=∀x σ H(Q:St->Hp->Prop),Le σ0 σ->g x σ H Q->g x σ H λσ2 H2=>Le σ0 σ2/\Q σ2 H2
theorem Le.set{k:Nat}{σ0 σ:St}{v:Option V}(h:σ0[k]?=U y')(q:Le σ0 σ):Le σ0 (σ.set k v):=#[by simpa using q.1,λj w hj=>by
 rw[TL (by rintro rfl;rw[h]at hj;cases hj)];exact q.2 j w hj]
theorem BL{σ0:St}{k:Nat}(h:σ0[k]?=U y'):GL σ0 (eY k):=λx σ H Q p q=>#[p.set h,q]
theorem BM{σ0:St}:LD σ0 EY:=λx σ H Q p q=>#[q.1,p,q.2]
theorem yO{σ0:St}{k:Nat}{u:xg}(h:σ0[k]?=U y')(hu:LD σ0 u):LD σ0 (yF (eY k) u):=λx σ H Q p q=>by obtain⟨v,r,e,q⟩:=q;exact#[v,r,e,hu r _ H Q (p.set h) q]
theorem Inv.le{X:Cx}{J':List (Addr×Obj)}{σ σ2:St}{H:Hp}{s:Shared}(I:Inv X J' σ2 H s)(h:Le σ σ2):Inv X J' σ H s:=I.weak h.1.symm h.2
abbrev TB:=St->Hp->(Hp->Prop)->Prop
def PB(X:Cx)(body:Sem Unit)(tb:TB):Prop:=∀(J':List (Addr×Obj))(s:Shared)(σ:St)(H:Hp)(Q:Hp->Prop),Inv X J' σ H s->tb σ H Q->wpAny (model X.prog X.w) X.A body (λ_ s'=>∃H',Inv X J' σ H' s'/\Q H') X.xe s
def tG(J:It)(g:TG)(tt:TT)(tb:TB)(σ0:St)(F:Hp->Prop)(H1:Hp):Prop:=
 ∃W:Nat->Nat->Hp->Prop,(∃m,W 0 m H1)/\∀i m H,W i m H->
  (J.stop i H/\F H)\/(J.go i H/\∀x H',J.yld i H x H'->g x σ0 H' λσ2 H2=>tt σ2 H2 λb H3=>if b=B' then tb σ2 H3 λH4=>∃m',m'<m/\W (i+1) m' H4 else∃m',m'<m/\W (i+1) m' H3)
section
variable{X:Cx}{g:TG}{tt:TT}{tb:TB}
theorem vQ(hc:X.calm=B'){elt target:Expr}{gens:List Comprehension}{scope:Scope}{pos:Pos}{d:Nat}{ifs:List Expr}{p:Pos}{acc:Value}{body:Sem Unit}{R:Result->Shared->Prop}{J':List (Addr×Obj)}{σ0:St}{H0:Hp}{s0:Shared}{it:Addr}{fp:List Addr}{tn:Nat->Heap->Prop}{J:It}{F:Hp->Prop}
  (heq:compTurn (.ListComp elt gens scope pos) d (.ref it) acc X.env=gL (.ListComp elt gens scope pos) d (.ref it) acc X.env target ifs p body) (hx:∀x s',X.xe x s'->notedBy (model X.prog X.w) X.A X.env (λx s'=>R (.error x) s') x s')
  (hg:PG X target g) (me:GL σ0 g) (ht:Eh X ifs tt) (hb:PB X body tb) (I0:Inv X J' σ0 H0 s0) (T:Turn X.prog X.w X.K target J fp it tn) (de:tn 0 s0.heap) (f0:∀b∈fp,gq X J' H0 b)
  (hW:tG J g tt tb σ0 F H0) (fin:∀s' H',Inv X J' σ0 H' s'->F H'->R (.ok .next) s'):codeAny (model X.prog X.w) X.A (.compLoop (.ListComp elt gens scope pos) d (.ref it) acc X.env) R s0:=by
 obtain⟨W,⟨m0,w0⟩,turn⟩:=hW;have oP:∀{H':Hp},(∀b∈fp,H' b=y')->∀b∈fp,gq X J' H' b:=λhn b hb=>#[hn b hb,(f0 b hb).2]
 refine nC heq hx (λn s'=>∃i H',Inv X J' σ0 H' s'/\tn i s'.heap/\(∀b∈fp,H' b=y')/\W i n H') ?_ m0 #[0,H0,I0,de,λb hb=>(f0 b hb).1,w0];rintro n s4 ⟨i,H4,I4,QF,PP,w4⟩;rcases turn i n H4 w4 with ⟨stop,qn⟩|⟨go,step⟩
 ·refine bt (T.done X rfl rfl rfl hc i J' s4 _ H4 X.xe I4 (oP PP) QF stop) λr s5#[hr,I5]=>?_
  subst hr;exact fin s5 H4 I5 qn
 ·refine bt (T.item X rfl rfl rfl hc i J' s4 _ H4 X.xe I4 (oP PP) QF go) λr s5#[u,hr,h5]=>?_
  subst hr;refine bt h5 λ_ s6#[x,H6,I6,r6,y6,O0,Q5]=>?_
  have QS:=I6.pinned (oP Q5) (T.obj _ _ O0);have again:∀{s7:Shared}{σ7:St}{H7:Hp}{m7:Nat},Inv X (J'++kX fp s6.heap) σ7 H7 s7->Le σ0 σ7->m7<n->W (i+1) m7 H7->
    ∃m,m<n/\∃i H',Inv X J' σ0 H' s7/\tn i s7.heap/\(∀b∈fp,H' b=y')/\W i m H':=λ {s7 σ7 H7 m7} I7 hσ hm w7=>by
   refine#[m7,hm,i+1,H7,I7.iN.le hσ,T.keep _ _ _ O0 λb hb o e=>(I7.pin (b,o) (T8 _ (T8 _ (eJ hb e)))).1,λb hb=>?_,w7];obtain⟨o,e,d⟩:=T.obj _ _ O0 b hb;exact(I7.pin (b,o) (T8 _ (T8 _ (eJ hb e)))).2.1
  refine bt (hg _ s6 _ H6 x u _ QS r6 (me x _ H6 _ (Le.refl _) (step x H6 y6))) λ_ s7#[σ7,H7,I7,Qu,q7]=>?_
  refine bt (ht _ s7 σ7 H7 _ I7 q7) λb s8#[H8,I8,q8]=>?_
  cases b with
  |false=>rw[V1 (by simp)]at q8 ⊢;obtain⟨m',hm,w8⟩:=q8;exact again I8 Qu hm w8
  |true=>
   rw[V2 rfl]at q8 ⊢;refine bt (hb _ s8 σ7 H8 _ I8 q8) λ_ s9#[H9,I9,m',hm,w9]=>?_
   exact again I9 Qu hm w9
def AA(D:Addr)(te:TE):TB:=λσ H Q=>te σ H λv H4=>∃jY,H4 D=U (.lst jY)/\jY.length<sizeLine/\Q (upd H4 D (.lst (jY++[v])))
theorem uX{elt:Expr}{te:TE}{D:Addr}(he:PE X elt te):PB X (kh elt (.ref D) X.env) (AA D te):=by intro J' s σ H Q I h;unfold kh;refine Td (bt (he J' s σ H _ I h) λy s9#[v,H9,I9,r9,jY,Re,hz,q]=>?_);refine Td (bt (mB _ s9 σ H9 (.ref D) [v] (.ref D) [y] (λ_ H'=>H'=upd H9 D (.lst (jY++[v]))) I9 rfl (.cons r9 .nil) #[D,jY,v,rfl,rfl,Re,hz,rfl]) λ_ s10#[_,SF,QQ,_,QZ]=>?_);subst QZ;exact Th #[_,QQ,q]
end
theorem fM{x:Str}{c:Addr}:∀(names:List (Str×NameKind))(n:Nat)(acc:List (Str×Addr)),(cellsFrom n names acc).lookup x=U c->(n<=c/\(x,NameKind.cell)∈names)\/acc.lookup x=U c
 |[],n,acc,h=>.inr h
 |(y,k)::r,n,acc,h=>by
  unfold cellsFrom at h;by_cases hk:(k==NameKind.cell)=B'
  ·rw[V2 hk]at h;rcases fM r (n+1) _ h with ⟨h1,h2⟩|h1
   ·exact .inl #[Tz (VD _) h1,Tp _ h2]
   ·rw[T2]at h1;cases hb:x==y with
    |true=>
     rw[hb]at h1;cases h1;have:x=y:=by simpa using hb
     subst this;have:k=NameKind.cell:=by simpa using hk
     subst this;exact .inl #[Tr _,Tt]
    |false=>rw[hb]at h1;exact .inr h1
  ·rw[V1 hk]at h;rcases fM r n _ h with ⟨h1,h2⟩|h1
   ·exact .inl #[h1,Tp _ h2]
   ·exact .inr h1
theorem qX{x y:Str}{c:Addr}:∀(names:List (Str×NameKind))(n:Nat)(acc:List (Str×Addr)),(∀x c,acc.lookup x=U c->c<n)->(∀x y c,acc.lookup x=U c->acc.lookup y=U c->x=y)->
  (cellsFrom n names acc).lookup x=U c->(cellsFrom n names acc).lookup y=U c->x=y
 |[],n,acc,h1,h2,hx,hy=>h2 x y c hx hy
 |(z,k)::r,n,acc,h1,h2,hx,hy=>by
  unfold cellsFrom at hx hy;by_cases hk:(k==NameKind.cell)=B'
  ·rw[V2 hk]at hx hy;refine qX r (n+1) _ (λa b gN=>?_) (λa b e ha hb=>?_) hx hy
   ·rw[T2]at gN;cases hq:a==z with
    |true=>rw[hq]at gN;cases gN;exact VG _
    |false=>rw[hq]at gN;exact VF (h1 a b gN)
   ·rw[T2]at ha hb;cases hq:a==z with
    |true=>
     rw[hq]at ha;cases ha;cases Fh:b==z with
     |true=>
      have e1:a=z:=by simpa using hq
      have e2:b=z:=by simpa using Fh
      rw[e1,e2]
     |false=>rw[Fh]at hb;exact absurd (h1 b _ hb) (VE _)
    |false=>
     rw[hq]at ha;cases Fh:b==z with
     |true=>rw[Fh]at hb;cases hb;exact absurd (h1 a _ ha) (VE _)
     |false=>rw[Fh]at hb;exact h2 a b e ha hb
  ·rw[V1 hk]at hx hy;exact qX r n acc h1 h2 hx hy
theorem nz{x:Str}{c:Addr}:∀(names:List (Str×NameKind))(n:Nat)(acc:List (Str×Addr)),(x,NameKind.cell)∉names->acc.lookup x=U c->(cellsFrom n names acc).lookup x=U c
 |[],n,acc,_,h=>h
 |(z,k)::r,n,acc,hn,h=>by
  unfold cellsFrom;by_cases hk:(k==NameKind.cell)=B'
  ·rw[V2 hk];refine nz r (n+1) _ (λz'=>hn (Tp _ z')) ?_;rw[T2];have:(x==z)=G':=by
    cases hq:x==z with
    |false=>rfl
    |true=>
     have e1:x=z:=by simpa using hq
     have e2:k=NameKind.cell:=by simpa using hk
     subst e1 e2;exact absurd Tt hn
   rw[this];exact h
  ·rw[V1 hk];exact nz r n acc (λz'=>hn (Tp _ z')) h
theorem j7{x:Str}{c:Addr}:∀(names:List (Str×NameKind))(h:Heap)(acc:List (Str×Addr)),(∀x c,acc.lookup x=U c->∃v,h.IsCell c v)->(cellsFrom h.objs.size names acc).lookup x=U c->∃v,(pushCells h names).IsCell c v
 |[],h,acc,ha,hx=>ha x c hx
 |(z,k)::r,h,acc,ha,hx=>by
  unfold cellsFrom at hx;unfold pushCells;by_cases hk:(k==NameKind.cell)=B'
  ·rw[V2 hk]at hx ⊢;refine j7 r _ ((z,h.objs.size)::acc) (λa b gN=>?_) (by rw[T6];exact hx);rw[T2]at gN;cases hq:a==z with
   |true=>rw[hq]at gN;cases gN;exact#[y',_,Tu _ rfl,rfl]
   |false=>rw[hq]at gN;obtain⟨v,o,ho,hd⟩:=ha a b gN;exact#[v,o,Tf _ ho,hd]
  ·rw[V1 hk]at hx ⊢;exact j7 r h acc ha hx
theorem qD{M:Model}{A:Around}{E:Value->Shared->Prop}{s:Shared}{scope:Scope}{globals:Addr}{cl:List (Str×Addr)}{qual:Str}{out:Env}{Q:Env->Shared->Prop}
  (hQ:∀h',h'=pushCells (s.heap.push {cls:=.type "dict",data:=.dict #[]}) scope.names->Q (newEnv scope s.heap.objs.size globals (cellsFrom (s.heap.objs.size+1) scope.names cl) qual y' .none (U out) builtinsNs) {s with heap:=h'}):
  wpAny M A (newFunctionEnv scope globals cl [] qual y' .none (U out)) Q E s:=by
 simp only[newFunctionEnv,Option.isSome_some,V3];refine Td (wpAny_alloc ?_);refine Td (wpAny_layCells _ (λname kind cells=>by cases hkc:kind==NameKind.cell<;>simp[hkc]) _ _ _ _ ?_);rw[show ({s with heap:=s.heap.push {cls:=.type "dict",data:=.dict #[]}}:Shared).heap.objs.size=s.heap.objs.size+1 from T6 ..];rw[List.forIn_nil];exact Td (Th (Th (hQ _ rfl)))
def fZ(X:Cx)(scope:Scope)(N':List Str)(C:Addr)(s:Shared)(H:Hp)(fp:List Addr)(xe:Value->Shared->Prop):Cx:=
 {X with N:=N',s₀:=s,H₀:=H,env:=compEnvC scope (cellsFrom (C+1) scope.names (fj scope X.env)) C X.env,outer:=X.stack,stack:=X.stack,ex:=fp,fn:=λx=>scope.names.lookup x==U .cell,pn:=[],xe:=xe}
structure ft(X:Cx)(scope:Scope)(N':List Str)(cap:List (Option Nat)):Prop where
 kind:scope.kind= .function
 nd:∀y∈scope.names,scope.names.lookup y.1=U y.2
 free:∀y∈scope.names,y.2= .free->X.env.scope.names.lookup y.1=U .cell\/X.env.scope.names.lookup y.1=U .free
 vO:∀(j i:Nat),cap[j]?=U (U i)->∃x,N'[j]?=U x/\X.N[i]?=U x/\scope.names.lookup x=U .free
 len:cap.length=N'.length
section
variable{X:Cx}{scope:Scope}{N':List Str}{cap:List (Option Nat)}{J':List (Addr×Obj)}{σ:St}{H:Hp}{s:Shared}
theorem ft.frees(B:ft X scope N' cap)(ok:X.Ok):∀y∈scope.names,y.2= .free->∃c,X.env.cells.lookup y.1=U c:=λy hy hf=>ok.has y.1 (B.free y hy hf)
theorem ft.up(B:ft X scope N' cap)(ok:X.Ok){x:Str}{c:Addr}(h:(fj scope X.env).lookup x=U c):X.env.cells.lookup x=U c:=
 jf scope.names [] (B.frees ok) (λ_ z=>by simp at z) h
theorem ft.p8(B:ft X scope N' cap){x:Str}(h:scope.names.lookup x=U .free):(x,NameKind.cell)∉scope.names:=λz=>by have:=B.nd _ z;rw[h]at this;cases this
theorem qV{xe:Value->Shared->Prop}(B:ft X scope N' cap)(I:Inv X J' σ H s){fp:List Addr}{tk:Nat}(hf:∀b∈fp,gq X J' H b)(cZ:∀b∈fp,b<s.heap.objs.size):
  Inv (fZ X scope N' s.heap.objs.size s H fp xe) [] (cL cap σ) H {s with heap:=pushCells (s.heap.push {cls:=.type "dict",data:=.dict #[]}) scope.names,toks:=tk}:=by
 have ok:=I.ok;have hz:(s.heap.push {cls:=.type "dict",data:=.dict #[]}).objs.size=s.heap.objs.size+1:=T6 ..;have hk:∀b o,s.heap.get? b=U o->(pushCells (s.heap.push {cls:=.type "dict",data:=.dict #[]}) scope.names).get? b=U o:=λb o e=>Wb _ _ _ _ (Tf _ e)
 have JE:(pushCells (s.heap.push {cls:=.type "dict",data:=.dict #[]}) scope.names).Ns s.heap.objs.size λ_=>y':=(Heap.Ns.new s.heap (.type "dict")).keeps (Wb _ _)
 have QX:∀x c,(fj scope X.env).lookup x=U c->c<s.heap.objs.size:=λx c h=>by obtain⟨v,z⟩:=I.cell x c (B.up ok h);exact z.lt
 have yc:∀x c,(cellsFrom (s.heap.objs.size+1) scope.names (fj scope X.env)).lookup x=U c->(s.heap.objs.size+1<=c/\(x,NameKind.cell)∈scope.names)\/X.env.cells.lookup x=U c:=λx c h=>(fM _ _ _ h).imp id (B.up ok)
 have rN:∀x,scope.names.lookup x=U .free->(compEnvC scope (cellsFrom (s.heap.objs.size+1) scope.names (fj scope X.env)) s.heap.objs.size X.env).kindOf x=U .cell\/(compEnvC scope (cellsFrom (s.heap.objs.size+1) scope.names (fj scope X.env)) s.heap.objs.size X.env).kindOf x=U .free:=λx hx=>by
  have q:=aS (env:=X.env) hx;by_cases hc:(NameKind.free==NameKind.free&&X.env.scope.kind== .function&&X.env.kindOf x==U .cell)=B'
  ·rw[V2 hc]at q;exact .inl q
  ·rw[V1 hc]at q;exact .inr q
 refine#[#[ok.mod,?kind,ok.glob,ok.blt,Tr _,?inj,?has,?A0,ok.hd,ok.frames,.inl rfl,?DD,I.bs,Tz ok.AZ I.sz,?lP,?nL,I.stack,I.oR],
  rfl,I.bare,Un.kept hk,#[_,JE,?loc],?cell,I.hok.fresh (Tr _),?cz,?pin,I.hok.kept hk,?len]
 case kind=>exact B.kind
 case inj=>exact λx y c h1 h2=>qX _ _ _ (λx c h=>VF (QX x c h)) (λx y c h1 h2=>ok.inj x y c (B.up ok h1) (B.up ok h2)) h1 h2
 case has=>
  intro x hx;cases hl:scope.names.lookup x with
  |none=>
   have q:=bP (env:=X.env) hl;exact absurd hx (by
    have q':(compEnvC scope (cellsFrom (s.heap.objs.size+1) scope.names (fj scope X.env)) s.heap.objs.size X.env).kindOf x=y':=q;show¬((compEnvC scope (cellsFrom (s.heap.objs.size+1) scope.names (fj scope X.env)) s.heap.objs.size X.env).kindOf x=U .cell\/(compEnvC scope (cellsFrom (s.heap.objs.size+1) scope.names (fj scope X.env)) s.heap.objs.size X.env).kindOf x=U .free);rw[q'];simp)
  |some k=>
   have q:(compEnvC scope (cellsFrom (s.heap.objs.size+1) scope.names (fj scope X.env)) s.heap.objs.size X.env).kindOf x=U (if (k==NameKind.free&&X.env.scope.kind== .function&&X.env.kindOf x==U .cell) then NameKind.cell else k):=aS (env:=X.env) hl;have hm:=VV hl;by_cases E5:k= .free
   ·subst E5;obtain⟨c,vW⟩:=j8 (env:=X.env) scope.names [] (.inl hm);exact#[c,nz _ _ _ (B.p8 hl) vW]
   ·have hb:(k==NameKind.free)=G':=by simpa using E5
    have zb:(compEnvC scope (cellsFrom (s.heap.objs.size+1) scope.names (fj scope X.env)) s.heap.objs.size X.env).kindOf x=U .cell\/(compEnvC scope (cellsFrom (s.heap.objs.size+1) scope.names (fj scope X.env)) s.heap.objs.size X.env).kindOf x=U .free:=hx;rw[q,hb]at zb;simp only[Bool.false_and,UA,V0,Option.some.injEq]at zb;rcases zb with z|z
    ·subst z;exact Option.isSome_iff_exists.mp (VT scope.names _ _ (.inl hl))
    ·exact absurd z E5
 case A0=>
  intro x c yX h;have yX:(scope.names.lookup x==U .cell)=B':=yX;rcases fM _ _ _ h with ⟨h1,_⟩|h1
  ·exact Tz (VD _) h1
  ·exfalso;have e:=TY yX;have:∀(l:List (Str×NameKind))(cs:List (Str×Addr)),(∀c,cs.lookup x≠U c)->(∀y∈l,y.1=x->y.2≠ .free)->(nB X.env l cs).lookup x=y':=by
    intro l
    induction l with
    |nil=>
     intro cs xm _;cases hq:cs.lookup x with
     |none=>exact hq
     |some c=>exact absurd hq (xm c)
    |cons y l ih=>
     intro cs xm hl;obtain⟨n,k⟩:=y;show (nB X.env l (if (k==NameKind.free)=B' then(n,(X.env.cells.lookup n).getD 0)::cs else cs)).lookup x=y';refine ih _ (λc=>?_) λy hy=>hl y (Tp _ hy)
     by_cases hk:(k==NameKind.free)=B'
     ·rw[V2 hk,T2];have:(x==n)=G':=by
       cases hq:x==n with
       |false=>rfl
       |true=>
        have e1:x=n:=by simpa using hq
        have e2:k=NameKind.free:=by simpa using hk
        exact absurd e2 (hl (n,k) Tt e1.symm)
      rw[this];exact xm c
     ·rw[V1 hk];exact xm c
   have q:=this scope.names [] (λc z=>by simp at z) λy hy e1 e2=>by have:=B.nd y hy;rw[e1,e2,e]at this;cases this
   unfold fj at h1;rw[q]at h1;cases h1
 case DD=>
  intro b hb;refine#[T7 (cZ b hb),λx c e=>?_];rcases yc x c e with ⟨h1,_⟩|h1
  ·intro z;subst z;exact absurd (TU (cZ c hb) (Tz (VD _) h1)) (VE _)
  ·exact(hf b hb).2.2.2.2.1 x c h1
 case lP=>
  intro b o e hb;rcases (hf b hb).2.2.2.1 with z|z
  ·exact ok.lP b o e z
  ·exact absurd (TU (Tx (ok.bs b o e).1) z) (VE _)
 case nL=>
  intro b hb hs;rcases TC.mp (I.lu b hs)with z|z
  ·exact(hf b hb).2.1 z
  ·exact(hf b hb).2.2.1 z
 case loc=>
  intro j x v h1 h2 h3;have hj:∃i,cap[j]?=U (U i)/\(σ[i]?).join=U v:=by
   unfold cL at h2;rw[TQ]at h2;cases hc:cap[j]? with
   |none=>rw[hc]at h2;cases h2
   |some o=>
    rw[hc]at h2;cases o with
    |none=>cases h2
    |some i=>exact#[i,rfl,by simpa using h2]
  obtain⟨i,hc,hv⟩:=hj;obtain⟨x',e1,e2,e3⟩:=B.vO j i hc;have ex:x'=x:=by have Nr:N'[j]?=U x:=h1;rw[Nr]at e1;injection e1 with e1;exact e1.symm
  subst ex;have Sd:σ[i]?=U (U v):=by
   cases q:σ[i]? with
   |none=>rw[q]at hv;cases hv
   |some o=>rw[q]at hv;cases o with
    |none=>cases hv
    |some z=>simp at hv;rw[hv]
  have JK:=B.free _ (VV e3) rfl;obtain⟨m,hn,hl⟩:=I.loc;obtain⟨u,r,l⟩:=hl i x' v e2 Sd (.inr JK);refine#[u,r,?_];obtain⟨c,vW⟩:=j8 (env:=X.env) scope.names [] (.inl (VV e3));have P5:=B.up ok vW;rcases l with ⟨k,_⟩|⟨k,c',e,z⟩
  ·exfalso;have k':X.env.scope.names.lookup x'=U .local:=k;rcases JK with q|q
   ·rw[k']at q;cases q
   ·rw[k']at q;cases q
  ·have Q0:c'=c:=by rw[e]at P5;injection P5
   subst Q0;exact .inr #[rN x' e3,c',nz _ _ _ (B.p8 e3) vW,by obtain⟨o,ho,hd⟩:=z;exact#[o,hk _ _ ho,hd]]
 case cell=>intro x c e;refine j7 scope.names (s.heap.push {cls:=.type "dict",data:=.dict #[]}) (fj scope X.env) (λa b gN=>?_) (by rw[hz];exact e);obtain⟨v,o,ho,hd⟩:=I.cell a b (B.up ok gN);exact#[v,o,Tf _ ho,hd]
 case cz=>
  intro x c e;rcases yc x c e with ⟨h1,_⟩|h1
  ·exact I.hok.fresh (Tz (VD _) h1)
  ·exact I.cz x c h1
 case pin=>intro p hp;cases hp
 case len=>show (cL cap σ).length=N'.length;unfold cL;rw[Tw];exact B.len
def Do(X:Cx)(C:Addr)(x:Value)(s':Shared):Prop:=∃m,s'.heap.Ns C m/\∀h',Heap.SameBut C s'.heap h'->∀vP:Env,vP.locals=C->wpAny (model X.prog X.w) X.A (passOn "comprehension.variables-let-go" x vP:Sem Value) (λ_ _=>False) X.xe {s' with heap:=h'}
structure Bl(X:Cx)(scope:Scope)(N':List Str)(xb:Addr->Shared->Hp->List Addr->Value->Shared->Prop):Prop where
 note:∀(J':List (Addr×Obj))(σ:St)(C:Addr)(s s1:Shared)(H H1:Hp)(fp:List Addr)x s',Inv X J' σ H1 s1->(∀b∈fp,gq X J' H1 b)->s1.heap.objs.size<C->s={s1 with heap:=s1.heap.push {cls:=.type "list",data:=.seq ([]:List Value).toArray},toks:=s1.toks}->H=upd H1 s1.heap.objs.size (.lst [])->C=s.heap.objs.size->
  xb C s H fp x s'->notedBy (model X.prog X.w) X.A (fZ X scope N' C s H fp (xb C s H fp)).env (Do X C) x s'
variable{elt tg iter:Expr}{ifs:List Expr}{pos:Pos}{g:TG}{tt:TT}
theorem l8{gens:List Comprehension}{xb:Addr->Shared->Hp->List Addr->Value->Shared->Prop}{J':List (Addr×Obj)}{σ:St}{H2:Hp}{s2:Shared}{it:Addr}{fp:List Addr}{tn:Nat->Heap->Prop}{J:It}{F:Hp->Prop}{tb:Addr->TB}{body:Value->Env->Sem Unit}{p:Pos}{RR:Value->Addr->Result->Shared->Prop}(hc:X.calm=B')(B:ft X scope N' cap)(hX:Bl X scope N' xb)
  (heq:∀rM acc env,compTurn (.ListComp elt (#[tg,iter,ifs,0]::gens) scope pos) 0 rM acc env=gL (.ListComp elt (#[tg,iter,ifs,0]::gens) scope pos) 0 rM acc env tg ifs p (body acc env))
  (me:GL (cL cap σ) g) (hg:∀C s H fp,PG (fZ X scope N' C s H fp (xb C s H fp)) tg g) (ht:∀C s H fp,Eh (fZ X scope N' C s H fp (xb C s H fp)) ifs tt) (hb:∀C s H fp D,PB (fZ X scope N' C s H fp (xb C s H fp)) (body (.ref D) (fZ X scope N' C s H fp (xb C s H fp)).env) (tb D))
  (I2:Inv X J' σ H2 s2) (T:Turn X.prog X.w X.K tg J fp it tn) (dJ:tn 0 s2.heap) (f2:∀b∈fp,gq X J' H2 b) (hF:tG J g tt (tb s2.heap.objs.size) (cL cap σ) F (upd H2 s2.heap.objs.size (.lst [])))
  (Rl:∀C s' H' m,s2.heap.objs.size<C->Inv X J' σ H' s'->s'.heap.Ns C m->gq X J' H' C->F H'->RR (.ref s2.heap.objs.size) C (.ok .next) s') (P0:∀C x s',Do X C x s'->RR (.ref s2.heap.objs.size) C (.error x) s') {E:Value->Shared->Prop}:
  wpAny (model X.prog X.w) X.A (newList []) (λacc s₃=>wpAny (model X.prog X.w) X.A (newFunctionEnv scope X.env.globals (fj scope X.env) [] X.env.qual y' .none (U X.env)) (λvP s₄=>
   codeAny (model X.prog X.w) X.A (.compStart (.ListComp elt (#[tg,iter,ifs,0]::gens) scope pos) 0 (.ref it) acc {vP with scope:=relabel scope X.env}) (RR acc vP.locals) s₄) E s₃) E s2:=by
 refine Wj (qD λh₁ hh₁=>?_);have I3:=I2.J0 (ys:=[]) (its:=[]) (t':=s2.toks) .nil (VL _);dsimp only at hh₁ ⊢;have hC:(s2.heap.push {cls:=.type "list",data:=.seq ([]:List Value).toArray}).objs.size=s2.heap.objs.size+1:=T6 ..;generalize hD:s2.heap.objs.size=D at *;have A5:∀b∈fp,b<D:=λb hb=>by obtain⟨o,e,_⟩:=T.obj 0 _ dJ b hb;rw[<-hD];exact Tx e
 have f3:∀b∈fp,gq X J' (upd H2 D (.lst [])) b:=λb hb=>#[by rw[aG (T7 (A5 b hb))];exact(f2 b hb).1,(f2 b hb).2]
 generalize Fj:({s2 with heap:=s2.heap.push {cls:=.type "list",data:=.seq ([]:List Value).toArray},toks:=s2.toks}:Shared)=s3 at I3;have za:s3.heap=s2.heap.push {cls:=.type "list",data:=.seq ([]:List Value).toArray}:=by rw[<-Fj]
 have DF:s3.heap.objs.size=D+1:=by rw[za];exact hC
 have IB:=qV (xe:=xb s3.heap.objs.size s3 (upd H2 D (.lst [])) fp) (tk:=s2.toks) B I3 f3 (λb hb=>by rw[DF];exact VF (A5 b hb));have hk:∀b o,s3.heap.get? b=U o->(pushCells (s3.heap.push {cls:=.type "dict",data:=.dict #[]}) scope.names).get? b=U o:=λb o e=>Wb _ _ _ _ (Tf _ e)
 rw[<-za]at hh₁;rw[<-hh₁]at IB hk;have e4:({s3 with heap:=h₁,toks:=s2.toks}:Shared)={s2 with heap:=h₁}:=by rw[<-Fj]
 rw[e4]at IB;rw[hC];have oP:∀{H':Hp},(∀b∈fp,H' b=y')->∀b∈fp,gq (fZ X scope N' s3.heap.objs.size s3 (upd H2 D (.lst [])) fp (xb s3.heap.objs.size s3 (upd H2 D (.lst [])) fp)) [] H' b:=λhn b hb=>
  #[hn b hb,by show b≠s3.heap.objs.size;rw[DF];exact T7 (VF (A5 b hb)),λz=>(by
   rcases TC.mp (I3.lu b z)with q|q
   ·exact(f3 b hb).2.1 q
   ·exact(f3 b hb).2.2.1 q),.inl hb,(IB.ok.DD b hb).2,λp hp=>absurd hp (by intro z;cases z)]
 have loop:∀s':Shared,s'={s2 with heap:=h₁}->codeAny (model X.prog X.w) X.A (.compLoop (.ListComp elt (#[tg,iter,ifs,0]::gens) scope pos) 0 (.ref it) (.ref D) (fZ X scope N' s3.heap.objs.size s3 (upd H2 D (.lst [])) fp (xb s3.heap.objs.size s3 (upd H2 D (.lst [])) fp)).env)
   (RR (.ref D) (D+1)) s':=by
  rintro s' rfl;refine vQ (X:=fZ X scope N' s3.heap.objs.size s3 (upd H2 D (.lst [])) fp (xb s3.heap.objs.size s3 (upd H2 D (.lst [])) fp)) hc (heq _ _ _) (λx s' q=>?_) (hg _ _ _ _) me (ht _ _ _ _) (hb _ _ _ _ D) IB T (T.keep _ _ _ dJ (λb hb o e=>hk b o (by rw[za];exact Tf _ e))) (oP λb hb=>(f3 b hb).1) hF λs5 H5 I5 qn=>?_
  ·have z:=hX.note J' σ s3.heap.objs.size s3 s2 (upd H2 D (.lst [])) H2 fp x s' I2 f2 (by rw[DF,hD];exact VG _) Fj.symm (by rw[hD]) rfl q;rw[DF]at z;exact Wi z (λ_ s'' w=>P0 (D+1) x s'' w) λy s'' w=>P0 (D+1) y s'' w
  ·obtain⟨m5,JD,_⟩:=I5.loc;have un:Un (eD X.stack) fp H2 H5 s2.heap s5.heap:=by
    have u1:Un (eD X.stack) fp H2 (upd H2 D (.lst [])) s2.heap s3.heap:=by rw[za];exact Un.laid (λb u e=>Tf _ e) (by rw[hD];exact Tr _) (by rw[<-hD];exact I2.fresh)
    exact u1.trans I5.base
   have hI:Inv X J' σ H5 s5:=I2.xZ (ch:=fp) (I5.os.trans (by show s3.os=s2.os;rw[<-Fj])) un I5.hok I5.bare λb hb=>#[(f2 b hb).2.2.2.1,(f2 b hb).2.1,(f2 b hb).2.2.2.2.1,(f2 b hb).2.2.2.2.2]
   have y9:s5.heap.Ns (D+1) m5:=by have q:s5.heap.Ns s3.heap.objs.size m5:=JD;rw[DF]at q;exact q
   have Nz:H5 (D+1)=y':=by have q:H5 s3.heap.objs.size=y':=I5.free;rw[DF]at q;exact q
   exact Rl (D+1) s5 H5 m5 (VG _) hI y9 (I2.nS (by rw[hD];exact VD _) Nz) qn
 have Nu:({newEnv scope (D+1) X.env.globals (cellsFrom (D+1+1) scope.names (fj scope X.env)) X.env.qual y' .none (U X.env) builtinsNs with scope:=relabel scope X.env}:Env)=(fZ X scope N' s3.heap.objs.size s3 (upd H2 D (.lst [])) fp (xb s3.heap.objs.size s3 (upd H2 D (.lst [])) fp)).env:=by unfold fZ;rw[DF];rfl
 have go:=codeAny_compStart_list (loop _ rfl) (T.self X.A 0 _ _ _ (T.keep _ _ _ dJ (λb hb o e=>hk b o (by rw[za];exact Tf _ e))) (loop _ rfl));rw[<-Nu]at go;exact go
end
def sU(cap:List (Option Nat))(wi:TI)(g:TG)(tt:TT)(tb:Addr->TB):TE:=λσ H Q=>wi σ H λJ H1=>∀D,H1 D=y'->GL (cL cap σ) g/\tG J g tt (tb D) (cL cap σ) (λH'=>Q (.ref D) H') (upd H1 D (.lst []))
section
variable{X:Cx}{scope:Scope}{N':List Str}{cap:List (Option Nat)}{elt tg iter:Expr}{ifs:List Expr}{gens:List Comprehension}{pos p:Pos}{wi:TI}{g:TG}{tt:TT}{tb:Addr->TB}{body:Value->Env->Sem Unit}{xb:Addr->Shared->Hp->List Addr->Value->Shared->Prop}
theorem zJ(hc:X.calm=B')(B:ft X scope N' cap)(hX:Bl X scope N' xb)(hi:PI X tg iter wi)(heq:∀rM acc env,compTurn (.ListComp elt (#[tg,iter,ifs,0]::gens) scope pos) 0 rM acc env=gL (.ListComp elt (#[tg,iter,ifs,0]::gens) scope pos) 0 rM acc env tg ifs p (body acc env))
  (hg:∀C s H fp,PG (fZ X scope N' C s H fp (xb C s H fp)) tg g) (ht:∀C s H fp,Eh (fZ X scope N' C s H fp (xb C s H fp)) ifs tt) (hb:∀C s H fp D,PB (fZ X scope N' C s H fp (xb C s H fp)) (body (.ref D) (fZ X scope N' C s H fp (xb C s H fp)).env) (tb D))
  (hs:∀x,foldedSetIterable iter X.env x=pure x:=by intro _;rfl):PE X (.ListComp elt (#[tg,iter,ifs,0]::gens) scope pos) (sU cap wi g tt tb):=by
 intro J' s σ H Q I h;rw[eval_ListComp];refine wpAny_comprehension_free (use:=y') rfl hs (gf (B.frees I.ok)) B.kind (λy hy e=>by rw[B.nd y hy,e]) (bt (hi J' s σ H _ I h) λx s₁ h₁=>bt h₁ λrM s₂ h₂=>?_);obtain⟨it,fp,tn,J,H2,e,I2,T,dJ,f2,hF⟩:=h₂;subst e;obtain⟨me,hW⟩:=hF _ I2.fresh;refine l8 (RR:=λacc C=>compPost (model X.prog X.w) X.A X.xe y' (EP X J' σ Q) acc C) hc B hX heq me hg ht hb I2 T dJ f2 hW (λC s' H' m hC I' hn fC q=>?_) λC x s' z=>z
 refine#[m,hn,λh' hsb=>#[.ref _,H',I'.turned (t':=s'.toks) (λb o hb e=>(hsb.2 b hb).trans e) fC.1 fC.2.1 fC.2.2.2.1 fC.2.2.2.2.1 fC.2.2.2.2.2,rfl,q]]
theorem qe{i:Nat}{x:Str}{pos' K3:Pos}(hc:X.calm=B')(hN:X.N.Nodup)(A7:X.N[i]?=U x)(hx:X.env.kindOf x=U .local)(B:ft X scope N' cap)(hX:Bl X scope N' xb)(hi:PI X tg iter wi)(heq:∀rM acc env,compTurn (.ListComp elt (#[tg,iter,ifs,0]::gens) scope pos) 0 rM acc env=gL (.ListComp elt (#[tg,iter,ifs,0]::gens) scope pos) 0 rM acc env tg ifs p (body acc env))
  (hg:∀C s H fp,PG (fZ X scope N' C s H fp (xb C s H fp)) tg g) (ht:∀C s H fp,Eh (fZ X scope N' C s H fp (xb C s H fp)) ifs tt) (hb:∀C s H fp D,PB (fZ X scope N' C s H fp (xb C s H fp)) (body (.ref D) (fZ X scope N' C s H fp (xb C s H fp)).env) (tb D))
  (hs:∀x,foldedSetIterable iter X.env x=pure x:=by intro _;rfl)
  (Ig:swapsWith (.ListComp elt (#[tg,iter,ifs,0]::gens) scope pos) (U (.Name x pos')) K3.line X.env=pure B':=by rfl):
  PS X (.Assign [.Name x pos'] (.ListComp elt (#[tg,iter,ifs,0]::gens) scope pos) K3) (oS (sU cap wi g tt tb) (eY i)):=by
 intro J' s σ H D I h;rw[exec_Assign_Name_used _ _ _ _ Ig];refine Td (Wr (Td ?_));show wpAny _ X.A (do let _<-comprehension (.ListComp elt (#[tg,iter,ifs,0]::gens) scope pos) scope X.env _ (newList []) G' (eval iter X.env) (U (assign (.Name x pos') X.env))) _ _ s;refine Td (Wi (wpAny_comprehension_free (use:=U (assign (.Name x pos') X.env)) (Q:=λ_ s'=>SP X J' D .next s') rfl hs (gf (B.frees I.ok)) B.kind (λy hy e=>by rw[B.nd y hy,e]) (bt (hi J' s σ H _ I h) λx s₁ h₁=>bt h₁ λrM s₂ h₂=>?_))
  (λ_ s' hq=>Th (Th hq)) λ_ _ e=>e)
 obtain⟨it,fp,tn,J,H2,e,I2,T,dJ,f2,hF⟩:=h₂;subst e;obtain⟨me,hW⟩:=hF _ I2.fresh;refine l8 (RR:=λacc C=>compPost (model X.prog X.w) X.A X.xe (U (assign (.Name _ pos') X.env)) (λ_ s'=>SP X J' D .next s') acc C) hc B hX heq me hg ht hb I2 T dJ f2 hW (λC s' H' m hC I' hn fC q=>?_) λC x s' z=>z
 show wpAny _ X.A (assign (.Name _ pos') X.env (.ref _)) _ _ _;refine wpAny_assign_Name (mK (v:=.ref _) I' hN A7 (.inl hx) rfl (λs3 I3 hsb=>?_) (.inr hx));obtain⟨a,sb,ha⟩:=hsb;have Rc:C≠a:=by
  rcases ha with rfl|ha
  ·exact fC.2.1
  ·exact VM (fC.2.2.2.2.1 _ a ha)
 refine#[m,hn.sameBut sb Rc,λh' hsb'=>?_];exact#[_,H',I3.turned (t':=s3.toks) (λb o hb e=>(hsb'.2 b hb).trans e) fC.1 fC.2.1 fC.2.2.2.1 fC.2.2.2.2.1 fC.2.2.2.2.2,q]
end
end L2
end
section
namespace Mx
open PySem
structure Dd(s s':Heap):Prop where
 sz:s.objs.size<=s'.objs.size
 none:∀b,b<s.objs.size->s.get? b=y'->s'.get? b=y'
theorem Dd.refl(h:Heap):Dd h h:=#[Tr _,λ_ _ z=>z]
theorem Dd.trans{a b c:Heap}(x:Dd a b)(y:Dd b c):Dd a c:=#[Tz x.sz y.sz,λk hk z=>y.none k (TU hk x.sz) (x.none k hk z)]
theorem Dd.push(h:Heap)(o:Obj):Dd h (h.push o):=#[by rw[T6];exact VD _,λb hb z=>by
 cases hq:(h.push o).get? b with
 |none=>rfl
 |some o'=>
  obtain⟨q1,q2⟩:=Heap.get?_some_iff.mp hq;have q3:h.objs[b]?=U o':=by have e:(h.objs.push o)[b]?=U o':=q1;rw[Array.getElem?_push,V1 (T7 hb)]at e;exact e
  rw[Heap.get?_some_iff.mpr #[q3,q2]]at z;cases z]
theorem Dd.update(h:Heap)(a:Addr)(f:Obj->Obj)(ha:(h.get? a).isSome):Dd h (h.update a f):=#[by rw[Heap.size_after_update];exact Tr _,λb hb z=>by
 by_cases e:a=b
 ·subst e;rw[z]at ha;cases ha
 ·rw[T4 _ _ e];exact z]
theorem oK{M:Model}{Γ:Ctx}{p:Pos}{t:Sem PySem.Fin}{fs:List Frame}{s s':Shared}{e:End}(h:Runs M Γ p t fs s e s'):Dd s.heap s'.heap:=by
 induction h with
 |update ha _ ih=>exact(Dd.update _ _ _ ha).trans ih
 |alloc _ ih=>exact(Dd.push _ _).trans ih
 |done=>exact Dd.refl _
 |raise=>exact Dd.refl _
 |yield=>exact Dd.refl _
 |call _ _ ih1 ih2=>exact ih1.trans ih2
 |resumeFresh _ _ _ _ ih1 ih2=>exact Dd.trans (b:=_) ih1 ih2
 |resumeSuspended _ _ _ _ ih1 ih2=>exact Dd.trans (b:=_) ih1 ih2
 |segRet _ _ ih1 ih2=>exact ih1.trans ih2
 |segGen _ _ ih1 ih2=>exact Dd.trans (b:=_) ih1 ih2
 |segSuspGen _ _ _ _ ih1 ih2=>exact Dd.trans (b:=_) ih1 ih2
 |_=>assumption
theorem AK{M:Model}{Γ:Ctx}{p:Pos}{g:Nat}{r:Resume}{s s':Shared}{res:GenResult}(h:Wakes M Γ p g r s res s'):Dd s.heap s'.heap:=by
 unfold Wakes at h;split at h
 ·exact h.elim
 ·split at h
  ·obtain⟨e₁,s₁,hr,_,_,rfl⟩:=h;exact(oK hr:Dd (s.setGen g .running).heap s₁.heap)
  ·rw[h.2];exact Dd.refl _
  ·rw[h.2];exact Dd.refl _
 ·obtain⟨e₁,s₁,hr,_,_,rfl⟩:=h;exact(oK hr:Dd (s.setGen g .running).heap s₁.heap)
 ·rw[h.2];exact Dd.refl _
 ·rw[h.2];exact Dd.refl _
theorem Lm{α:Type}(M:Model)(Γ:Ctx)(h0:Heap)(t:Sem α):∀(Q:α->Pos->Shared->Prop)(E:Value->Pos->Shared->Prop)(p:Pos)(s:Shared),Dd h0 s.heap->Sem.wp M Γ t Q E p s->
  Sem.wp M Γ t (λa p' s'=>Dd h0 s'.heap/\Q a p' s') (λe p' s'=>Dd h0 s'.heap/\E e p' s') p s:=by
 induction t with
 |pure a=>intro Q E p s hn h;exact#[hn,h]
 |raise e=>intro Q E p s hn h;exact#[hn,h]
 |unsupported _=>intro Q E p s _ h;exact h
 |finish _=>intro Q E p s _ h;exact h
 |rule _ k ih=>intro Q E p s hn h;exact ih () Q E p s hn h
 |«at» p' k ih=>intro Q E p s hn h;exact ih () Q E p' s hn h
 |load a _ k ih=>intro Q E p s hn h;obtain⟨o,ho,h⟩:=h;exact#[o,ho,ih o Q E p s hn h]
 |update a _ f k ih=>intro Q E p s hn h;exact#[h.1,ih () Q E p _ (hn.trans (Dd.update _ _ _ h.1)) h.2]
 |loadIfAlive a k ih=>intro Q E p s hn h;exact ih _ Q E p s hn h
 |point _ k ih=>intro Q E p s hn h;exact ih () Q E p s hn h
 |register _ _=>intro Q E p s _ h;exact h
 |alloc o k ih=>intro Q E p s hn h;exact ih _ Q E p _ (hn.trans (Dd.push _ _)) h
 |fresh k ih=>intro Q E p s hn h;exact ih _ Q E p _ hn h
 |ask k ih=>intro Q E p s hn h;exact ih _ Q E p s hn h
 |choose src m k ih=>intro Q E p s hn h;exact#[h.1,ih _ Q E p _ hn h.2]
 |os q _ k ih=>intro Q E p s hn h;exact ih _ Q E p _ hn h
 |call c hd _ _ k ih=>intro Q E p s hn h;obtain⟨r,s',hr,h⟩:=h;exact#[r,s',hr,ih r Q E p s' (hn.trans (oK hr)) h]
 |handled own k ih=>intro Q E p s hn h;exact ih _ Q E p s hn h
 |genState g k ih=>intro Q E p s hn h;obtain⟨st,hs,h⟩:=h;exact#[st,hs,ih _ Q E p s hn h]
 |newGen c k ih=>intro Q E p s hn h;exact ih _ Q E p _ hn h
 |resume g r _ k ih=>intro Q E p s hn h;obtain⟨res,s',hw,h⟩:=h;exact#[res,s',hw,ih res Q E p s' (hn.trans (AK hw)) h]
 |yield _ _ _ _=>intro Q E p s _ h;exact h
 |stack k ih=>intro Q E p s hn h;exact ih _ Q E p s hn h
 |fork _ _=>intro Q E p s _ h;exact h
 |thread k ih=>intro Q E p s hn h;exact ih _ Q E p s hn h
 |await _ _ _ _ _=>intro Q E p s _ h;exact h
theorem lT{α:Type}{M:Model}{A:Around}{s:Shared}{t:Sem α}{Q:α->Shared->Prop}{E:Value->Shared->Prop}(h:wpAny M A t (λa s'=>Dd s.heap s'.heap->Q a s') (λe s'=>Dd s.heap s'.heap->E e s') s):wpAny M A t Q E s:=
 have q:wpAny M A t (λa s'=>Dd s.heap s'.heap/\(Dd s.heap s'.heap->Q a s')) (λe s'=>Dd s.heap s'.heap/\(Dd s.heap s'.heap->E e s')) s:=λΓ p hΓ=>Lm M Γ s.heap t _ _ p s (Dd.refl _) (h Γ p hΓ)
 Wi q (λ_ _ x=>x.2 x.1) (λ_ _ x=>x.2 x.1)
end Mx
end
section
namespace L2
open PySem PySem.Spec PyProof.Rows
theorem kg(o:Obj)(f:Array Value->Array Value):(o.mapFields f).dict=o.dict:=by obtain⟨c,d,dt,sl⟩:=o;cases dt<;>rfl
def cV(h:Heap)(a T:Addr):Prop:=∃o vs,h.get? a=U o/\o.data= .fields vs/\vs[1]?=U (.ref T)
structure gO(N:Nat)(cls:Value)(a:Addr)(H:Hp)(h:Heap):Prop where
 ge:N<=a
 nH:H a=y'
 obj:∃o vs,h.get? a=U o/\(o.cls=cls/\o.dict=y')/\o.data= .fields vs/\(vs[1]?=U .none\/∃T,vs[1]?=U (.ref T))
 tb:∀T,cV h a T->N<=T/\H T=y'/\T≠a/\∃oT ts,h.get? T=U oT/\oT.data= .fields ts/\3<ts.size
structure qO(fs:List Addr)(a:Addr)(h h':Heap):Prop where
 keep:∀b o,h.get? b=U o->b≠a->¬cV h a b->b∉fs->h'.get? b=U o
 slot:∀b o,h.get? b=U o->b≠a->¬cV h a b->∃sl,h'.get? b=U {o with slots:=sl}
 there:∀b o,h.get? b=U o->∃o',h'.get? b=U o'
 tb:∀T,cV h' a T->cV h a T\/h.get? T=y'
theorem qO.trans{fs:List Addr}{a:Addr}{h h1 h2:Heap}(x:qO fs a h h1)(y:qO fs a h1 h2):qO fs a h h2 where
 keep:=λb o e n nt nf=>by
  have e1:=x.keep b o e n nt nf;exact y.keep b o e1 n (λz=>by
   rcases x.tb b z with q|q
   ·exact nt q
   ·rw[e]at q;cases q) nf
 slot:=λb o e n nt=>by
  obtain⟨sl,e1⟩:=x.slot b o e n nt;obtain⟨xx,e2⟩:=y.slot b _ e1 n (λz=>by
   rcases x.tb b z with q|q
   ·exact nt q
   ·rw[e]at q;cases q)
  exact#[xx,e2]
 there:=λb o e=>by obtain⟨o1,e1⟩:=x.there b o e;exact y.there b o1 e1
 tb:=λT z=>by
  rcases y.tb T z with q|q
  ·exact x.tb T q
  ·right;cases hq:h.get? T with
   |none=>rfl
   |some o=>obtain⟨o',e'⟩:=x.there T o hq;rw[e']at q;cases q
theorem qO.refl{fs:List Addr}{a:Addr}{h:Heap}:qO fs a h h:=#[λ_ _ e _ _ _=>e,λ_ o e _ _=>#[o.slots,e],λ_ o e=>#[o,e],λ_ z=>.inl z]
section
variable{M:Model}{A:Around}{E:Value->Shared->Prop}{s:Shared}{N:Nat}{cls:Value}{a:Addr}{H:Hp}{base:Heap}{env eG:Env}{outer:List Env}{L:Addr}
theorem jw(e:Value)(h:env.frame=eG.frame):noteFrame e env=noteFrame e eG:=by unfold noteFrame PySem.frameOf;rw[h]
theorem pK(lE:A.frames=U (env::outer))(hl:s.heap.FunFrames base (env::outer))(hf:env.frame=U L)(F:gO N cls a H s.heap)(fresh:∀b,s.heap.objs.size<=b->H b=y'){head:Value}{BO:Bool}{Q:Unit->Shared->Prop}
  (q:∀h',qO (eD (env::outer)) a s.heap h'->gO N cls a H h'->(∃T,cV h' a T)->Q () {s with heap:=h'}):
  wpAny M A (do let x<-frameOf env;let pl<-entryPlaceOf L BO;let b<-EntryCells.newEntry head x .none (rawInt L) .none pl;setField (.ref a) 1 b) Q E s:=by
 obtain⟨oe,vs,he,pT,hd,h1⟩:=F.obj;have jD:1<vs.size:=by rcases h1 with h1|⟨T,h1⟩<;>exact(Array.getElem?_eq_some_iff.mp h1).1
 have NV:a∉eD (env::outer):=λhm=>by obtain⟨_,o,ho,Md⟩:=hl.mem hm;rw[he]at ho;injection ho with ho;subst ho;exact Md vs hd
 refine Td (wpAny_frameOf_fun lE hl hf λh₁ hs₁=>?_);refine Td (wpAny_entryPlaceOf λpl lG=>?_);unfold EntryCells.newEntry newFields;refine Td (Wj ?_ (lG.sizeOk5 _ _ _ _ _));have he₁:h₁.get? a=U oe:=(hs₁.2.1 a NV).trans he;generalize hT:({cls:=.type "traceback",dict:=y',data:=.fields ([head,.ref L,.none,rawInt L,.none]++(if pl.isEmpty then List.replicate 6 Value.none else pl)).toArray}:Obj)=oT;have Ro:oT.data= .fields ([head,.ref L,.none,rawInt L,.none]++(if pl.isEmpty then List.replicate 6 Value.none else pl)).toArray:=by rw[<-hT]
 have Rp:oT.isFreed=G':=by rw[<-hT];rfl
 have he₂:=Tf (h:=h₁) oT he₁;refine wpAny_setField he₂ hd jD (q _ ?_ ?_ ?_)
 all_goals
  have hz:h₁.objs.size=s.heap.objs.size:=hs₁.1;have P1:h₁.objs.size≠a:=VI (Tx he₁);have hd₃:=Obj.data_mapFields hd (·.setIfInBounds 1 (Value.ref h₁.objs.size));have he₃:=Heap.get?_update_self (Obj.mapFields (·.setIfInBounds 1 (Value.ref h₁.objs.size))) he₂ (Obj.isFreed_of_fields hd₃);have hT₃:=(T4 (h₁.push oT) (Obj.mapFields (·.setIfInBounds 1 (Value.ref h₁.objs.size))) (VM P1)).trans (Tu h₁ Rp);have kp:∀b o,b≠a->h₁.get? b=U o->((h₁.push oT).update a (Obj.mapFields (·.setIfInBounds 1 (Value.ref h₁.objs.size)))).get? b=U o:=λb o hb e=>
   (T4 _ _ (VM hb)).trans (Tf _ e)
  have QI:∀T,cV ((h₁.push oT).update a (Obj.mapFields (·.setIfInBounds 1 (Value.ref h₁.objs.size)))) a T->T=h₁.objs.size:=λT#[o,ws,z1,z2,z3]=>by rw[he₃]at z1;cases z1;rw[hd₃]at z2;cases z2;simp[jD]at z3;exact z3.symm
 ·refine#[λb o e n nt nf=>kp b o n ((hs₁.2.1 b nf).trans e),λb o e n nt=>?_,λb o e=>?_,λT z=>.inr ?_]
  ·obtain⟨sl,e1⟩:=hs₁.2.2 b o e;exact#[sl,kp b _ n e1]
  ·by_cases hb:b=a
   ·subst hb;exact#[_,he₃]
   ·obtain⟨sl,e1⟩:=hs₁.2.2 b o e;exact#[_,kp b _ hb e1]
  ·rw[QI T z,hz];exact Heap.get?_none_of_le (Tr _)
 ·refine#[F.ge,F.nH,#[_,_,he₃,#[(Obj.cls_mapFields _ _).trans pT.1,(kg _ _).trans pT.2],hd₃,.inr #[h₁.objs.size,by simp[jD]]],λT z=>?_];have e:=QI T z;subst e;refine#[?_,fresh _ (by rw[hz];exact Tr _),P1,oT,_,hT₃,Ro,by simp];rw[hz];exact Tz F.ge (VC (Tx he))
 ·exact#[h₁.objs.size,_,_,he₃,hd₃,by simp[jD]]
theorem yD(lE:A.frames=U (env::outer))(hl:s.heap.FunFrames base (env::outer))(hf:env.frame=U L)(F:gO N cls a H s.heap)(fresh:∀b,s.heap.objs.size<=b->H b=y'){Q:Unit->Shared->Prop}
  (q:∀h',qO (eD (env::outer)) a s.heap h'->gO N cls a H h'->(∃T,cV h' a T)->Q () {s with heap:=h'}):wpAny M A (noteFrame (.ref a) env) Q E s:=by
 obtain⟨oe,vs,he,pT,hd,h1⟩:=id F.obj;unfold noteFrame;simp only[hf];rcases h1 with h1|⟨T,h1⟩
 ·refine Td (Wg he hd h1 ?_);rw[V1 (by decide)];exact pK lE hl hf F fresh q
 ·have rD:cV s.heap a T:=#[oe,vs,he,hd,h1];obtain⟨t1,t2,t3,oT,ts,hT,yV,h3⟩:=F.tb T rD;refine Td (Wg he hd h1 ?_);rw[V2 (show (Value.ref T != Value.none)=B' from by simp)];refine Td (Wg hT yV (x:=ts[3]) (by simp[h3]) ?_);split
  ·have e:s={s with heap:=s.heap}:=by cases s;rfl
   rw[e];exact Th (q s.heap qO.refl F #[T,rD])
  ·refine Td (wpAny_setField hT yV h3 ?_);have other:∀b,b≠T->(s.heap.update T (Obj.mapFields (·.setIfInBounds 3 Value.none))).get? b=s.heap.get? b:=λb hb=>T4 _ _ (VM hb)
   have Jq:=Heap.get?_update_self (Obj.mapFields (·.setIfInBounds 3 Value.none)) hT (Obj.isFreed_of_fields (Obj.data_mapFields yV _));have Li:∀T',cV (s.heap.update T (Obj.mapFields (·.setIfInBounds 3 Value.none))) a T'->T'=T:=λT'#[o,ws,z1,z2,z3]=>by rw[other a (VM t3),he]at z1;cases z1;rw[hd]at z2;cases z2;rw[h1]at z3;cases z3;rfl
   have F':gO N cls a H (s.heap.update T (Obj.mapFields (·.setIfInBounds 3 Value.none))):=by refine#[F.ge,F.nH,#[oe,vs,(other a (VM t3)).trans he,pT,hd,.inr #[T,h1]],λT' z=>?_];rw[Li T' z];exact#[t1,t2,t3,_,_,Jq,Obj.data_mapFields yV _,by simpa using h3]
   have uk:(s.heap.update T (Obj.mapFields (·.setIfInBounds 3 Value.none))).FunFrames base (env::outer):=hl.of_keeps λb o hb Md=>#[o,(other b λz=>by
    subst z;rw[hT]at hb;cases hb;exact Md ts yV).trans hb,rfl]
   refine pK (s:={s with heap:=s.heap.update T (Obj.mapFields (·.setIfInBounds 3 Value.none))}) lE uk hf F' (λb hb=>fresh b (by
    have:(s.heap.update T (Obj.mapFields (·.setIfInBounds 3 Value.none))).objs.size=s.heap.objs.size:=Heap.size_after_update ..;rw[this]at hb;exact hb)) λh' x f t=>q h' (qO.trans #[λb o e n nt nf=>(other b λz=>nt (z▸rD)).trans e,λb o e n nt=>#[o.slots,(other b λz=>nt (z▸rD)).trans e],λb o e=>?_,λT' z=>.inl (by rw[Li T' z];exact rD)] x) f t
   by_cases hb:b=T
   ·subst hb;exact#[_,Jq]
   ·exact#[o,(other b hb).trans e]
theorem uc(lE:A.frames=U (eG::outer))(hl:s.heap.FunFrames base (eG::outer))(RA:eG.frame=U L)(hf:env.frame=eG.frame)(F:gO N cls a H s.heap)(fresh:∀b,s.heap.objs.size<=b->H b=y'){Q:Unit->Shared->Prop}
  (q:∀h',qO (eD (eG::outer)) a s.heap h'->gO N cls a H h'->(∃T,cV h' a T)->Q () {s with heap:=h'}):wpAny M A (noteFrame (.ref a) env) Q E s:=by
 rw[jw _ hf];exact yD lE hl RA F fresh q
theorem dU{fs:List Addr}{fl:Option Addr}(F:gO N cls a H s.heap)(ht:∃T,cV s.heap a T){Q:Unit->Shared->Prop}(q:∀h',qO fs a s.heap h'->gO N cls a H h'->(∃T,cV h' a T)->Q () {s with heap:=h'}):wpAny M A (setFlight (.ref a) fl) Q E s:=by
 obtain⟨T,rD⟩:=ht;obtain⟨t1,t2,t3,oT,ts,hT,yV,h3⟩:=F.tb T rD;obtain⟨oe,vs,he,hd,h1⟩:=id rD;obtain⟨Ta,xy,P6,pT,rE,_⟩:=id F.obj;rw[he]at P6;cases P6;unfold setFlight;refine Td (Wg he hd h1 ?_);rw[V2 (show (Value.ref T != Value.none)=B' from by simp)];refine wpAny_setField hT yV h3 ?_;generalize hx:(fl.elim Value.none λf=>rawInt f)=x;have other:∀b,b≠T->(s.heap.update T (Obj.mapFields (·.setIfInBounds 3 x))).get? b=s.heap.get? b:=λb hb=>T4 _ _ (VM hb)
 have Jq:=Heap.get?_update_self (Obj.mapFields (·.setIfInBounds 3 x)) hT (Obj.isFreed_of_fields (Obj.data_mapFields yV _));have Li:∀T',cV (s.heap.update T (Obj.mapFields (·.setIfInBounds 3 x))) a T'->T'=T:=λT'#[o,ws,z1,z2,z3]=>by rw[other a (VM t3),he]at z1;cases z1;rw[hd]at z2;cases z2;rw[h1]at z3;cases z3;rfl
 refine q _ #[λb o e n nt nf=>(other b λz=>nt (z▸rD)).trans e,λb o e n nt=>#[o.slots,(other b λz=>nt (z▸rD)).trans e],λb o e=>?_,λT' z=>.inl (by rw[Li T' z];exact rD)] #[F.ge,F.nH,#[oe,vs,(other a (VM t3)).trans he,pT,hd,.inr #[T,h1]],λT' z=>?_] #[T,oe,vs,(other a (VM t3)).trans he,hd,h1]
 ·by_cases hb:b=T
  ·subst hb;exact#[_,Jq]
  ·exact#[o,(other b hb).trans e]
 ·rw[Li T' z];exact#[t1,t2,t3,_,_,Jq,Obj.data_mapFields yV _,by simpa using h3]
theorem BH{fs:List Addr}{Pi:String}{α:Type}(F:gO N cls a H s.heap)(ht:∃T,cV s.heap a T){Q:α->Shared->Prop}(q:∀h',qO fs a s.heap h'->gO N cls a H h'->(∃T,cV h' a T)->E (.ref a) {s with heap:=h'}):wpAny M A (passOn Pi (.ref a) env:Sem α) Q E s:=by obtain⟨T,rD⟩:=id ht;obtain⟨oe,vs,he,hd,h1⟩:=rD;unfold PySem.passOn;refine Td (Wg he hd h1 ?_);rw[V1 (show¬((Value.ref T==Value.none)=B') from by simp)];exact Td (dU F ht λh' x f t=>wpAny_throw (q h' x f t))
theorem BG{fs:List Addr}(F:gO N cls a H s.heap)(ht:∃T,cV s.heap a T)(q:∀h',qO fs a s.heap h'->gO N cls a H h'->(∃T,cV h' a T)->E (.ref a) {s with heap:=h'}):cameBackBy M A env E (.ref a) s:=by obtain⟨T,rD⟩:=id ht;obtain⟨oe,vs,he,hd,h1⟩:=rD;unfold cameBackBy;refine Td (Wg he hd h1 ?_);rw[V1 (show¬((Value.ref T==Value.none)=B') from by simp)];exact dU F ht λh' x f t=>q h' x f t
end
section
variable{X:Cx}{σ:St}{H:Hp}{s:Shared}{cls:Value}{a:Addr}
theorem Inv.HK{h':Heap}(DJ:X.pn=[])(I:Inv X [] σ H s)(F:gO X.s₀.heap.objs.size cls a H s.heap)(x:qO (eD X.stack) a s.heap h'):Inv X [] σ H {s with heap:=h'}:=by
 obtain⟨oa,va,ha,P4,Ry,S8⟩:=F.obj;have Pd:∀b,cV s.heap a b->X.s₀.heap.objs.size<=b/\H b=y'/\b≠a/\∃oT ts,s.heap.get? b=U oT/\oT.data= .fields ts/\3<ts.size:=F.tb;have PD:∀b o,s.heap.get? b=U o->(∀vs,o.data≠ .fields vs)->b≠a/\¬cV s.heap a b:=λb o e nf=>by
  refine#[λz=>?_,λz=>?_]
  ·subst z;rw[ha]at e;cases e;exact nf va Ry
  ·obtain⟨_,_,_,oT,ts,hT,yV,_⟩:=Pd b z;rw[hT]at e;cases e;exact nf ts yV
 have old:∀b o,X.s₀.heap.get? b=U o->b≠a/\¬cV s.heap a b:=λb o e=>by
  refine#[λz=>?_,λz=>?_]
  ·subst z;exact absurd (TU (Tx e) F.ge) (VE _)
  ·exact absurd (TU (Tx e) (Pd b z).1) (VE _)
 have Mn:∀b o,X.s₀.heap.get? b=U o->b≠X.env.locals:=λb o e=>T7 (TU (Tx e) I.ok.above)
 have C7:∀b o,X.s₀.heap.get? b=U o->b∈eD X.stack->b∈X.fs:=λb o e z=>by
  rcases TC.mp (I.lu b z)with q|q
  ·exact absurd q (Mn b o e)
  ·exact q
 have Ho:∀c u,H c=U u->∀v,s.heap.get? c=U v->h'.get? c=U v:=λc u hc v e=>by
  refine x.keep c v e (λz=>by subst z;rw[F.nH]at hc;cases hc) (λz=>by rw[(Pd c z).2.1]at hc;cases hc) λz=>?_
  rw[I.oR c z]at hc;cases hc
 have cellK:∀y c,X.env.cells.lookup y=U c->∀v,s.heap.IsCell c v->h'.IsCell c v:=λy c e v#[o,ho,hd]=>by
  obtain⟨n1,n2⟩:=PD c o ho λvs q=>by rw[hd]at q;cases q
  obtain⟨sl,q⟩:=x.slot c o ho n1 n2;exact#[_,q,hd]
 refine#[I.ok,I.os,I.bare,#[λb o e n hb hx=>?_,λb o e n hb hx=>?_,I.base.free,λb o e hx=>?_,I.base.tups,I.base.frzs,I.base.tbls],?_,λy c e=>?_,I.free,I.cz,λp hp=>?_,?_,I.len]
 ·exact x.keep b o (I.base.keep b o e n hb hx) (old b o e).1 (old b o e).2 λz=>hb (C7 b o e z)
 ·obtain⟨sl,e1⟩:=I.base.slot b o e n hb hx;obtain⟨KZ,e2⟩:=x.slot b _ e1 (old b o e).1 (old b o e).2;exact#[KZ,e2]
 ·obtain⟨o',e1⟩:=I.base.there b o e hx;exact x.there b o' e1
 ·obtain⟨m,⟨o,es,ep,ho,hd,r⟩,hl⟩:=I.loc;obtain⟨n1,n2⟩:=PD _ o ho λvs q=>by rw[hd]at q;cases q
  obtain⟨sl,q⟩:=x.slot _ o ho n1 n2;refine#[m,#[_,es,ep,q,hd,r],λi y v e1 e2 e3=>?_];obtain⟨u,rr,l⟩:=hl i y v e1 e2 e3;refine#[u,rr,?_];rcases l with l|⟨k,c,e,z⟩
  ·exact .inl l
  ·exact .inr #[k,c,e,cellK y c e _ z]
 ·obtain⟨v,z⟩:=I.cell y c e;exact#[v,cellK y c e v z]
 ·rw[DJ]at hp;cases hp
 ·intro b u e;refine(I.hok b u e).oQ (λc v hc q=>?_) (λ_ q=>q) λ_ _ q=>q
  rcases hc with rfl|hc
  ·exact Ho c u e v q
  ·exact Ho c _ hc v q
end
def iO(X:Cx)(E:XK)(e:Value)(s':Shared):Prop:=∃σ H' a cls,e= .ref a/\Inv X [] σ H' s'/\gO X.s₀.heap.objs.size cls a H' s'.heap/\E cls y' H'
def oW(P:Program)(w:World):lI:=λouter H s E e s'=>∃H' a cls,e= .ref a/\s'.os=s.os/\AllBare s'.gens/\Un (eD outer) [] H H' s.heap s'.heap/\dN P w H' s'.heap/\gO s.heap.objs.size cls a H' s'.heap/\E cls y' H'
structure eW(X:Cx):Prop where
 pn:X.pn=[]
 st:∃eG kS L,X.stack=eG::kS/\eG.frame=U L/\X.env.frame=eG.frame
section
variable{X:Cx}{E:XK}
theorem Au{CX:lI}{P:Program}{w:World}{K:PySem.W.Frag}{mg:Str->Option Value}{base:Heap}{N:List Str}{qual:Str}{scope:Scope}{f:Addr}{cd:Value}{A:Around}{outer:List Env}{s:Shared}{H:Hp}:eW (kf CX P w K mg base N qual scope f cd A outer s H E):=
 #[rfl,_,_,_,rfl,rfl,rfl]
theorem vy{scope:Scope}{N':List Str}{C:Addr}{s:Shared}{H:Hp}{fp:List Addr}{xe:Value->Shared->Prop}(st:eW X):eW (fZ X scope N' C s H fp xe):=by obtain⟨hp,eG,kS,L,h1,h2,h3⟩:=st;exact#[rfl,eG,kS,L,h1,h2,h3]
theorem gO.down{N N':Nat}{cls:Value}{a:Addr}{H:Hp}{h:Heap}(F:gO N cls a H h)(hn:N'<=N):gO N' cls a H h:=#[Tz hn F.ge,F.nH,F.obj,λT z=>#[Tz hn (F.tb T z).1,(F.tb T z).2]]
theorem AN{J':List (Addr×Obj)}{σ:St}{H:Hp}{s s':Shared}{e:Value}(I:Inv X J' σ H s)(DJ:X.pn=[])(c:oW X.prog X.w X.stack H s E e s'):iO X E e s':=by
 obtain⟨H',a,cls,e1,h1,h2,h3,h4,h5,h6⟩:=c;have I1:Inv X J' σ H' s':=I.xZ (ch:=[]) h1 h3 h4 h2 λb z=>by cases z
 refine#[σ,H',a,cls,e1,I1.fR (λp hp=>by cases hp),h5.down I.sz,h6]
theorem mU(st:eW X){e:Value}{s:Shared}(h:iO X E e s){Q:Unit->Shared->Prop}{E2:Value->Shared->Prop}(q:∀σ H' a cls s',e= .ref a->Inv X [] σ H' s'->gO X.s₀.heap.objs.size cls a H' s'.heap->(∃T,cV s'.heap a T)->E cls y' H'->Q () s'):wpAny (model X.prog X.w) X.A (noteFrame e X.env) Q E2 s:=by
 obtain⟨σ,H',a,cls,rfl,I,F,hE⟩:=h;obtain⟨hp,eG,kS,L,h1,h2,h3⟩:=st;have lE:=I.ok.frames;have hl:=I.stack;rw[h1]at lE hl;refine uc lE hl h2 h3 F (λb hb=>I.hok.fresh hb) λh' x f t=>?_
 rw[<-h1]at x;exact q σ H' a cls _ rfl (I.HK hp F x) f t hE
theorem qE(st:eW X){e:Value}{s:Shared}(h:iO X E e s){R:Value->Shared->Prop}(q:∀σ H' a cls s',e= .ref a->Inv X [] σ H' s'->gO X.s₀.heap.objs.size cls a H' s'.heap->(∃T,cV s'.heap a T)->E cls y' H'->R e s'):notedBy (model X.prog X.w) X.A X.env R e s:=
 mU st h q
theorem vJ(st:eW X)(hx:∀e s',iO X E e s'->X.xe e s')(BX:∀e s',X.xe e s'->iO X E e s'):PassesOwn (model X.prog X.w) X.A X.env X.xe:=λe s' h=>by
 refine qE st (BX e s' h) λσ H' a cls s1 e1 I1 F1 t1 hE=>?_
 subst e1;exact BG (fs:=eD X.stack) F1 t1 λh' x f t=>hx _ _ #[σ,H',a,cls,rfl,I1.HK st.pn F1 x,f,hE]
end
theorem HH{P:Program}{w:World}{K:PySem.W.Frag}{mg:Str->Option Value}{base:Heap}{N:List Str}{qual:Str}{scope:Scope}{f:Addr}{cd:Value}{A:Around}{outer:List Env}{s:Shared}{H:Hp}{E:XK}{e:Value}{s':Shared}
  (h:iO (kf (oW P w) P w K mg base N qual scope f cd A outer s H E) E e s'):(kf (oW P w) P w K mg base N qual scope f cd A outer s H E).xe e s':=by
 have st:=Au (CX:=oW P w) (P:=P) (w:=w) (K:=K) (mg:=mg) (base:=base) (N:=N) (qual:=qual) (scope:=scope) (f:=f) (cd:=cd) (A:=A) (outer:=outer) (s:=s) (H:=H) (E:=E);show wpAny (model P w) (A.deeper (envOfC qual scope s.heap.objs.size f cd)) (leaving (envOfC qual scope s.heap.objs.size f cd) e) (λ_ s''=>oW P w outer H s E e s'') (λe' s''=>oW P w outer H s E e' s'') s';unfold leaving;refine Td (mU st h λσ H' a cls s1 e1 I1 F1 t1 hE=>?_);subst e1;refine dU (fs:=eD (kf (oW P w) P w K mg base N qual scope f cd A outer s H E).stack) F1 t1 λh' x f' t=>?_
 have I2:=I1.HK st.pn F1 x;exact#[H',a,cls,rfl,I2.os,I2.bare,I2.base,I2.hok,f',hE]
section
variable{X:Cx}{E:XK}{scope:Scope}{N':List Str}
theorem Cx.Ok.xe{xe:Value->Shared->Prop}(k:X.Ok):Cx.Ok {X with xe:=xe}:=#[k.mod,k.kind,k.glob,k.blt,k.above,k.inj,k.has,k.A0,k.hd,k.frames,k.C7,k.DD,k.bs,k.AZ,k.lP,k.nL,k.gA,k.BJ]
theorem Inv.xe{xe:Value->Shared->Prop}{J':List (Addr×Obj)}{σ:St}{H:Hp}{s:Shared}(I:Inv X J' σ H s):Inv {X with xe:=xe} J' σ H s:=#[I.ok.xe,I.os,I.bare,I.base,I.loc,I.cell,I.free,I.cz,I.pin,I.hok,I.len]
def Dl(X:Cx)(scope:Scope)(N':List Str)(E:XK)(C:Addr)(s:Shared)(H:Hp)(fp:List Addr):Value->Shared->Prop:=iO (fZ X scope N' C s H fp λ_ _=>False) E
theorem HG{C:Addr}{s:Shared}{H:Hp}{fp:List Addr}{e:Value}{s':Shared}{xe:Value->Shared->Prop}(h:iO (fZ X scope N' C s H fp xe) E e s'):Dl X scope N' E C s H fp e s':=by obtain⟨σ,H',a,cls,e1,I,F,hE⟩:=h;exact#[σ,H',a,cls,e1,I.xe,F,hE]
theorem F4{C:Addr}{s:Shared}{H:Hp}{fp:List Addr}{e:Value}{s':Shared}{xe:Value->Shared->Prop}(h:Dl X scope N' E C s H fp e s'):iO (fZ X scope N' C s H fp xe) E e s':=by obtain⟨σ,H',a,cls,e1,I,F,hE⟩:=h;exact#[σ,H',a,cls,e1,I.xe,F,hE]
theorem gO.at{h0:Nat}{cls:Value}{a:Addr}{H:Hp}{h h':Heap}(F:gO h0 cls a H h)(k:∀b o vs,h.get? b=U o->o.data= .fields vs->h'.get? b=U o):gO h0 cls a H h':=by obtain⟨o,vs,h1,h2,h3,h4⟩:=F.obj;have e1:=k a o vs h1 h3;refine#[F.ge,F.nH,#[o,vs,e1,h2,h3,h4],λT z=>?_];obtain⟨o',ws,z1,z2,z3⟩:=z;rw[e1]at z1;cases z1;obtain⟨t1,t2,t3,oT,ts,t4,t5,t6⟩:=F.tb T #[o,ws,h1,z2,z3];exact#[t1,t2,t3,oT,ts,k T oT ts t4 t5,t5,t6]
theorem vI(st:eW X)(Sf:∀e s',iO X E e s'->X.xe e s'):Bl X scope N' (Dl X scope N' E):=by
 refine⟨λJ' σ C s s1 H H1 fp x s' I1 f1 hC hs hH DF hxb=>?_⟩;refine qE (X:=fZ X scope N' C s H fp (Dl X scope N' E C s H fp)) (vy st) (F4 hxb) λσ' H' a cls s5 e1 I5 F5 t5 hE=>?_
 subst e1;obtain⟨m5,JD,_⟩:=I5.loc;have y9:s5.heap.Ns C m5:=JD;refine#[m5,y9,λh' hsb vP vW=>?_];have un:Un (eD X.stack) fp H1 H' s1.heap s5.heap:=by
  have u1:Un (eD X.stack) fp H1 H s1.heap s.heap:=by rw[hH,hs];exact Un.laid (λb u e=>Tf _ e) (Tr _) I1.fresh
  exact u1.trans I5.base
 have hI:Inv X J' σ H' s5:=I1.xZ (ch:=fp) (I5.os.trans (by show s.os=s1.os;rw[hs])) un I5.hok I5.bare λb hb=>#[(f1 b hb).2.2.2.1,(f1 b hb).2.1,(f1 b hb).2.2.2.2.1,(f1 b hb).2.2.2.2.2]
 have fC:gq X J' H' C:=I1.nS (VC hC) I5.free;have Rg:Inv X J' σ H' {s5 with heap:=h',toks:=s5.toks}:=hI.turned (t':=s5.toks) (λb o hb e=>(hsb.2 b hb).trans e) fC.1 fC.2.1 fC.2.2.2.1 fC.2.2.2.2.1 fC.2.2.2.2.2;have Rh:Inv X [] σ H' {s5 with heap:=h'}:=Rg.fR λp hp=>by cases hp
 have jD:s1.heap.objs.size<=s.heap.objs.size:=by rw[hs];show _<=(s1.heap.push _).objs.size;rw[T6];exact VD _
 have F6:gO X.s₀.heap.objs.size cls a H' h':=by
  have hd:∀b o vs,s5.heap.get? b=U o->o.data= .fields vs->h'.get? b=U o:=λb o vs e hd=>by refine(hsb.2 b λz=>?_).trans e;subst z;obtain⟨o',es,ep,nY,rE,_⟩:=y9;rw[e]at nY;cases nY;rw[hd]at rE;cases rE
  exact(F5.at hd).down (Tz I1.sz jD)
 have t6:∃T,cV h' a T:=by obtain⟨T,o,vs,z1,z2,z3⟩:=t5;refine#[T,o,vs,(hsb.2 a λz=>?_).trans z1,z2,z3];subst z;obtain⟨o',es,ep,nY,rE,_⟩:=y9;rw[z1]at nY;cases nY;rw[z2]at rE;cases rE
 exact BH (s:={s5 with heap:=h'}) (fs:=eD X.stack) F6 t6 λh'' x f t=>Sf _ _ #[σ,H',a,cls,rfl,Rh.HK st.pn F6 x,f,hE]
end
end L2
end
section
namespace Rx
open PySem PySem.W PySem.Spec PyProof.Rows L2 PySem.SeqAt
inductive Dt where
 |aE|bl (b:Bool)|int (i:Int)|str (x:Str)|tup (ds:List Dt)|lst (ds:List Dt)|aW (ns:List Int)
 |gv (ks vs:List Dt)|obj (ks:List Str) (vs:List Dt)|exc (c:Nat)
abbrev Frag:=PySem.W.Frag
def KL(K:Frag)(a:Addr)(xs:List V):Prop:=∃(o:Obj)(its:Array Value)(n:Nat),K.lookup a=U o/\o.cls= .type "list"/\o.dict=y'/\o.data= .seq its n/\its.size<=sizeLine/\ay xs its.toList
mutual
noncomputable def RV(K:Frag)(A:Addr->Prop)(H:Hp):V->Dt->Prop
 |x,.aE=>x= .aE
 |x,.bl b=>x= .bl b
 |x,.int i=>x= .int i
 |x,.str z=>x= .str z
 |x,.tup ds=>∃a xs,x= .ref a/\H a=U (.tup xs)/\ar K A H xs ds
 |x,.lst ds=>∃a xs,x= .ref a/\H a=U (.lst xs)/\¬A a/\ar K A H xs ds
 |x,.aW ns=>∃a,x= .ref a/\((Rd H a (.lst (ns.map V.int))/\¬A a)\/KL K a (ns.map V.int))
 |_,.gv _ _=>False
 |x,.obj ks vs=>∃a cT,x= .ref a/\H a=U (.dK cT)/\¬A a/\cT.map (·.1)=ks.map Sum.inr/\ar K A H (cT.map (·.2)) vs
 |_,.exc _=>False
noncomputable def ar(K:Frag)(A:Addr->Prop)(H:Hp):List V->List Dt->Prop
 |[],[]=>True
 |x::xs,d::ds=>RV K A H x d/\ar K A H xs ds
 |[],_::_=>False
 |_::_,[]=>False
end
section
variable{K:Frag}{A B:Addr->Prop}{H H':Hp}
theorem RV.dc{x:V}(h:RV K A H x .aE):x= .aE:=by unfold RV at h;exact h
theorem RV.bA{x:V}{b}(h:RV K A H x (.bl b)):x= .bl b:=by unfold RV at h;exact h
theorem RV.int_inv{x:V}{b}(h:RV K A H x (.int b)):x= .int b:=by unfold RV at h;exact h
theorem RV.str_inv{x:V}{b}(h:RV K A H x (.str b)):x= .str b:=by unfold RV at h;exact h
theorem RV.aw{x:V}{ds}(h:RV K A H x (.tup ds)):∃a xs,x= .ref a/\H a=U (.tup xs)/\ar K A H xs ds:=by unfold RV at h;exact h
theorem RV.lst_inv{x:V}{ds}(h:RV K A H x (.lst ds)):∃a xs,x= .ref a/\H a=U (.lst xs)/\¬A a/\ar K A H xs ds:=by unfold RV at h;exact h
theorem RV.fW{x:V}{ns}(h:RV K A H x (.aW ns)):∃a,x= .ref a/\((Rd H a (.lst (ns.map V.int))/\¬A a)\/KL K a (ns.map V.int)):=by unfold RV at h;exact h
theorem RV.jc{x:V}{ns}(h:RV K A H x (.aW ns)):∃a,x= .ref a/\du K H a (ns.map V.int):=by
 obtain⟨a,e,h|h⟩:=h.fW
 ·exact#[a,e,.inl h.1]
 ·exact#[a,e,.inr h]
theorem RV.nJ{x:V}{ks vs}(h:RV K A H x (.gv ks vs)):False:=by unfold RV at h;exact h
theorem RV.jK{x:V}{ks vs}(h:RV K A H x (.obj ks vs)):∃a cT,x= .ref a/\H a=U (.dK cT)/\¬A a/\cT.map (·.1)=ks.map Sum.inr/\ar K A H (cT.map (·.2)) vs:=by unfold RV at h;exact h
theorem RV.nK{x:V}{ks}(h:RV K A H x (.exc ks)):False:=by unfold RV at h;exact h
theorem RV.oh:RV K A H .aE .aE:=by unfold RV;rfl
theorem RV.uN{b}:RV K A H (.bl b) (.bl b):=by unfold RV;rfl
theorem RV.eL{b}:RV K A H (.int b) (.int b):=by unfold RV;rfl
theorem RV.oj{b}:RV K A H (.str b) (.str b):=by unfold RV;rfl
theorem RV.gF{a xs ds}(h:H a=U (.tup xs))(t:ar K A H xs ds):RV K A H (.ref a) (.tup ds):=by unfold RV;exact#[a,xs,rfl,h,t]
theorem RV.eM{a xs ds}(h:H a=U (.lst xs))(n:¬A a)(t:ar K A H xs ds):RV K A H (.ref a) (.lst ds):=by unfold RV;exact#[a,xs,rfl,h,n,t]
theorem RV.FR{a cT ks vs}(h:H a=U (.dK cT))(n:¬A a)(e:cT.map (·.1)=ks.map Sum.inr)(t:ar K A H (cT.map (·.2)) vs):RV K A H (.ref a) (.obj ks vs):=by unfold RV;exact#[a,cT,rfl,h,n,e,t]
theorem ar.nil:ar K A H [] []:=by unfold ar;trivial
theorem ar.cons{x d xs ds}(h:RV K A H x d)(t:ar K A H xs ds):ar K A H (x::xs) (d::ds):=by unfold ar;exact#[h,t]
theorem ar.nil_inv{xs}(h:ar K A H xs []):xs=[]:=by
 cases xs with
 |nil=>rfl
 |cons=>unfold ar at h;exact h.elim
theorem ar.d5{ds}(h:ar K A H [] ds):ds=[]:=by
 cases ds with
 |nil=>rfl
 |cons=>unfold ar at h;exact h.elim
theorem ar.cons_inv{xs d ds}(h:ar K A H xs (d::ds)):∃x r,xs=x::r/\RV K A H x d/\ar K A H r ds:=by
 cases xs with
 |nil=>unfold ar at h;exact h.elim
 |cons x r=>unfold ar at h;exact#[x,r,rfl,h]
theorem ar.vR{x xs ds}(h:ar K A H (x::xs) ds):∃d r,ds=d::r/\RV K A H x d/\ar K A H xs r:=by
 cases ds with
 |nil=>unfold ar at h;exact h.elim
 |cons d r=>unfold ar at h;exact#[d,r,rfl,h]
theorem ar.length:∀{xs ds},ar K A H xs ds->xs.length=ds.length
 |[],[],_=>rfl
 |[],_::_,h=>by unfold ar at h;exact h.elim
 |_::_,[],h=>by unfold ar at h;exact h.elim
 |_::xs,_::ds,h=>by unfold ar at h;simp[ar.length h.2]
theorem ar.get:∀{xs ds}{i:Nat}{x},ar K A H xs ds->xs[i]?=U x->∃d,ds[i]?=U d/\RV K A H x d
 |[],_,_,_,_,e=>by simp at e
 |_::_,[],_,_,h,_=>by unfold ar at h;exact h.elim
 |_::_,_::_,0,_,h,e=>by unfold ar at h;simp at e;subst e;exact#[_,rfl,h.1]
 |_::xs,_::ds,i+1,x,h,e=>by unfold ar at h;obtain⟨d,e1,e2⟩:=ar.get (i:=i) h.2 (by simpa using e);exact#[d,by simpa using e1,e2]
theorem ar.getD:∀{xs ds}{i:Nat}{d},ar K A H xs ds->ds[i]?=U d->∃x,xs[i]?=U x/\RV K A H x d
 |_,[],_,_,_,e=>by simp at e
 |[],_::_,_,_,h,_=>by unfold ar at h;exact h.elim
 |_::_,_::_,0,_,h,e=>by unfold ar at h;simp at e;subst e;exact#[_,rfl,h.1]
 |_::xs,_::ds,i+1,x,h,e=>by unfold ar at h;obtain⟨d,e1,e2⟩:=ar.getD (i:=i) h.2 (by simpa using e);exact#[d,by simpa using e1,e2]
theorem ar.append:∀{xs ys ds es},ar K A H xs ds->ar K A H ys es->ar K A H (xs++ys) (ds++es)
 |[],_,[],_,_,h=>h
 |[],_,_::_,_,h,_=>by unfold ar at h;exact h.elim
 |_::_,_,[],_,h,_=>by unfold ar at h;exact h.elim
 |_::xs,ys,_::ds,es,h,h'=>by unfold ar at h;exact ar.cons h.1 (ar.append h.2 h')
theorem ar.take:∀{xs ds}(n:Nat),ar K A H xs ds->ar K A H (xs.take n) (ds.take n)
 |[],ds,n,h=>by rw[h.d5];simp;exact ar.nil
 |x::xs,[],n,h=>by unfold ar at h;exact h.elim
 |x::xs,d::ds,0,h=>by simp;exact ar.nil
 |x::xs,d::ds,n+1,h=>by unfold ar at h;simp only[Vx];exact ar.cons h.1 (ar.take n h.2)
theorem ar.drop:∀{xs ds}(n:Nat),ar K A H xs ds->ar K A H (xs.drop n) (ds.drop n)
 |[],ds,n,h=>by rw[h.d5];simp;exact ar.nil
 |x::xs,[],n,h=>by unfold ar at h;exact h.elim
 |x::xs,d::ds,0,h=>h
 |x::xs,d::ds,n+1,h=>by unfold ar at h;simp only[List.drop_succ_cons];exact ar.drop n h.2
theorem ar.set:∀{xs ds}(n:Nat){x d},ar K A H xs ds->RV K A H x d->ar K A H (xs.set n x) (ds.set n d)
 |[],ds,n,_,_,h,_=>by rw[h.d5];simp;exact ar.nil
 |x::xs,[],n,_,_,h,_=>by unfold ar at h;exact h.elim
 |x::xs,d::ds,0,_,_,h,h'=>by unfold ar at h;simp only[List.set_cons_zero];exact ar.cons h' h.2
 |x::xs,d::ds,n+1,_,_,h,h'=>by unfold ar at h;simp only[List.set_cons_succ];exact ar.cons h.1 (ar.set n h.2 h')
structure aR(X:Addr->Prop)(H H':Hp):Prop where
 kp:∀b o,H b=U o->¬X b->H' b=U o
 tp:∀b xs,H b=U (.tup xs)->H' b=U (.tup xs)
theorem aR.of_same{X:Addr->Prop}(s:bI H H'):aR X H H':=#[λb o e _=>s b o e,λb xs e=>s b _ e]
theorem aR.refl{X:Addr->Prop}:aR X H H:=#[λ_ _ e _=>e,λ_ _ e=>e]
theorem aR.trans{X:Addr->Prop}{H1:Hp}(a:aR X H H1)(b:aR X H1 H'):aR X H H':=#[λc o e n=>b.kp c o (a.kp c o e n) n,λc xs e=>b.tp c xs (a.tp c xs e)]
theorem aR.mono{X Y:Addr->Prop}(a:aR X H H')(h:∀b,X b->Y b):aR Y H H':=#[λb o e n=>a.kp b o e λz=>n (h b z),a.tp]
theorem GT{X:Addr->Prop}{a:Addr}{u:HO}(e:aR X H H')(n:¬X a)(h:Rd H a u):Rd H' a u:=by
 rcases h with h|⟨o,h⟩
 ·exact .inl (e.kp _ _ h n)
 ·exact .inr #[o,e.kp _ _ h n]
mutual
noncomputable def uS:Dt->Bool
 |.aE|.bl _|.int _|.str _=>B'
 |.tup ds=>oq ds
 |_=>G'
noncomputable def oq:List Dt->Bool
 |[]=>B'
 |d::ds=>uS d&&oq ds
end
mutual
theorem RV.gen(t:∀b xs,H b=U (.tup xs)->H' b=U (.tup xs)):∀{x d},(uS d=B'\/∀b o,H b=U o->¬A b->H' b=U o/\¬B b)->RV K A H x d->RV K B H' x d
 |x,.aE,_,h=>by rw[h.dc];exact RV.oh
 |x,.bl b,_,h=>by rw[h.bA];exact RV.uN
 |x,.int b,_,h=>by rw[h.int_inv];exact RV.eL
 |x,.str b,_,h=>by rw[h.str_inv];exact RV.oj
 |x,.tup ds,n,h=>by obtain⟨a,xs,rfl,h1,h2⟩:=h.aw;exact RV.gF (t _ _ h1) (ar.gen t (n.imp_left id) h2)
 |x,.lst ds,n,h=>by obtain⟨a,xs,rfl,h1,h3,h2⟩:=h.lst_inv;have n:=n.resolve_left nofun;exact RV.eM (n a _ h1 h3).1 (n a _ h1 h3).2 (ar.gen t (.inr n) h2)
 |x,.aW ns,n,h=>by
  have n:=n.resolve_left nofun;obtain⟨a,rfl,⟨h1,h3⟩|h1⟩:=h.fW
  ·rcases h1 with h1|⟨o,h1⟩
   ·exact#[a,rfl,.inl #[.inl (n a _ h1 h3).1,(n a _ h1 h3).2]]
   ·exact#[a,rfl,.inl #[.inr #[o,(n a _ h1 h3).1],(n a _ h1 h3).2]]
  ·exact#[a,rfl,.inr h1]
 |x,.gv ..,_,h=>h.nJ.elim
 |x,.obj ks vs,n,h=>by obtain⟨a,cT,rfl,h1,h3,h4,h2⟩:=h.jK;have n:=n.resolve_left nofun;exact RV.FR (n a _ h1 h3).1 (n a _ h1 h3).2 h4 (ar.gen t (.inr n) h2)
 |x,.exc ..,_,h=>h.nK.elim
theorem ar.gen(t:∀b xs,H b=U (.tup xs)->H' b=U (.tup xs)):∀{xs ds},(oq ds=B'\/∀b o,H b=U o->¬A b->H' b=U o/\¬B b)->ar K A H xs ds->ar K B H' xs ds
 |[],[],_,_=>ar.nil
 |[],_::_,_,h=>by unfold ar at h;exact h.elim
 |_::_,[],_,h=>by unfold ar at h;exact h.elim
 |_::xs,_::ds,n,h=>by unfold ar at h;simp only[oq,Ti]at n;exact ar.cons (RV.gen t (n.imp_left (·.1)) h.1) (ar.gen t (n.imp_left (·.2)) h.2)
end
theorem RV.mono{X:Addr->Prop}(e:aR X H H')(hX:∀b,X b->A b)(hB:∀b,B b->A b){x d}(h:RV K A H x d):RV K B H' x d:=h.gen e.tp (.inr λb o q n=>#[e.kp b o q λz=>n (hX b z),λz=>n (hB b z)])
theorem ar.mono{X:Addr->Prop}(e:aR X H H')(hX:∀b,X b->A b)(hB:∀b,B b->A b){x d}(h:ar K A H x d):ar K B H' x d:=h.gen e.tp (.inr λb o q n=>#[e.kp b o q λz=>n (hX b z),λz=>n (hB b z)])
theorem RV.same{x d}(h:RV K A H x d)(s:bI H H'):RV K A H' x d:=h.mono (X:=λ_=>False) (aR.of_same s) (λ_ z=>z.elim) λ_ z=>z
theorem ar.same{x d}(h:ar K A H x d)(s:bI H H'):ar K A H' x d:=h.mono (X:=λ_=>False) (aR.of_same s) (λ_ z=>z.elim) λ_ z=>z
theorem RV.weak{x d}(h:RV K A H x d)(hB:∀b,B b->A b):RV K B H x d:=h.mono (X:=λ_=>False) aR.refl (λ_ z=>z.elim) hB
theorem ar.weak{x d}(h:ar K A H x d)(hB:∀b,B b->A b):ar K B H x d:=h.mono (X:=λ_=>False) aR.refl (λ_ z=>z.elim) hB
theorem RV.df(hp:∀b,B b->A b\/H b=y'){x d}(h:RV K A H x d):RV K B H x d:=h.gen (λ_ _ e=>e) (.inr λb o q n=>#[q,λz=>(hp b z).elim n λe=>by rw[e]at q;cases q])
theorem ar.df(hp:∀b,B b->A b\/H b=y'){x d}(h:ar K A H x d):ar K B H x d:=h.gen (λ_ _ e=>e) (.inr λb o q n=>#[q,λz=>(hp b z).elim n λe=>by rw[e]at q;cases q])
theorem ar.avoid{p:Addr}(hp:H p=y'){x d}(h:ar K A H x d):ar K (λb=>A b\/b=p) H x d:=h.df λb z=>z.imp_right λe=>by rw[e];exact hp
theorem RV.uS{x d}(h:RV K A H x d)(n:Rx.uS d=B'):RV K B H x d:=h.gen (λ_ _ e=>e) (.inl n)
theorem ar.oq{x d}(h:ar K A H x d)(n:Rx.oq d=B'):ar K B H x d:=h.gen (λ_ _ e=>e) (.inl n)
end
mutual
noncomputable def toD:Dt->Option Mx.D
 |.int i=>U (.int i)
 |.str x=>U (.str x)
 |.tup ds=>(fK ds).map Mx.D.tup
 |_=>y'
noncomputable def fK:List Dt->Option (List Mx.D)
 |[]=>U []
 |d::ds=>(toD d).bind λm=>(fK ds).map (m:: ·)
end
mutual
noncomputable def ofD:Mx.D->Dt
 |.int i=>.int i
 |.str x=>.str x
 |.tup ds=>.tup (aq ds)
noncomputable def aq:List Mx.D->List Dt
 |[]=>[]
 |d::ds=>ofD d::aq ds
end
theorem cg:∀ds:List Mx.D,aq ds=ds.map ofD
 |[]=>by simp[aq]
 |d::ds=>by simp[aq,cg ds]
mutual
theorem Hn:∀m:Mx.D,toD (ofD m)=U m
 |.int i=>by simp[ofD,toD]
 |.str x=>by simp[ofD,toD]
 |.tup ds=>by simp[ofD,toD,dE ds]
theorem dE:∀ms:List Mx.D,fK (aq ms)=U ms
 |[]=>by simp[aq,fK]
 |m::ms=>by simp[aq,fK,Hn m,dE ms]
end
mutual
theorem F3:∀{d:Dt}{m:Mx.D},toD d=U m->d=ofD m
 |.int i,m,h=>by simp[toD]at h;subst h;simp[ofD]
 |.str i,m,h=>by simp[toD]at h;subst h;simp[ofD]
 |.tup ds,m,h=>by simp only[toD,TJ]at h;obtain⟨ms,h1,rfl⟩:=h;rw[iw h1];simp[ofD]
 |.aE,m,h=>by simp[toD]at h
 |.bl _,m,h=>by simp[toD]at h
 |.lst _,m,h=>by simp[toD]at h
 |.aW _,m,h=>by simp[toD]at h
 |.gv _ _,m,h=>by simp[toD]at h
 |.obj _ _,m,h=>by simp[toD]at h
 |.exc _,m,h=>by simp[toD]at h
theorem iw:∀{ds:List Dt}{ms:List Mx.D},fK ds=U ms->ds=aq ms
 |[],ms,h=>by simp[fK]at h;subst h;simp[aq]
 |d::ds,ms,h=>by simp only[fK,Te,TJ]at h;obtain⟨m,h1,r,h2,rfl⟩:=h;rw[F3 h1,iw h2];simp[aq]
end
mutual
theorem RV.dv{K:Frag}{A:Addr->Prop}{H:Hp}:∀{x}{m:Mx.D},RV K A H x (ofD m)->Mx.DV H x m
 |x,.int i,h=>by simp only[ofD]at h;rw[h.int_inv];exact Mx.DV.int
 |x,.str i,h=>by simp only[ofD]at h;rw[h.str_inv];exact Mx.DV.str
 |x,.tup ms,h=>by simp only[ofD]at h;obtain⟨a,xs,rfl,h1,h2⟩:=h.aw;exact Mx.DV.tup h1 (ar.vS h2)
theorem ar.vS{K:Frag}{A:Addr->Prop}{H:Hp}:∀{xs}{ms:List Mx.D},ar K A H xs (aq ms)->Mx.bf H xs ms
 |[],[],_=>Mx.bf.nil
 |[],_::_,h=>by simp only[aq]at h;unfold ar at h;exact h.elim
 |_::_,[],h=>by simp only[aq]at h;unfold ar at h;exact h.elim
 |_::xs,_::ds,h=>by simp only[aq]at h;unfold ar at h;exact Mx.bf.cons (RV.dv h.1) (ar.vS h.2)
end
mutual
theorem RV.Kh{K:Frag}{A:Addr->Prop}{H:Hp}:∀{x}{m:Mx.D},Mx.DV H x m->RV K A H x (ofD m)
 |x,.int i,h=>by simp only[ofD];rw[h.int_inv];exact RV.eL
 |x,.str i,h=>by simp only[ofD];rw[h.str_inv];exact RV.oj
 |x,.tup ms,h=>by simp only[ofD];obtain⟨a,xs,rfl,h1,h2⟩:=h.aw;exact RV.gF h1 (ar.r8 h2)
theorem ar.r8{K:Frag}{A:Addr->Prop}{H:Hp}:∀{xs}{ms:List Mx.D},Mx.bf H xs ms->ar K A H xs (aq ms)
 |[],[],_=>by simp only[aq];exact ar.nil
 |[],_::_,h=>by unfold Mx.bf at h;exact h.elim
 |_::_,[],h=>by unfold Mx.bf at h;exact h.elim
 |_::xs,_::ds,h=>by simp only[aq];unfold Mx.bf at h;exact ar.cons (RV.Kh h.1) (ar.r8 h.2)
end
mutual
noncomputable def cu:Dt->Dt->Bool
 |.aE,.aE=>B'
 |.bl a,.bl b=>a==b
 |.int a,.int b=>a==b
 |.bl a,.int b=>(if a then(1:Int) else 0)==b
 |.int a,.bl b=>a==(if b then(1:Int) else 0)
 |.str a,.str b=>a==b
 |.tup a,.tup b=>bY a b
 |.lst a,.lst b=>bY a b
 |_,_=>G'
noncomputable def bY:List Dt->List Dt->Bool
 |[],[]=>B'
 |x::xs,y::ys=>cu x y&&bY xs ys
 |_,_=>G'
end
mutual
noncomputable def pl:Dt->Bool
 |.aE|.bl _|.int _|.str _=>B'
 |.tup ds=>oE ds
 |.lst ds=>oE ds
 |_=>G'
noncomputable def oE:List Dt->Bool
 |[]=>B'
 |d::ds=>pl d&&oE ds
end
mutual
noncomputable def dp:Dt->Nat
 |.tup ds=>rf ds+1
 |.lst ds=>rf ds+1
 |_=>0
noncomputable def rf:List Dt->Nat
 |[]=>0
 |d::ds=>max (dp d) (rf ds)
end
mutual
theorem jb:∀d:Dt,pl d=B'->cu d d=B'
 |.aE,_=>by simp[cu]
 |.bl b,_=>by simp[cu]
 |.int b,_=>by simp[cu]
 |.str b,_=>by simp[cu]
 |.tup ds,h=>by simp only[cu];exact gI ds (by simpa [pl]using h)
 |.lst ds,h=>by simp only[cu];exact gI ds (by simpa [pl]using h)
 |.aW _,h=>by simp[pl]at h
 |.gv _ _,h=>by simp[pl]at h
 |.obj _ _,h=>by simp[pl]at h
 |.exc _,h=>by simp[pl]at h
theorem gI:∀ds:List Dt,oE ds=B'->bY ds ds=B'
 |[],_=>by simp[bY]
 |d::ds,h=>by simp only[oE,Ti]at h;simp only[bY,Ti];exact#[jb d h.1,gI ds h.2]
end
def Sy:Dt->Nat
 |.aE=>0|.bl _=>1|.int _=>2|.str _=>3|.tup _=>4|.lst _=>5|_=>6
def Pe(H:Hp):V->Nat
 |.aE=>0|.bl _=>1|.int _=>2|.str _=>3
 |.ref a=>(match H a with|some (.tup _)=>4|some (.lst _)=>5|_=>6)
 |_=>6
theorem RV.tg{K:Frag}{A:Addr->Prop}{H:Hp}{x:V}{d:Dt}(h:RV K A H x d)(n:pl d=B'):Pe H x=Sy d:=by
 cases d with
 |aE=>rw[h.dc];rfl
 |bl=>rw[h.bA];rfl
 |int=>rw[h.int_inv];rfl
 |str=>rw[h.str_inv];rfl
 |tup=>obtain⟨a,xs,rfl,h1,_⟩:=h.aw;unfold Pe;dsimp only;rw[h1];rfl
 |lst=>obtain⟨a,xs,rfl,h1,_⟩:=h.lst_inv;unfold Pe;dsimp only;rw[h1];rfl
 |_=>simp[pl]at n
mutual
theorem RV.inj{K:Frag}{A B:Addr->Prop}{H:Hp}:∀{x d e},RV K A H x d->RV K B H x e->pl d=B'->pl e=B'->d=e
 |x,.aE,e,h,g,m,n=>by have t:=(h.tg m).symm.trans (g.tg n);cases e<;>first|rfl|exact absurd t (V9 rfl)
 |x,.bl b,e,h,g,m,n=>by have t:=(h.tg m).symm.trans (g.tg n);cases e<;>first|exact absurd t (V9 rfl)|(cases h.bA.symm.trans g.bA;rfl)
 |x,.int b,e,h,g,m,n=>by have t:=(h.tg m).symm.trans (g.tg n);cases e<;>first|exact absurd t (V9 rfl)|(cases h.int_inv.symm.trans g.int_inv;rfl)
 |x,.str b,e,h,g,m,n=>by have t:=(h.tg m).symm.trans (g.tg n);cases e<;>first|exact absurd t (V9 rfl)|(cases h.str_inv.symm.trans g.str_inv;rfl)
 |x,.tup ds,e,h,g,m,n=>by
  have t:=(h.tg m).symm.trans (g.tg n);cases e with
  |tup es=>obtain⟨a,xs,rfl,h1,h2⟩:=h.aw;obtain⟨b,ys,q,g1,g2⟩:=g.aw;cases q;rw[h1]at g1;cases g1;rw[ar.inj h2 g2 (by simpa [pl]using m) (by simpa [pl]using n)]
  |_=>exact absurd t (V9 rfl)
 |x,.lst ds,e,h,g,m,n=>by
  have t:=(h.tg m).symm.trans (g.tg n);cases e with
  |lst es=>obtain⟨a,xs,rfl,h1,_,h2⟩:=h.lst_inv;obtain⟨b,ys,q,g1,_,g2⟩:=g.lst_inv;cases q;rw[h1]at g1;cases g1;rw[ar.inj h2 g2 (by simpa [pl]using m) (by simpa [pl]using n)]
  |_=>exact absurd t (V9 rfl)
 |x,.aW ds,_,_,_,n,_=>by simp[pl]at n
 |x,.gv ..,_,_,_,n,_=>by simp[pl]at n
 |x,.obj ..,_,_,_,n,_=>by simp[pl]at n
 |x,.exc ..,_,_,_,n,_=>by simp[pl]at n
theorem ar.inj{K:Frag}{A B:Addr->Prop}{H:Hp}:∀{xs ds es},ar K A H xs ds->ar K B H xs es->oE ds=B'->oE es=B'->ds=es
 |xs,[],es,h,g,_,_=>by
  cases xs with
  |nil=>rw[g.d5]
  |cons=>unfold ar at h;exact h.elim
 |xs,d::ds,es,h,g,m,n=>by
  cases xs with
  |nil=>unfold ar at h;exact h.elim
  |cons x xs=>unfold ar at h;obtain⟨e,t,rfl,g1,g2⟩:=g.vR;have m':=Bool.and_eq_true_iff.mp m;have n':=Bool.and_eq_true_iff.mp n;rw[RV.inj h.1 g1 m'.1 n'.1,ar.inj h.2 g2 m'.2 n'.2]
end
def Ab(ds es:List Dt)(j:Nat):Bool:=match ds[j]?,es[j]? with
 |some d,U e=>cu d e
 |_,_=>B'
theorem cD:∀ds es:List Dt,((List.range (min ds.length es.length)).all (Ab ds es)&&ds.length==es.length)=bY ds es
 |[],[]=>by simp[bY]
 |[],_::_=>by simp[bY]
 |_::_,[]=>by simp[bY]
 |d::ds,e::es=>by
  have ih:=cD ds es;have hm:min (d::ds).length (e::es).length=min ds.length es.length+1:=by simp only[TN];lia
  have e1:((d::ds).length==(e::es).length)=(ds.length==es.length):=by rw[Uz];simp
  rw[hm,List.range_succ_eq_map,US,List.all_map,e1,bY,<-ih,Bool.and_assoc];rfl
theorem yo{d:Dt}:∀{ds:List Dt}{j:Nat},ds[j]?=U d->dp d<=rf ds
 |[],_,h=>by simp at h
 |d'::ds,0,h=>by simp at h;subst h;unfold rf;lia
 |d'::ds,j+1,h=>by have:=yo (ds:=ds) (j:=j) (by simpa using h);unfold rf;lia
theorem su{d:Dt}:∀{ds:List Dt}{j:Nat},oE ds=B'->ds[j]?=U d->pl d=B'
 |[],_,_,h=>by simp at h
 |d'::ds,0,n,h=>by simp at h;subst h;simp only[oE,Ti]at n;exact n.1
 |d'::ds,j+1,n,h=>by simp only[oE,Ti]at n;exact su (ds:=ds) (j:=j) n.2 (by simpa using h)
section
variable{P:Program}{w:World}{K:Frag}{A B:Addr->Prop}{H:Hp}{s:Shared}
theorem dH(hok:dN P w H s.heap){a:Addr}{xs:List V}(h:H a=U (.lst xs)):∃its:List Value,ay xs its/\s.heap.IsList a its.toArray:=by obtain⟨_,its,n,r,t⟩:=hok a _ h;exact#[its,r,#[_,t,rfl,_,rfl]]
inductive Kd(K:Frag)(A:Addr->Prop)(H:Hp)(s:Shared):Value->Dt->Prop
 |n:Kd K A H s .none .aE
 |b (b:Bool):Kd K A H s (.bool b) (.bl b)
 |i (i:Int) (t:Tok):Kd K A H s (.int i t) (.int i)
 |s (z:Str) (t:Tok):Kd K A H s (.str z t) (.str z)
 |t {a:Addr} {its:List Value} {ds:List Dt} (z:its.toArray.size=ds.length) (h:s.heap.IsTuple a its.toArray) (g:∃xs,ar K A H xs ds/\ay xs its):Kd K A H s (.ref a) (.tup ds)
 |l {a:Addr} {its:List Value} {ds:List Dt} (z:its.toArray.size=ds.length) (h:s.heap.IsList a its.toArray) (g:∃xs,ar K A H xs ds/\ay xs its):Kd K A H s (.ref a) (.lst ds)
theorem kd(hok:dN P w H s.heap){d:Dt}{x:V}{u:Value}(hp:pl d=B')(hx:RV K A H x d)(rx:RelV x u):Kd K A H s u d:=by
 cases d with
 |aE=>have:=hx.dc;subst this;cases rx;exact .n
 |bl b=>have:=hx.bA;subst this;cases rx;exact .b b
 |int b=>have:=hx.int_inv;subst this;obtain⟨t,rfl⟩:=rx;exact .i b t
 |str b=>have:=hx.str_inv;subst this;obtain⟨t,rfl⟩:=rx;exact .s b t
 |tup ds=>obtain⟨a,xs,q,f,g⟩:=hx.aw;subst q;cases rx;obtain⟨its,r,ht⟩:=Mx.aV hok f;exact .t (by rw[Tj,<-r.length,g.length]) ht #[_,g,r]
 |lst ds=>obtain⟨a,xs,q,f,_,g⟩:=hx.lst_inv;subst q;cases rx;obtain⟨its,r,ht⟩:=dH hok f;exact .l (by rw[Tj,<-r.length,g.length]) ht #[_,g,r]
 |_=>simp[pl]at hp
theorem yt{n:Nat}(ih:∀(d e:Dt)(x y:V)(u v:Value)(R:Around),dp d<=n->pl d=B'->pl e=B'->R.units+n<cLine->RV K A H x d->RV K B H y e->RelV x u->RelV y v->EqAt R s u v (cu d e)){tw tD:List V}{i1 i2:List Dt}{iX b9:List Value}{R:Around}(g1:ar K A H tw i1)(g2:ar K B H tD i2)(r1:ay tw iX)(r2:ay tD b9)(l1:iX.toArray.size=i1.length)(l2:b9.toArray.size=i2.length)
  (p1:oE i1=B') (p2:oE i2=B') (hd:rf i1<=n) (hu:R.in1.units+n<cLine) (j:Nat) (h1:j<iX.toArray.size) (h2:j<b9.toArray.size):EqAt R.in1 s iX.toArray[j] b9.toArray[j] (Ab i1 i2 j):=by
 have yQ:j<tw.length:=by rw[g1.length,<-l1];exact h1
 have yR:j<tD.length:=by rw[g2.length,<-l2];exact h2
 obtain⟨d,c1,c2⟩:=g1.get (i:=j) (x:=tw[j]) (by simp[yQ]);obtain⟨e,k1,k2⟩:=g2.get (i:=j) (x:=tD[j]) (by simp[yR]);obtain⟨u,JH,ru⟩:=r1.get (i:=j) (x:=tw[j]) (by simp[yQ]);obtain⟨v,JJ,rv⟩:=r2.get (i:=j) (x:=tD[j]) (by simp[yR]);have eu:iX.toArray[j]=u:=by simp only[U6];exact(To.mp JH).2
 have ev:b9.toArray[j]=v:=by simp only[U6];exact(To.mp JJ).2
 rw[eu,ev,show Ab i1 i2 j=cu d e by unfold Ab;rw[c1,k1]];exact ih d e tw[j] tD[j] u v R.in1 (Tz (yo c1) hd) (su p1 c1) (su p2 k1) hu c2 k2 ru rv
theorem Je(hok:dN P w H s.heap):∀(n:Nat)(d e:Dt)(x y:V)(u v:Value)(R:Around),dp d<=n->pl d=B'->pl e=B'->R.units+n<cLine->RV K A H x d->RV K B H y e->RelV x u->RelV y v->EqAt R s u v (cu d e):=by
 intro n
 induction n with
 |zero=>
  intro d e x y u v R hd jh hJ hu hx hy rx ry;have k2:=kd hok hJ hy ry;cases kd hok jh hx rx with
  |n=>cases k2 with
   |n=>exact EqAt.same _
   |b b2=>exact EqAt.none_bool b2
   |i i2 t2=>exact EqAt.none_int i2 t2
   |s z2 t2=>exact EqAt.none_str z2 t2
   |t _ h=>exact EqAt.none_tuple h ⋯
   |l _ h=>exact EqAt.none_list h ⋯
  |b b1=>cases k2 with
   |n=>exact EqAt.bool_none b1
   |b b2=>exact EqAt.bool_bool b1 b2
   |i i2 t2=>exact EqAt.bool_int b1 i2 t2
   |s z2 t2=>exact EqAt.bool_str b1 z2 t2
   |t _ h=>exact EqAt.bool_tuple b1 h ⋯
   |l _ h=>exact EqAt.bool_list b1 h ⋯
  |i i1 t1=>cases k2 with
   |n=>exact EqAt.int_none i1 t1
   |b b2=>exact EqAt.int_bool i1 t1 b2
   |i i2 t2=>exact EqAt.int_int i1 t1 i2 t2
   |s z2 t2=>exact EqAt.int_str i1 t1 z2 t2
   |t _ h=>exact EqAt.int_tuple i1 t1 h ⋯
   |l _ h=>exact EqAt.int_list i1 t1 h ⋯
  |s z1 t1=>cases k2 with
   |n=>exact EqAt.str_none z1 t1
   |b b2=>exact EqAt.str_bool z1 t1 b2
   |i i2 t2=>exact EqAt.str_int z1 t1 i2 t2
   |s z2 t2=>exact EqAt.str_str z1 t1 z2 t2
   |t _ h=>exact EqAt.str_tuple z1 t1 h ⋯
   |l _ h=>exact EqAt.str_list z1 t1 h ⋯
  |_=>unfold dp at hd;lia
 |succ n ih=>
  intro d e x y u v R hd jh hJ hu hx hy rx ry;have k2:=kd hok hJ hy ry;cases kd hok jh hx rx with
  |t l1 ht1 o1=>
   rename_i a1 _ i1;obtain⟨tw,g1,r1⟩:=o1;cases k2 with
   |n=>exact EqAt.tuple_none ht1 ⋯
   |b b2=>exact EqAt.tuple_bool b2 ht1 ⋯
   |i i2 t2=>exact EqAt.tuple_int i2 t2 ht1 ⋯
   |s z2 t2=>exact EqAt.tuple_str z2 t2 ht1 ⋯
   |l _ h=>exact EqAt.tuple_list ht1 h ⋯
   |t l2 o6 o2=>
    rename_i a2 _ i2;obtain⟨tD,g2,r2⟩:=o2;by_cases gN:a1=a2
    ·subst gN;obtain⟨_,_,rfl,_⟩:=hx.aw;obtain⟨_,_,rfl,_⟩:=hy.aw;cases rx;cases ry;have:=RV.inj hx hy jh hJ;cases this;rw[jb _ jh];exact EqAt.same _
    refine EqAt.of_refs gN ?_;have q:=cD i1 i2;have key:=RcAt.tuples (A:=R) (e:=Ab i1 i2) ht1 o6 ⋯ (yt ih g1 g2 r1 r2 l1 l2 (by simpa [pl]using jh) (by simpa [pl]using hJ) (by unfold dp at hd;lia) (by show R.units+1+n<cLine;lia));rw[<-l1,<-l2]at q;rw[q]at key;exact key
  |l l1 ht1 o1=>
   rename_i a1 _ i1;obtain⟨tw,g1,r1⟩:=o1;cases k2 with
   |n=>exact EqAt.list_none ht1 ⋯
   |b b2=>exact EqAt.list_bool b2 ht1 ⋯
   |i i2 t2=>exact EqAt.list_int i2 t2 ht1 ⋯
   |s z2 t2=>exact EqAt.list_str z2 t2 ht1 ⋯
   |t _ h=>exact EqAt.list_tuple ht1 h ⋯
   |l l2 o6 o2=>
    rename_i a2 _ i2;obtain⟨tD,g2,r2⟩:=o2;by_cases gN:a1=a2
    ·subst gN;obtain⟨_,_,rfl,_⟩:=hx.lst_inv;obtain⟨_,_,rfl,_⟩:=hy.lst_inv;cases rx;cases ry;have:=RV.inj hx hy jh hJ;cases this;rw[jb _ jh];exact EqAt.same _
    refine EqAt.of_refs gN ?_;have q:=cD i1 i2;by_cases hl:i1.length=i2.length
    ·have key:=RcAt.lists (A:=R) (e:=Ab i1 i2) ht1 o6 ⋯ ⋯ (yt ih g1 g2 r1 r2 l1 l2 (by simpa [pl]using jh) (by simpa [pl]using hJ) (by unfold dp at hd;lia) (by show R.units+1+n<cLine;lia));rw[hl,Nat.min_self,VX,Uy]at q;rw[l1,hl,q]at key;exact key
    ·have key:=RcAt.lists_lengths (A:=R) ht1 o6 (by rw[l1,l2];simpa using hl) ⋯;have hb:(i1.length==i2.length)=G':=by simpa using hl
     rw[hb,Ux]at q;show RcAt R s _ _ (bY i1 i2);rw[<-q];exact key
  |_=>exact ih _ e x y _ v R (by unfold dp;lia) jh hJ ⋯ hx hy rx ry
end
end Rx
end
section
namespace Mx
open PySem PySem.Spec PySem.W PyProof.Rows L2 PySem.SeqAt
def MH(lo c:Int)(n:Nat):It:=#[λi _=>i<n,λi H x H'=>H'=H/\x= .int (lo+i*c),λi _=>n<=i]
theorem w6{P:Program}{w:World}{K:PySem.W.Frag}{tg:Expr}(it:Addr)(lo c:Int)(n:Nat):Turn P w K tg (MH lo c n) [it] it (λi h=>IsRangeIter h it (lo+(i:Nat)*c) ((n:Int)-(i:Nat)) c) where
 mem:=(lD (P:=P) (w:=w) (K:=K) (tg:=tg) it lo n).mem
 obj:=λi h st b hb=>by cases Ua.mp hb;exact#[_,st,λv z=>by cases (show Data.fields _=Data.cell v from z)]
 keep:=λi h h' st k=>k it Tt _ st
 item:=by
  intro X hP hw hK hc i J' s σ H E I hf st hg;subst hP hw hK;obtain⟨f0,f1,f2,f3,f4,f5⟩:=hf it Tt;refine(Walks.range (prog:=X.prog) (w:=X.w) (I.ok.hd hc) it lo c n).item i s _ _ hg st λv h' tk hv ak kk=>?_
  obtain⟨t,rfl⟩:=hv;have I1:Inv X J' σ H {s with heap:=h',toks:=tk}:=I.turned (λb o hb e=>kk b o (λz=>hb (Ua.mp z)) e) f0 f1 f3 f4 f5;exact#[_,rfl,pP (s:={s with heap:=h',toks:=tk}) (n:="range_iterator") ak rfl rfl (by decide) #[.int (lo+i*c),H,I1,#[t,rfl],#[rfl,rfl],ak,λb hb=>(hf b hb).1]]
 done:=by intro X hP hw hK hc i J' s σ H E I hf st hg;subst hP hw hK;obtain⟨f0,f1,f2,f3,f4,f5⟩:=hf it Tt;exact wpAny_pyNext_range_end (I.ok.hd hc) st (by have:n<=i:=hg;lia) λh' eb=>#[rfl,I.turned (t':=s.toks) (λb o hb e=>eb b o hb e) f0 f1 f3 f4 f5]
 self:=λ_ _ _ _ _ st h=>wpAny_pyIter_rangeiter st h
def et(lo hi c:Int):Nat:=(Builtin.Range.rangeSize lo hi c).toNat
section
variable{X:Cx}{tg:Expr}
def JO(ta:TA):TI:=λσ H R=>ta σ H λvs H1=>∃i j c:Int,vs=[.int i,.int j,.int c]/\(i.natAbs<=1000000/\j.natAbs<=1000000/\1<=c/\c<=1000)/\R (MH i c (et i j c)) H1
theorem C3{i j c:Int}(hi:i.natAbs<=1000000)(hj:j.natAbs<=1000000)(h1:1<=c):0<=Builtin.Range.rangeSize i j c/\Builtin.Range.rangeSize i j c<=2000000:=by
 unfold Builtin.Range.rangeSize;rw[V2 ⋯];split
 ·have a:=Int.ediv_nonneg (show 0<=j-i-1 by lia) (show 0<=c by lia);have b:=Int.ediv_le_self c (show 0<=j-i-1 by lia)
  lia
 ·lia
theorem wF{a b d:Expr}{ta:TA}{p pos:Pos}(hg:Gl X "range")(hm:X.mg "range"=y')(ha:PA X [a,b,d] ta)(hs:starEach [a,b,d] X.env=[(G',eval a X.env),(G',eval b X.env),(G',eval d X.env)])(v9:starEach [b,d] X.env=[(G',eval b X.env),(G',eval d X.env)]):
  PI X tg (.Call (.Name "range" p) [a,b,d] [] pos) (JO ta):=by
 intro J' s σ H R I h;refine Call_ (iY I hg hm boot_range (VO (bt (ha pos J' s σ H _ I h) λus s1#[vs,H1,I1,r1,q1]=>?_) (by rw[hs,v9]) (by rw[v9];rfl)));obtain⟨i,j,c,e,⟨q1,q2,q3,q4⟩,q⟩:=q1;subst e;obtain⟨u1,ut,rfl,⟨t1,rfl⟩,r2⟩:=r1.cons_inv;obtain⟨u2,u3,rfl,⟨t2,rfl⟩,⟨t3,rfl⟩⟩:=r2.two;refine PySem.call_range_3 ⋯ ?_ (.inl (PyProof.noPylong_of_log2 (Nat.lt_trans ((Nat.log2_lt ⋯).mpr (show c.natAbs<2^10 by lia)) (by decide))));obtain⟨s0,Tb⟩:=C3 q1 q2 q3;have sm:Builtin.Range.small i j c=B':=by unfold Builtin.Range.small Builtin.Range.rangeFitsLong;rw[V2 ⋯];simp only[Ti,Ui,VZ,beq_iff_eq];omega
 refine wpAny_pyIter_range (IsRange.new ..) sm ?_;have I2:Inv X J' σ H1 {s1 with heap:=s1.heap.push {cls:=.type "range",data:=.fields [.int i t1,.int j t2,.int c t3].toArray}}:=I1.kept (t':=s1.toks) λb o e=>Tf _ e
 refine#[_,[(s1.heap.push {cls:=.type "range",data:=.fields [.int i t1,.int j t2,.int c t3].toArray}).objs.size],_,_,H1,rfl,
  I2.kept (t':=s1.toks) λb o e=>Tf _ e,w6 _ i c (et i j c),?_,λb hb=>?_,q]
 ·have e1:i+((0:Nat):Int)*c=i:=by simp
  have e2:((et i j c:Nat):Int)-((0:Nat):Int)=Builtin.Range.rangeSize i j c:=by unfold et;lia
  show IsRangeIter _ _ (i+((0:Nat):Int)*c) (((et i j c:Nat):Int)-((0:Nat):Int)) c;rw[e1,e2];exact Tu _ rfl
 ·cases Ua.mp hb;exact I2.nS (Tr _) (I2.hok.fresh (Tr _))
end
end Mx
end
section
namespace Rx
open PySem PySem.W PySem.Spec PyProof.Rows L2 PySem.SeqAt
set_option genInjectivity true in
inductive R(α:Type)where
 |ok (a:α)|ex (c:Nat)|bad
def R.bind{α β:Type}:R α->(α->R β)->R β
 |.ok a,f=>f a
 |.ex c,_=>.ex c
 |.bad,_=>.bad
@[simp] theorem R.ah{α β:Type}(a:α)(f:α->R β):(R.ok a).bind f=f a:=rfl
abbrev lim:Nat:=1000000
abbrev aj:=List (Option Dt)
abbrev Sx:=Option (List Int)
def af(b:Bool){α:Type}(r:R α):R α:=if b then r else .bad
@[simp] theorem guard_true{α:Type}(r:R α):af B' r=r:=rfl
def oz(o:Operator)(a b:Dt):R Dt:=match o with
 |.Add=>match a,b with
  |.int i,.int j=>.ok (.int (i+j))
  |.str x,.str y=>af (decide (x.length+y.length<=lim)) (.ok (.str (x++y)))
  |.lst x,.lst y=>af (decide (x.length+y.length<=lim)) (.ok (.lst (x++y)))
  |.tup x,.tup y=>af (decide (x.length+y.length<=lim)) (.ok (.tup (x++y)))
  |_,_=>.bad
 |.Sub=>match a,b with
  |.int i,.int j=>.ok (.int (i-j))
  |_,_=>.bad
 |.Mult=>match a,b with
  |.int i,.int j=>af (decide (i.natAbs<2^64)||decide (j.natAbs<2^64)) (.ok (.int (i*j)))
  |.str x,.int k=>af (decide (k.natAbs<=lim)&&decide (x.length*k.toNat<=lim)) (.ok (.str (Txt.mul x k)))
  |_,_=>.bad
 |.FloorDiv=>match a,b with
  |.int i,.int j=>af (decide (j≠0)&&decide (j.natAbs.log2<9000)) (.ok (.int (i.fdiv j)))
  |_,_=>.bad
 |.Mod=>match a,b with
  |.int i,.int j=>af (decide (j≠0)) (.ok (.int (i.fmod j)))
  |_,_=>.bad
 |.Pow=>match a,b with
  |.int i,.int j=>af (decide (0<=j)&&decide (j<=1000)&&decide (i.natAbs<2^64)) (.ok (.int (i^j.toNat)))
  |_,_=>.bad
 |_=>.bad
def lL(d e:Dt):Bool:=pl d&&pl e&&decide (dp d<=100)
def itemsOf:Dt->Option (List Dt)
 |.lst ds=>U ds
 |.tup ds=>U ds
 |.aW ns=>U (ns.map Dt.int)
 |_=>y'
def je:Dt->Option (List Dt)
 |.str x=>U (x.cps.toList.map λc=>.str ⟨#[c]⟩)
 |d=>itemsOf d
def BP(y x:Str):Bool:= !(Builtin.Str.occurrences y x 0 y.length 1).isEmpty
def cA:Dt->Option (List Dt)
 |.lst ds=>U ds
 |.tup ds=>U ds
 |_=>y'
mutual
noncomputable def kI:Mx.D->Mx.D->Bool
 |.int _,.int _=>B'
 |.str _,.str _=>B'
 |.tup a,.tup b=>ik a b
 |_,_=>G'
noncomputable def ik:List Mx.D->List Mx.D->Bool
 |x::xs,y::ys=>kI x y&&ik xs ys
 |_,_=>B'
end
def bT:CmpOp->Dt->Dt->R Bool
 |.Eq,a,b=>af (lL a b) (.ok (cu a b))
 |.NotEq,a,b=>af (lL a b) (.ok (!cu a b))
 |.Lt,.int i,.int j=>.ok (decide (i<j))
 |.LtE,.int i,.int j=>.ok (decide (i<=j))
 |.LtE,.str i,.str j=>.ok (!decide (j.cps.toList<i.cps.toList))
 |.Gt,.int i,.int j=>.ok (decide (j<i))
 |.GtE,.int i,.int j=>.ok (decide (j<=i))
 |.GtE,.tup a,.tup b=>match fK a,fK b with
  |some xs,U ys=>af (ik xs ys&&decide (Mx.D.cF xs<=100)) (.ok (!Mx.D.fQ xs ys))
  |_,_=>.bad
 |.Is,a,.aE=>.ok (match a with|.aE=>B'|_=>G')
 |.IsNot,a,.aE=>.ok (match a with|.aE=>G'|_=>B')
 |.In,.str x,.str y=>.ok (BP y x)
 |.NotIn,.str x,.str y=>.ok (!BP y x)
 |_,_,_=>.bad
def cw:Dt->R Bool
 |.aE=>.ok G'
 |.bl b=>.ok b
 |.int i=>.ok (i != 0)
 |.str y=>af (decide (y.length<=lim)) (.ok ((y.length:Int) != 0))
 |.lst ds=>.ok !ds.isEmpty
 |.tup ds=>.ok !ds.isEmpty
 |.aW ds=>.ok !ds.isEmpty
 |_=>.bad
def xM(ds:List Dt)(i:Int):R Dt:=match nh ds i with
 |some d=>.ok d
 |none=>.bad
def bB:Dt->Dt->R Dt
 |.lst ds,.int i=>xM ds i
 |.tup ds,.int i=>xM ds i
 |.aW ns,.int i=>xM (ns.map Dt.int) i
 |.str z,.int i=>af (decide (z.length<=lim)) (match nh z.cps.toList i with|some c=>.ok (.str ⟨#[c]⟩)|none=>.bad)
 |_,_=>.bad
def cutD{α:Type}(xs:List α)(lo hi:Option Int):List α:=(xs.drop (HT.bV xs.length 0 lo)).take (HT.bV xs.length xs.length hi-HT.bV xs.length 0 lo)
def fm:Dt->Option Int->Option Int->R Dt
 |.lst ds,lo,hi=>.ok (.lst (cutD ds lo hi))
 |.aW ds,lo,hi=>.ok (.lst (cutD (ds.map Dt.int) lo hi))
 |.tup ds,lo,hi=>.ok (.tup (cutD ds lo hi))
 |.str z,lo,hi=>af (decide (z.length<=lim)) (.ok (.str (PySem.Txt.slice z lo hi)))
 |_,_,_=>.bad
inductive BI where
 |len|min2|max2|sorted|tuple|list|int|isi (T:String)|str
 deriving DecidableEq
def intsOf:List Dt->Option (List Int)
 |[]=>U []
 |.int i::r=>(intsOf r).map (i:: ·)
 |_=>y'
def Ih(a b:Mx.D):Bool:= !Mx.D.lt b a
def bN(ds:List Mx.D):List Mx.D:=ds.mergeSort Ih
def JT(k:Mx.SK):Mx.D->Bool
 |.tup (.tup _::_)=>k== .tt
 |.tup (.str _::_)=>k== .ts
 |.tup (.int _::_)=>k== .ti
 |.str _=>k== .s
 |.int _=>k== .i
 |_=>G'
def jq(ds:List Mx.D):Bool:=decide (ds.length<1000000)&&(decide (ds.length<2)||(decide (Mx.D.cF ds<=100)&&([Mx.SK.tt,.ts,.ti,.s,.i].any λk=>ds.all (JT k))&&ds.all λd=>ds.all λe=>kI d e))
def strsOf:List Dt->Option (List Str)
 |[]=>U []
 |.str i::r=>(strsOf r).map (i:: ·)
 |_=>y'
def gM(xs ys:List Dt):List Dt:=List.zipWith (λx y=>Dt.tup [x,y]) xs ys
def Dz:Nat->List Dt->List Dt
 |_,[]=>[]
 |i,x::xs=>Dt.tup [.int i,x]::Dz (i+1) xs
def wj(T:String):Dt->R Bool
 |.str _=>.ok (T=="str")
 |.int _=>.ok (T=="int")
 |.bl _=>.ok (T=="bool"||T=="int")
 |.lst _=>.ok (T=="list")
 |.tup _=>.ok (T=="tuple")
 |.aE=>.ok G'
 |.obj _ _=>.ok G'
 |_=>.bad
def dw(b:BI)(as:List Dt):R Dt:=match b with
 |.len=>match as with
  |[.str x]=>af (decide (x.length<=lim)) (.ok (.int x.length))
  |[.lst ds]=>.ok (.int ds.length)
  |[.tup ds]=>.ok (.int ds.length)
  |[.aW ds]=>.ok (.int ds.length)
  |_=>.bad
 |.min2=>match as with
  |[.int i,.int j]=>.ok (.int (if j<i then j else i))
  |_=>.bad
 |.max2=>match as with
  |[.int i,.int j]=>.ok (.int (if j>i then j else i))
  |_=>.bad
 |.sorted=>match as with
  |[d]=>match itemsOf d with
   |some ds=>match fK ds with
    |some ms=>af (jq ms) (.ok (.lst (aq (bN ms))))
    |none=>.bad
   |none=>.bad
  |_=>.bad
 |.tuple=>match as with
  |[.lst ds]=>.ok (.tup ds)
  |[.tup ds]=>.ok (.tup ds)
  |_=>.bad
 |.list=>match as with
  |[.lst ds]=>.ok (.lst ds)
  |[.tup ds]=>.ok (.lst ds)
  |[.aW ns]=>.ok (.lst (ns.map Dt.int))
  |_=>.bad
 |.int=>match as with
  |[.int i]=>.ok (.int i)
  |[.bl b]=>.ok (.int (if b then 1 else 0))
  |[.str x]=>af (decide (x.length<=640)) (match PySem.intText? x with|some n=>.ok (.int n)|none=>.bad)
  |_=>.bad
 |.isi T=>match as with
  |[d]=>(wj T d).bind λb=>.ok (.bl b)
  |_=>.bad
 |.str=>match as with
  |[.int i]=>af (decide (i.natAbs.log2<1920)) (.ok (.str (toString i)))
  |_=>.bad
def isStr:Dt->Bool
 |.str _=>B'
 |_=>G'
inductive MT where
 |join
 deriving DecidableEq
def J6:MT->Dt->List Dt->R Dt
 |.join,.str z,[.lst ds]=>match strsOf ds with
  |some ys=>af (decide ((ys.map (·.length)).sum+ys.length*z.length<=lim)) (.ok (.str (PySem.Txt.join z ys)))
  |none=>.bad
 |_,_,_=>.bad
inductive Tg where
 |nm (i:Nat)|tp (is:List Nat)
 deriving DecidableEq
mutual
inductive C where
 |con (d:Dt)|var (i:Nat)|mvr (i:Nat)
 |bin (o:Operator) (a b:C)|cmp (o:CmpOp) (a b:C)|ch (o p:CmpOp) (a b c:C)
 |neg (a:C)|nt (a:C)|and (a b:C)|or (a b:C)|ite (t a b:C)
 |idx (a b:C)|sliL (a lo:C)|sliH (a hi:C)|sliB (a lo hi:C)
 |tup (es:Cs)|lst (es:Cs)
 |call (f:Nat) (es:Cs) (ds:List Dt)|callD (f:Nat) (es:Cs)|popD|lenD
 |bi (b:BI) (es:Cs)|mt (m:MT) (o:C) (es:Cs)
 |Jj (i:Nat) (k e:C)|srtI (i:Nat)|gtO (o k e:C)
 |comp (cap:List (Option Nat)) (it:oX) (tg:Tg) (ts:Cs) (e:C)
 |Dw (cap:List (Option Nat)) (it:oX) (tg:Tg) (ts:Cs) (Oi:oX) (QJ:Tg) (QL:Cs) (e:C)
inductive Cs where
 |nil|cons (c:C) (cs:Cs)
inductive oX where
 |seq (c:C)|rng1 (c:C)|rng2 (a b:C)|rng3 (a b c:C)|zip (a b:C)|enum (c:C)|zipR (a c:C)
end
mutual
noncomputable def lk:C->Nat
 |.mvr _=>1
 |.and _ _=>0
 |.or _ _=>0
 |.ite _ a b=>max (lk a) (lk b)
 |.idx a _=>if lk a<=1 then 0 else 2
 |.sliL a _=>if lk a<=1 then 0 else 2
 |.sliH a _=>if lk a<=1 then 0 else 2
 |.sliB a _ _=>if lk a<=1 then 0 else 2
 |.bin _ a b=>if lk a<=1/\lk b<=1 then 0 else 2
 |.tup es=>if qK es=0 then 0 else 2
 |.lst es=>if qK es=0 then 0 else 2
 |.call _ es _=>if qK es=0 then 0 else 2
 |.callD _ es=>if qK es=0 then 0 else 2
 |.bi _ es=>if qK es<=1 then 0 else 2
 |.Jj _ _ e=>lk e
 |.gtO o _ e=>if lk o=0 then lk e else 2
 |_=>0
noncomputable def qK:Cs->Nat
 |.nil=>0
 |.cons c cs=>max (lk c) (qK cs)
end
def uK:oX->Nat
 |.seq c=>lk c
 |.zip a b=>max (lk a) (lk b)
 |.enum c=>lk c
 |.zipR a _=>lk a
 |_=>0
def Dt.JR:Dt->Bool
 |.aE=>B'
 |_=>G'
def fresh(fr:Nat->Bool):C->Bool
 |.con d=>d.JR
 |.lst _=>B'
 |.comp ..=>B'
 |.Dw ..=>B'
 |.bi .sorted _=>B'
 |.bi .list _=>B'
 |.bin ..=>B'
 |.sliH ..=>B'
 |.call f _ _=>fr f
 |.callD f _=>fr f
 |_=>G'
def cJ(c:C)(d:Dt):Bool:=decide (lk c=0)||uS d
def jm(c:C)(d:Dt):Bool:=decide (lk c=0)||match d with|.lst ds=>oq ds|d=>uS d
def bJ(ρ:aj)(i:Nat):R Dt:=match ρ[i]? with
 |some (U d)=>.ok d
 |_=>.bad
def j6(cap:List (Option Nat))(ρ:aj):aj:=cap.map λo=>o.bind λi=>(ρ[i]?).join
def fh:List Nat->List Dt->aj->R aj
 |[],[],ρ=>.ok ρ
 |i::is,d::ds,ρ=>fh is ds (ρ.set i (U d))
 |_,_,_=>.bad
def fg:Tg->Dt->aj->R aj
 |.nm i,d,ρ=>.ok (ρ.set i (U d))
 |.tp is,.tup ds,ρ=>fh is ds ρ
 |.tp is,.lst ds,ρ=>fh is ds ρ
 |_,_,_=>.bad
def vq(is:List Nat)(d:Dt)(ρ:aj):R aj:=match d with
 |.tup ds=>fh is ds ρ
 |.lst ds=>fh is ds ρ
 |_=>.bad
def bU(f:Dt->Sx->R (List Dt×Sx)):List Dt->Sx->R (List Dt×Sx)
 |[],S=>.ok ([],S)
 |x::xs,S=>(f x S).bind λp=>(bU f xs p.2).bind λq=>.ok (p.1++q.1,q.2)
def cC(tg:Tg)(Pg:aj->Sx->R (Bool×Sx))(body:aj->Sx->R (List Dt×Sx))(ρ:aj)(d:Dt)(S:Sx):R (List Dt×Sx):=
 (fg tg d ρ).bind λρ1=>(Pg ρ1 S).bind λb=>if b.1 then body ρ1 b.2 else .ok ([],b.2)
def bL(lo:Int)(n:Nat):List Dt:=(List.range n).map λ(i:Nat)=>Dt.int (lo+(i:Int))
def Np(d:Mx.D):List Dt->List Dt->Option Dt
 |k::ks,v::vs=>if toD k=U d then U v else Np d ks vs
 |_,_=>y'
def Ja(d:Mx.D)(v:Dt):List Dt->List Dt->List Dt
 |k::ks,x::vs=>(if toD k=U d then v else x)::Ja d v ks vs
 |_,vs=>vs
def JU(k:Dt):Option Mx.D:=match toD k with
 |some (.tup ds)=>if Mx.D.dep (.tup ds)<=8 then U (.tup ds) else y'
 |_=>y'
def IY(z k e:Dt):R Dt:=match z with
 |.gv ks vs=>match JU k with
  |some d=>.ok ((Np d ks vs).getD e)
  |none=>.bad
 |_=>.bad
def Jb(z k v:Dt):R Dt:=match z with
 |.gv ks vs=>match JU k with
  |some d=>af (decide (ks.length<lim)) (.ok (if (Np d ks vs).isSome then .gv ks (Ja d v ks vs) else .gv (ks++[k]) (vs++[v])))
  |none=>.bad
 |_=>.bad
def zG(ks vs:List Mx.D):List Mx.D:=(ks.zip vs).map λz=>.tup [z.1,z.2]
def Jc(z:Dt):R Dt:=match z with
 |.gv ks vs=>match fK ks,fK vs with
  |some ms,U ns=>af (jq (zG ms ns)) (.ok (.lst (aq (bN (zG ms ns)))))
  |_,_=>.bad
 |_=>.bad
def Oh:Dt->Bool
 |.obj _ _=>B'
 |_=>G'
def QC(y:Str):List Str->List Dt->Option Dt
 |k::ks,v::vs=>if k=y then U v else QC y ks vs
 |_,_=>y'
def Ki(z k e:Dt):R Dt:=match z with
 |.obj ks vs=>match k with
  |.str y=>.ok ((QC y ks vs).getD e)
  |_=>.bad
 |_=>.bad
def JQ(ρ:aj)(i:Nat):Bool:=match ρ[i]? with|some (U (.gv _ _))=>B'|_=>G'
def jy(lo c:Int)(n:Nat):List Dt:=(List.range n).map λ(i:Nat)=>Dt.int (lo+i*c)
abbrev FT:=Nat->List Dt->Sx->R (Dt×Sx)
mutual
noncomputable def ev(F:FT):C->aj->Sx->R (Dt×Sx)
 |.con d,_,S=>.ok (d,S)
 |.var i,ρ,S=>(bJ ρ i).bind λd=>.ok (d,S)
 |.mvr i,ρ,S=>(bJ ρ i).bind λd=>.ok (d,S)
 |.bin o a b,ρ,S=>(ev F a ρ S).bind λx=>(ev F b ρ x.2).bind λy=>(oz o x.1 y.1).bind λd=>.ok (d,y.2)
 |.cmp o a b,ρ,S=>(ev F a ρ S).bind λx=>(ev F b ρ x.2).bind λy=>(bT o x.1 y.1).bind λd=>.ok (.bl d,y.2)
 |.ch o p a b c,ρ,S=>(ev F a ρ S).bind λx=>(ev F b ρ x.2).bind λy=>(bT o x.1 y.1).bind λd=>
   if d then(ev F c ρ y.2).bind λz=>(bT p y.1 z.1).bind λe=>.ok (.bl e,z.2) else .ok (.bl G',y.2)
 |.neg a,ρ,S=>(ev F a ρ S).bind λx=>match x.1 with|.int i=>.ok (.int (-i),x.2)|_=>.bad
 |.nt a,ρ,S=>(ev F a ρ S).bind λx=>match x.1 with|.bl b=>.ok (.bl !b,x.2)|_=>.bad
 |.and a b,ρ,S=>(ev F a ρ S).bind λx=>match x.1 with|.bl B'=>(ev F b ρ x.2).bind λy=>(match y.1 with|.bl c=>.ok (.bl c,y.2)|_=>.bad)|.bl G'=>.ok (.bl G',x.2)|_=>.bad
 |.or a b,ρ,S=>(ev F a ρ S).bind λx=>match x.1 with|.bl G'=>(ev F b ρ x.2).bind λy=>(match y.1 with|.bl c=>.ok (.bl c,y.2)|_=>.bad)|.bl B'=>.ok (.bl B',x.2)|_=>.bad
 |.ite t a b,ρ,S=>(aQ F t ρ S).bind λx=>if x.1 then ev F a ρ x.2 else ev F b ρ x.2
 |.idx a b,ρ,S=>(ev F a ρ S).bind λx=>(ev F b ρ x.2).bind λy=>(bB x.1 y.1).bind λd=>.ok (d,y.2)
 |.sliL a l,ρ,S=>(ev F a ρ S).bind λx=>(ev F l ρ x.2).bind λy=>match y.1 with|.int i=>(fm x.1 (U i) y').bind λd=>.ok (d,y.2)|_=>.bad
 |.sliH a h,ρ,S=>(ev F a ρ S).bind λx=>(ev F h ρ x.2).bind λy=>match y.1 with|.int i=>(fm x.1 y' (U i)).bind λd=>.ok (d,y.2)|_=>.bad
 |.sliB a l h,ρ,S=>(ev F a ρ S).bind λx=>(ev F l ρ x.2).bind λy=>match y.1 with|.int i=>(ev F h ρ y.2).bind λz=>(match z.1 with|.int j=>(fm x.1 (U i) (U j)).bind λd=>.ok (d,z.2)|_=>.bad)|_=>.bad
 |.tup es,ρ,S=>(fk F es ρ S).bind λx=>af (decide (x.1.length<=lim)) (.ok (.tup x.1,x.2))
 |.lst es,ρ,S=>(fk F es ρ S).bind λx=>af (decide (x.1.length<=lim)) (.ok (.lst x.1,x.2))
 |.call f es ds,ρ,S=>(fk F es ρ S).bind λx=>(F f (x.1++ds) y').bind λy=>.ok (y.1,x.2)
 |.callD f es,ρ,S=>af S.isSome ((fk F es ρ S).bind λx=>match x.2 with|some s=>F f x.1 (U s)|none=>.bad)
 |.popD,_,S=>match S with|some ns=>af (!ns.isEmpty) (.ok (.int (ns.getLastD 0),U ns.dropLast))|none=>.bad
 |.lenD,_,S=>match S with|some ns=>.ok (.int ns.length,S)|none=>.bad
 |.Jj i k e,ρ,S=>af (JQ ρ i) ((ev F k ρ S).bind λx=>(ev F e ρ x.2).bind λy=>(bJ ρ i).bind λz=>(IY z x.1 y.1).bind λd=>.ok (d,y.2))
 |.srtI i,ρ,S=>(bJ ρ i).bind λz=>(Jc z).bind λd=>.ok (d,S)
 |.gtO o k e,ρ,S=>(ev F o ρ S).bind λz=>af (Oh z.1) ((ev F k ρ z.2).bind λx=>(ev F e ρ x.2).bind λy=>(Ki z.1 x.1 y.1).bind λd=>.ok (d,y.2))
 |.bi b es,ρ,S=>(fk F es ρ S).bind λx=>(dw b x.1).bind λd=>.ok (d,x.2)
 |.mt m o es,ρ,S=>(ev F o ρ S).bind λy=>af (isStr y.1) ((fk F es ρ y.2).bind λx=>(J6 m y.1 x.1).bind λd=>.ok (d,x.2))
 |.comp cap it tg ts e,ρ,S=>(eI F it ρ S).bind λx=>af (decide (x.1.length<=lim)&&(decide (uK it<=1)||jr F it ρ S))
   ((bU (cC tg (dS F ts) (λρ1 S1=>(ev F e ρ1 S1).bind λy=>af (cJ e y.1) (.ok ([y.1],y.2))) (j6 cap ρ)) x.1 x.2).bind λq=>.ok (.lst q.1,q.2))
 |.Dw cap it tg ts Oi QJ QL e,ρ,S=>(eI F it ρ S).bind λx=>af (decide (x.1.length<=lim)&&(decide (uK it<=1)||jr F it ρ S))
   ((bU (cC tg (dS F ts) (λρ1 S1=>(eI F Oi ρ1 S1).bind λx2=>af (decide (x.1.length*x2.1.length<=lim)&&decide (uK Oi=0))
    (bU (cC QJ (dS F QL) (λρ2 S2=>(ev F e ρ2 S2).bind λy=>af (cJ e y.1) (.ok ([y.1],y.2))) ρ1) x2.1 x2.2)) (j6 cap ρ)) x.1 x.2).bind λq=>.ok (.lst q.1,q.2))
noncomputable def aQ(F:FT):C->aj->Sx->R (Bool×Sx)
 |.nt a,ρ,S=>(aQ F a ρ S).bind λx=>.ok (!x.1,x.2)
 |.and a b,ρ,S=>(aQ F a ρ S).bind λx=>if x.1 then aQ F b ρ x.2 else .ok (G',x.2)
 |.or a b,ρ,S=>(aQ F a ρ S).bind λx=>if x.1 then .ok (B',x.2) else aQ F b ρ x.2
 |.cmp o a b,ρ,S=>(ev F a ρ S).bind λx=>(ev F b ρ x.2).bind λy=>(bT o x.1 y.1).bind λd=>.ok (d,y.2)
 |.ch o p a b c,ρ,S=>(ev F a ρ S).bind λx=>(ev F b ρ x.2).bind λy=>(bT o x.1 y.1).bind λd=>
   if d then(ev F c ρ y.2).bind λz=>(bT p y.1 z.1).bind λe=>.ok (e,z.2) else .ok (G',y.2)
 |.var i,ρ,S=>(bJ ρ i).bind λd=>(cw d).bind λb=>.ok (b,S)
 |.mvr i,ρ,S=>(bJ ρ i).bind λd=>(cw d).bind λb=>.ok (b,S)
 |.call f es ds,ρ,S=>(fk F es ρ S).bind λx=>(F f (x.1++ds) y').bind λy=>(cw y.1).bind λb=>.ok (b,x.2)
 |.callD f es,ρ,S=>af S.isSome ((fk F es ρ S).bind λx=>match x.2 with|some s=>(F f x.1 (U s)).bind λy=>(cw y.1).bind λb=>.ok (b,y.2)|none=>.bad)
 |.bi b es,ρ,S=>(fk F es ρ S).bind λx=>(dw b x.1).bind λd=>(cw d).bind λb=>.ok (b,x.2)
 |.idx a b,ρ,S=>(ev F a ρ S).bind λx=>(ev F b ρ x.2).bind λy=>(bB x.1 y.1).bind λd=>(cw d).bind λb=>.ok (b,y.2)
 |_,_,_=>.bad
noncomputable def fk(F:FT):Cs->aj->Sx->R (List Dt×Sx)
 |.nil,_,S=>.ok ([],S)
 |.cons c cs,ρ,S=>(ev F c ρ S).bind λx=>(fk F cs ρ x.2).bind λy=>.ok (x.1::y.1,y.2)
noncomputable def dS(F:FT):Cs->aj->Sx->R (Bool×Sx)
 |.nil,_,S=>.ok (B',S)
 |.cons c .nil,ρ,S=>aQ F c ρ S
 |_,_,_=>.bad
noncomputable def eI(F:FT):oX->aj->Sx->R (List Dt×Sx)
 |.seq c,ρ,S=>(ev F c ρ S).bind λx=>match je x.1 with|some ds=>.ok (ds,x.2)|none=>.bad
 |.rng1 c,ρ,S=>(ev F c ρ S).bind λx=>match x.1 with|.int j=>af (decide (j<=lim)&&decide (-lim<=j)) (.ok (bL 0 j.toNat,x.2))|_=>.bad
 |.rng2 a b,ρ,S=>(ev F a ρ S).bind λx=>(ev F b ρ x.2).bind λy=>match x.1,y.1 with
   |.int i,.int j=>af (decide (i.natAbs<=lim)&&decide (j.natAbs<=lim)) (.ok (bL i (j-i).toNat,y.2))|_,_=>.bad
 |.rng3 a b c,ρ,S=>(ev F a ρ S).bind λx=>(ev F b ρ x.2).bind λy=>(ev F c ρ y.2).bind λz=>match x.1,y.1,z.1 with
   |.int i,.int j,.int k=>af (decide (i.natAbs<=lim)&&decide (j.natAbs<=lim)&&(decide (1<=k)&&decide (k<=1000))) (.ok (jy i k (Mx.et i j k),z.2))|_,_,_=>.bad
 |.zip a b,ρ,S=>(ev F a ρ S).bind λx=>(ev F b ρ x.2).bind λy=>match cA x.1,cA y.1 with
   |some xs,U ys=>.ok (gM xs ys,y.2)|_,_=>.bad
 |.enum c,ρ,S=>(ev F c ρ S).bind λx=>match cA x.1 with|some ds=>.ok (Dz 0 ds,x.2)|none=>.bad
 |.zipR a c,ρ,S=>(ev F a ρ S).bind λx=>(ev F c ρ x.2).bind λy=>match cA x.1,y.1 with
   |some xs,.int j=>af (decide (j<=lim)&&decide (-lim<=j)) (.ok (gM xs (bL 0 j.toNat),y.2))|_,_=>.bad
noncomputable def jr(F:FT):oX->aj->Sx->Bool
 |.seq c,ρ,S=>match ev F c ρ S with|.ok x=>uS x.1|_=>G'
 |_,_,_=>G'
end
inductive Fl where
 |next|brk|cnt|ret (d:Dt)
mutual
inductive T where
 |asg (i:Nat) (c:C)|asgM (i:Nat) (c:C)|asgD (i:Nat) (c:C)|mov (i j:Nat)|asgT (is:List Nat) (c:C)
 |aug (i:Nat) (c:C)
 |wR (i:Nat) (k v:C)|app (i:Nat) (c:C)|xtd (i:Nat) (c:C)|clr (i:Nat)
 |HS (c:C)|ret (c:C)|retN|ifs (t:C) (a b:Ts)|fr (tg:Tg) (it:oX) (b:Ts)|wh (t:C) (b:Ts)
 |Nq (i:Nat)|dset (i:Nat) (k v:C)
 |rs (k:Nat) (vs:List Nat)|tr (b:Ts) (sV:List (Option Bool))|brk|cnt|Gq
inductive Ts where
 |nil|cons (t:T) (ts:Ts)
end
abbrev RS:=R (Fl×aj×Sx)
def wx(ρ:aj)(i:Nat):Bool:=match ρ[i]? with
 |some (U (.int n))=>decide (0<=n)&&decide (n<10^19)
 |_=>G'
def forL(tg:Tg)(body:aj->Sx->RS):List Dt->aj->Sx->RS
 |[],ρ,S=>.ok (.next,ρ,S)
 |x::xs,ρ,S=>(fg tg x ρ).bind λρ1=>(body ρ1 S).bind λp=>match p.1 with
  |.next=>forL tg body xs p.2.1 p.2.2
  |.cnt=>forL tg body xs p.2.1 p.2.2
  |.brk=>.ok (.next,p.2)
  |.ret d=>.ok (.ret d,p.2)
def cQ(test:aj->Sx->R (Bool×Sx))(body:aj->Sx->RS):Nat->aj->Sx->RS
 |0,_,_=>.bad
 |n+1,ρ,S=>(test ρ S).bind λb=>if b.1 then(body ρ b.2).bind λp=>match p.1 with
   |.next=>cQ test body n p.2.1 p.2.2
   |.cnt=>cQ test body n p.2.1 p.2.2
   |.brk=>.ok (.next,p.2)
   |.ret d=>.ok (.ret d,p.2)
  else .ok (.next,ρ,b.2)
def c7:Nat:=100000
def isLE(ρ:aj)(i:Nat):Bool:=match ρ[i]? with
 |some (U (.lst _))=>B'
 |_=>G'
def kJ(ρ:aj)(i:Nat):R (List Dt):=match ρ[i]? with
 |some (U (.lst ds))=>.ok ds
 |_=>.bad
mutual
noncomputable def ex(F:FT):T->aj->Sx->RS
 |.asg i c,ρ,S=>(ev F c ρ S).bind λx=>af (cJ c x.1) (.ok (.next,ρ.set i (U x.1),x.2))
 |.asgM i c,ρ,S=>(ev F c ρ S).bind λx=>af (jm c x.1) (.ok (.next,ρ.set i (U x.1),x.2))
 |.asgD i c,ρ,S=>(ev F c ρ S).bind λx=>match x.1 with|.lst ds=>(match intsOf ds with|some ns=>af (decide (lk c=0)&&decide (i<ρ.length)) (.ok (.next,ρ.set i y',U ns))|none=>.bad)|_=>.bad
 |.mov i j,ρ,S=>(bJ ρ j).bind λd=>.ok (.next,(ρ.set j y').set i (U d),S)
 |.asgT is c,ρ,S=>(ev F c ρ S).bind λx=>af (cJ c x.1) ((vq is x.1 ρ).bind λρ1=>.ok (.next,ρ1,x.2))
 |.aug i c,ρ,S=>(bJ ρ i).bind λd=>(ev F c ρ S).bind λx=>match d,x.1 with|.int a,.int b=>.ok (.next,ρ.set i (U (.int (a+b))),x.2)|_,_=>.bad
 |.wR i k v,ρ,S=>af (isLE ρ i) ((ev F v ρ S).bind λx=>(ev F k ρ x.2).bind λy=>af (cJ v x.1) ((kJ ρ i).bind λds=>match y.1 with
   |.int n=>(match o7 ds.length n with|some j=>.ok (.next,ρ.set i (U (.lst (ds.set j x.1))),y.2)|none=>.bad)|_=>.bad))
 |.Nq i,ρ,S=>.ok (.next,ρ.set i (U (.gv [] [])),S)
 |.dset i k v,ρ,S=>af (JQ ρ i) ((ev F v ρ S).bind λx=>(ev F k ρ x.2).bind λy=>(bJ ρ i).bind λz=>af (decide (lk v=0)) ((Jb z y.1 x.1).bind λd=>.ok (.next,ρ.set i (U d),y.2)))
 |.app i c,ρ,S=>af (isLE ρ i) ((ev F c ρ S).bind λx=>af (cJ c x.1) ((kJ ρ i).bind λds=>af (decide (ds.length<=lim)) (.ok (.next,ρ.set i (U (.lst (ds++[x.1]))),x.2))))
 |.xtd i c,ρ,S=>af (isLE ρ i) ((ev F c ρ S).bind λx=>af (decide (lk c<=1)) ((kJ ρ i).bind λds=>match x.1 with
   |.lst es=>af (decide (ds.length+es.length<=lim)) (.ok (.next,ρ.set i (U (.lst (ds++es))),x.2))|.tup es=>af (decide (ds.length+es.length<=lim)) (.ok (.next,ρ.set i (U (.lst (ds++es))),x.2))|_=>.bad))
 |.clr i,ρ,S=>(kJ ρ i).bind λ_=>.ok (.next,ρ.set i (U (.lst [])),S)
 |.HS c,ρ,S=>(ev F c ρ S).bind λx=>.ok (.next,ρ,x.2)
 |.ret c,ρ,S=>(ev F c ρ S).bind λx=>.ok (.ret x.1,ρ,x.2)
 |.retN,ρ,S=>.ok (.ret .aE,ρ,S)
 |.ifs t a b,ρ,S=>(aQ F t ρ S).bind λx=>if x.1 then az F a ρ x.2 else az F b ρ x.2
 |.fr tg it b,ρ,S=>(eI F it ρ S).bind λx=>af (decide (uK it=0)||jr F it ρ S) (forL tg (az F b) x.1 ρ x.2)
 |.wh t b,ρ,S=>cQ (aQ F t) (az F b) c7 ρ S
 |.rs k vs,ρ,S=>af (vs.all (wx ρ)) (.ex k)
 |.tr b sV,ρ,S=>af S.isNone (match az F b ρ S with|.ex k=>(match sV[k]? with|some (U v)=>.ok (.ret (.bl v),ρ,S)|_=>.bad)|r=>r)
 |.brk,ρ,S=>.ok (.brk,ρ,S)
 |.cnt,ρ,S=>.ok (.cnt,ρ,S)
 |.Gq,ρ,S=>.ok (.next,ρ,S)
noncomputable def az(F:FT):Ts->aj->Sx->RS
 |.nil,ρ,S=>.ok (.next,ρ,S)
 |.cons t ts,ρ,S=>(ex F t ρ S).bind λp=>match p.1 with
  |.next=>az F ts p.2.1 p.2.2
  |f=>.ok (f,p.2)
end
structure Fn where
 ps:Nat
 n:Nat
 a6:Bool
 body:Ts
def gk(F:FT)(f:Fn)(args:List Dt)(S:Sx):R (Dt×Sx):=
 if args.length+(if f.a6 then 1 else 0)=f.ps then
  (az F f.body ((if f.a6 then[y'] else[])++args.map U++List.replicate (f.n-f.ps) y') S).bind λp=>match p.1 with
   |.next=>.ok (.aE,p.2.2)
   |.ret d=>.ok (d,p.2.2)
   |_=>.bad
 else .bad
def ai(fs:List Fn):Nat->FT
 |0,_,_,_=>.bad
 |n+1,f,args,S=>match fs[f]? with
  |some g=>gk (ai fs n) g args S
  |none=>.bad
structure G where
 fns:List (Str×Nat×List Dt×Bool)
 cons:List (Str×Dt)
 bls:List Str
 fr:Nat->Bool
 xs:List (Str×List (Str×Bool))
structure Gm where
 names:List (Str×NameKind)
 N:List Str
 M:List Bool
 δ:Option Nat
 κ:Option Nat
def AJ:Option NameKind->Bool
 |some .local=>B'
 |some .cell=>B'
 |some .free=>B'
 |_=>G'
def zr:Option NameKind->Bool
 |some .local=>B'
 |some .cell=>B'
 |_=>G'
def ue:Option NameKind->Bool
 |some .globalImplicit=>B'
 |_=>G'
def ze(x:Str):List Str->Option Nat
 |[]=>y'
 |y::r=>if x==y then U 0 else(ze x r).map (· + 1)
theorem jG{x:Str}:∀{l:List Str}{i:Nat},ze x l=U i->l[i]?=U x
 |[],i,h=>by simp[ze]at h
 |y::r,i,h=>by
  unfold ze at h;by_cases e:(x==y)=B'
  ·rw[V2 e]at h;cases h;have:x=y:=by simpa using e
   simp[this]
  ·rw[V1 e]at h;obtain⟨j,h1,rfl⟩:=TJ.mp h;simp[jG h1]
def cH(x:Str):Bool:= !(x==("__debug__":Str))&& !(x==("__classdict__":Str))&& !(x==("__name__":Str))
def slot(Γ:Gm)(x:Str):Option Nat:=if AJ (Γ.names.lookup x)&&cH x then ze x Γ.N else y'
def eh(Γ:Gm)(x:Str):Option Nat:=if zr (Γ.names.lookup x)&&cH x then ze x Γ.N else y'
def ff(Γ:Gm)(i:Nat):Bool:=Γ.M[i]?==U B'
def plainS(Γ:Gm)(i:Nat):Bool:= !ff Γ i&& !(Γ.δ==U i)
def rA(x:Str):List (Str×Nat×List Dt×Bool)->Option (Nat×Nat×List Dt×Bool)
 |[]=>y'
 |y::r=>if x==y.1 then U (0,y.2) else(rA x r).map λp=>(p.1+1,p.2)
def xU:List (Str×Nat×BI):=[("len",1,.len),("min",2,.min2),("max",2,.max2),("sorted",1,.sorted),("tuple",1,.tuple),("list",1,.list),("int",1,.int),("str",1,.str)]
def Bo(x:Str)(n:Nat):Option BI:=(xU.find? λt=>t.1==x&&t.2.1==n).map (·.2.2)
def sZ(x:Str):Option String:=
 if x==("str":Str) then U "str" else if x==("int":Str) then U "int" else if x==("bool":Str) then U "bool"
 else if x==("list":Str) then U "list" else if x==("tuple":Str) then U "tuple" else y'
def qa(Γ:Gm):Expr->Option Nat
 |.Name x _=>(eh Γ x).bind λi=>if plainS Γ i then U i else y'
 |_=>y'
def fB(Γ:Gm):List Expr->Option (List Nat)
 |[]=>U []
 |e::es=>(qa Γ e).bind λi=>(fB Γ es).map (i:: ·)
def xY(Γ:Gm):Expr->Option Tg
 |.Name x p=>(qa Γ (.Name x p)).map .nm
 |.Tuple es _ _=>(fB Γ es).map .tp
 |_=>y'
def Ng(names:List (Str×NameKind)):List Str:=names.filterMap λp=>if AJ (U p.2) then U p.1 else y'
def Ey(names:List (Str×NameKind))(N:List Str):List (Option Nat):=names.filterMap λp=>match p.2 with
 |.local=>U y'
 |.free=>U (ze p.1 N)
 |.cell=>U y'
 |_=>y'
def Ez(cap:List (Option Nat))(M:List Bool):List Bool:=cap.map λo=>o.elim G' λi=>M[i]?==U B'
def Bd(δ:Option Nat):List (Option Nat)->Option Nat
 |[]=>y'
 |o::r=>if δ.isSome&&o==δ then U 0 else(Bd δ r).map (· + 1)
def bh(Γ:Gm)(sc:Scope):Gm×List (Option Nat):=
 let cap:=Ey sc.names Γ.N
 (#[sc.names,Ng sc.names,Ez cap Γ.M,Bd Γ.δ cap,Bd Γ.κ cap],cap)
def bM:Tg->List Nat
 |.nm i=>[i]
 |.tp is=>is
def Br(names on:List (Str×NameKind))(N' Nn:List Str)(cap:List (Option Nat)):Bool:=
 names.all (λy=>names.lookup y.1==U y.2&&(y.2 != .free||(on.lookup y.1==U .cell||on.lookup y.1==U .free)))&&
 (cap.length==N'.length)&&(List.range cap.length).all (λj=>match cap[j]? with
  |some (U i)=>(match N'[j]? with
   |some x=>Nn[i]?==U x&&names.lookup x==U .free
   |none=>G')
  |_=>B')
inductive LA where
 |nm (f:Str) (p:Pos)|at (o:Expr) (m:Str) (ap:Pos)|cl (f:Expr) (as:List Expr) (q:Pos)|int (i:Int) (k:Nat) (p:Pos)|tp (es:List Expr) (k:Nat) (p:Pos)|oth
def LA.e:LA->Option Expr
 |.nm f p=>U (.Name f p)
 |.at o m ap=>U (.Attribute o m ap)
 |.cl f as q=>U (.Call f as [] q)
 |.int i k p=>U (.Constant (.int i) k p)
 |.tp es k p=>U (.Tuple es k p)
 |.oth=>y'
def DC:Expr->LA
 |.Name f p=>.nm f p
 |.Attribute o m ap=>.at o m ap
 |.Call f as [] q=>.cl f as q
 |.Constant (.int i) k p=>.int i k p
 |.Tuple es k p=>.tp es k p
 |_=>.oth
theorem EN(e:Expr):(DC e).e=y'\/(DC e).e=U e:=by cases e<;>first|exact .inl rfl|exact .inr rfl|(rename_i _ _ ks _;cases ks<;>first|exact .inl rfl|exact .inr rfl)|(rename_i c _ _;cases c<;>first|exact .inl rfl|exact .inr rfl)
theorem iU{e s:Expr}{v:LA}(h:DC e=v)(q:v.e=U s):e=s:=by rw[<-h]at q;exact(EN e).elim (λk=>by rw[k]at q;cases q) λk=>VN (k.symm.trans q)
def Ij(e:Expr):Option (Str×Pos):=match DC e with
 |.nm x p=>U (x,p)
 |_=>y'
theorem rW{e:Expr}{q:Str×Pos}(h:Ij e=U q):e= .Name q.1 q.2:=by unfold Ij at h;split at h<;>cases h;exact iU ‹_› rfl
def LV(e:Expr):Option (Expr×List Expr×Pos):=match DC e with
 |.cl f as q=>U (f,as,q)
 |_=>y'
theorem yd{e f:Expr}{as:List Expr}{q:Pos}(h:LV e=U (f,as,q)):e= .Call f as [] q:=by unfold LV at h;split at h<;>cases h;exact iU ‹_› rfl
def Ft(e:Expr):Bool:=match DC e with
 |.tp _ _ _=>B'
 |_=>G'
theorem B1{e:Expr}(h:Ft e=B'):∃es k p,e= .Tuple es k p:=by unfold Ft at h;split at h<;>cases h;exact#[_,_,_,iU ‹_› rfl]
def Og(Γ:Gm)(e:Expr):Bool:=match Ij e with
 |some x=>match slot Γ x.1 with
  |some i=>Γ.δ==U i
  |none=>G'
 |none=>G'
section
variable{α β γ δ:Type}{x:Option α}{y:Option β}{z:Option γ}{c:δ}
theorem bx{f:α->Option δ}{P:Prop}(h:x.bind f=U c)(H:∀a,x=U a->f a=U c->P):P:=by
 cases x with
 |none=>cases h
 |some a=>exact H a rfl h
@[elab_as_elim] theorem xh{k:α->δ}{P:δ->Prop}(c:δ)(h:(x.bind λa=>U (k a))=U c)(H:∀a,x=U a->P (k a)):P c:=bx h λa e q=>VN q▸H a e
@[elab_as_elim] theorem pB{k:α->β->δ}{P:δ->Prop}(c:δ)(h:(x.bind λa=>y.bind λb=>U (k a b))=U c)(H:∀a,x=U a->∀b,y=U b->P (k a b)):P c:=bx h λa e q=>bx q λb e2 q2=>VN q2▸H a e b e2
@[elab_as_elim] theorem LS{k:α->β->γ->δ}{P:δ->Prop}(c:δ)(h:(x.bind λa=>y.bind λb=>z.bind λd=>U (k a b d))=U c)(H:∀a,x=U a->∀b,y=U b->∀d,z=U d->P (k a b d)):P c:=bx h λa e q=>bx q λb e2 q2=>bx q2 λd e3 q3=>VN q3▸H a e b e2 d e3
end
def Py(g:G)(Γ:Gm)(x:Str):Option C:=match slot Γ x with
   |some i=>if Γ.δ==U i||Γ.κ==U i then y' else if ff Γ i then U (.mvr i) else U (.var i)
   |none=>if ue (Γ.names.lookup x)&&cH x then(g.cons.lookup x).map .con else y'
def IL(cE:Nat->G->Gm->Expr->Option C)(n:Nat)(g:G)(Γ:Gm)(a:Expr)(os:List CmpOp)(bs:List Expr):Option C:=match os,bs with
   |[o],[b]=>(cE n g Γ a).bind λa'=>(cE n g Γ b).bind λb'=>U (.cmp o a' b')
   |[o,p],[b,c]=>(cE n g Γ a).bind λa'=>(cE n g Γ b).bind λb'=>(cE n g Γ c).bind λc'=>U (.ch o p a' b' c')
   |_,_=>y'
def IU(cE:Nat->G->Gm->Expr->Option C)(n:Nat)(g:G)(Γ:Gm)(a b:Expr):Option C:=match b with
   |.Slice (U l) y' y' _=>(cE n g Γ a).bind λa'=>(cE n g Γ l).bind λl'=>U (.sliL a' l')
   |.Slice y' (U h) y' _=>(cE n g Γ a).bind λa'=>(cE n g Γ h).bind λh'=>U (.sliH a' h')
   |.Slice (U l) (U h) y' _=>(cE n g Γ a).bind λa'=>(cE n g Γ l).bind λl'=>(cE n g Γ h).bind λh'=>U (.sliB a' l' h')
   |b=>(cE n g Γ a).bind λa'=>(cE n g Γ b).bind λb'=>U (.idx a' b')
def Pw(cE:Nat->G->Gm->Expr->Option C)(n:Nat)(g:G)(Γ:Gm)(o:Expr)(m:Str)(ap:Pos)(as:List Expr)(pos:Pos):Option C:=match as with
   |[a]=>if m==("join":Str) then(if ap.endLine==pos.line then(cE n g Γ o).bind λo'=>(cE n g Γ a).bind λa'=>U (.mt .join o' (.cons a' .nil)) else y') else y'
   |_=>y'
def Px(cE:Nat->G->Gm->Expr->Option C)(l6:Nat->G->Gm->Str->Expr->List Expr->Option C)(n:Nat)(g:G)(Γ:Gm)(f:Expr)(as:List Expr)(ks:List Keyword)(pos:Pos):Option C:=match ks with
   |[]=>(match DC f with
    |.nm f _=>(match as with
     |a::as=>l6 n g Γ f a as
     |[]=>y')
    |.at o m ap=>Pw cE n g Γ o m ap as pos
    |_=>y')
   |_=>y'
def LU(cE:Nat->G->Gm->Expr->Option C)(cI:Nat->G->Gm->Expr->Expr->Option oX)(Ds:Nat->G->Gm->List Expr->Option Cs)(n:Nat)(g:G)(Γ:Gm)(elt:Expr)(gens:List Comprehension)(sc:Scope):Option C:=
   let b:=bh Γ sc
   if sc.kind== .function then(match gens with
   |[#[tg,it,ifs,0]]=>(cI n g Γ tg it).bind λgC=>(xY b.1 tg).bind λAD=>(Ds n g b.1 ifs).bind λBf=>(cE n g b.1 elt).bind λe'=>
    if Br sc.names Γ.names b.1.N Γ.N b.2&&decide b.1.N.Nodup then U (.comp b.2 gC AD Bf e') else y'
   |_=>y') else y'
def IM(lJ:Nat->G->Gm->List Expr->Option Cs)(n:Nat)(g:G)(Γ:Gm)(k np:Nat)(a:Expr)(as:List Expr):Option C:=(Ij a).bind λx=>(slot Γ x.1).bind λi=>if Γ.δ==U i&&as.length+1==np then y' else y'
def IP(cE:Nat->G->Gm->Expr->Option C)(n:Nat)(g:G)(Γ:Gm)(a:Expr)(as:List Expr):Option C:=(match as with
     |[e]=>(Ij e).bind λt=>if ue (Γ.names.lookup t.1)&&g.bls.contains t.1 then(sZ t.1).bind λT=>(cE n g Γ a).bind λa'=>U (.bi (.isi T) (.cons a' .nil)) else y'
     |_=>y')
def pC(lJ:Nat->G->Gm->List Expr->Option Cs)(n:Nat)(g:G)(Γ:Gm)(f:Str)(a:Expr)(as:List Expr):Option C:=(Bo f (as.length+1)).bind λi=>(lJ n g Γ (a::as)).bind λes=>U (.bi i es)
def IQ(cE:Nat->G->Gm->Expr->Option C)(lJ:Nat->G->Gm->List Expr->Option Cs)(n:Nat)(g:G)(Γ:Gm)(f:Str)(a:Expr)(as:List Expr):Option C:=match as with
   |[]=>(match LV a with
    |some (h,xs,ip)=>(match DC h with
     |.nm r _=>(match xs with
      |[b]=>if r==("reversed":Str) then y'
       else if r==("set":Str) then y'
       else pC lJ n g Γ f a []
      |[b,c]=>if r==("zip":Str) then y'
       else pC lJ n g Γ f a []
      |_=>pC lJ n g Γ f a [])
     |.at _ _ _=>pC lJ n g Γ f a []
     |_=>pC lJ n g Γ f a [])
    |none=>pC lJ n g Γ f a [])
   |_=>pC lJ n g Γ f a as
def IT(cE:Nat->G->Gm->Expr->Option C)(n:Nat)(g:G)(Γ:Gm)(f:Str)(tg e:Expr)(as:List Expr):Option oX:=match as with
   |[a]=>if f==("range":Str) then(if ue (Γ.names.lookup f)&&g.bls.contains f then(cE n g Γ a).bind λa'=>U (.rng1 a') else y')
    else(cE n g Γ e).bind λc=>U (.seq c)
   |[a,b]=>if f==("range":Str) then(if ue (Γ.names.lookup f)&&g.bls.contains f then y' else y')
    else if f==("zip":Str) then(if Ft tg&&ue (Γ.names.lookup f)&&g.bls.contains f then(cE n g Γ a).bind λa'=>(cE n g Γ b).bind λb'=>U (.zip a' b') else y')
    else(cE n g Γ e).bind λc=>U (.seq c)
   |[a,b,d]=>if f==("range":Str) then(if ue (Γ.names.lookup f)&&g.bls.contains f then(cE n g Γ a).bind λa'=>(cE n g Γ b).bind λb'=>(cE n g Γ d).bind λd'=>U (.rng3 a' b' d') else y')
    else(cE n g Γ e).bind λc=>U (.seq c)
   |_=>(cE n g Γ e).bind λc=>U (.seq c)
mutual
noncomputable def cE:Nat->G->Gm->Expr->Option C
 |0,_,_,_=>y'
 |n+1,g,Γ,e=>match e with
  |.Constant k _ _=>match k with
   |.int i=>U (.con (.int i))
   |.str x=>U (.con (.str x))
   |.bool x=>U (.con (.bl x))
   |.none=>U (.con .aE)
   |_=>y'
  |.Name x _=>Py g Γ x
  |.BinOp a o b _=>(cE n g Γ a).bind λa'=>(cE n g Γ b).bind λb'=>U (.bin o a' b')
  |.UnaryOp o a _=>(cE n g Γ a).bind λa'=>match o with
   |.USub=>U (.neg a')
   |.Not=>U (.nt a')
   |_=>y'
  |.BoolOp o vs _=>cB n g Γ o vs
  |.Compare a os bs _=>IL (λ_=>cE n) n g Γ a os bs
  |.Subscript a b _=>IU (λ_=>cE n) n g Γ a b
  |.Tuple es _ _=>(lJ n g Γ es).bind λgi=>U (.tup gi)
  |.List es _=>(lJ n g Γ es).bind λgi=>U (.lst gi)
  |.Call f as ks pos=>Px (λ_=>cE n) (λ_=>l6 n) n g Γ f as ks pos
  |.ListComp elt gens sc _=>LU (λ_=>cE n) (λ_=>cI n) (λ_=>Ds n) n g Γ elt gens sc
  |_=>y'
noncomputable def lJ:Nat->G->Gm->List Expr->Option Cs
 |0,_,_,_=>y'
 |n+1,g,Γ,es=>match es with
  |[]=>U .nil
  |e::es=>(cE n g Γ e).bind λe'=>(lJ n g Γ es).bind λgi=>U (.cons e' gi)
noncomputable def Ds:Nat->G->Gm->List Expr->Option Cs
 |0,_,_,_=>y'
 |n+1,g,Γ,es=>match es with
  |[]=>U .nil
  |[e]=>(cE n g Γ e).bind λe'=>U (.cons e' .nil)
  |_=>y'
noncomputable def cB:Nat->G->Gm->BoolOp->List Expr->Option C
 |0,_,_,_,_=>y'
 |n+1,g,Γ,o,es=>match es with
  |[e]=>cE n g Γ e
  |e::es=>(cE n g Γ e).bind λe'=>(cB n g Γ o es).bind λgi=>U (match o with|.And=>.and e' gi|.Or=>.or e' gi)
  |[]=>y'
noncomputable def cI:Nat->G->Gm->Expr->Expr->Option oX
 |0,_,_,_,_=>y'
 |n+1,g,Γ,tg,e=>match LV e with
  |some (h,as,_)=>(match Ij h with
   |some f=>IT (λ_=>cE n) n g Γ f.1 tg e as
   |none=>(cE n g Γ e).bind λc=>U (.seq c))
  |none=>(cE n g Γ e).bind λc=>U (.seq c)
noncomputable def l6:Nat->G->Gm->Str->Expr->List Expr->Option C
 |0,_,_,_,_,_=>y'
 |n+1,g,Γ,f,a,as=>if ue (Γ.names.lookup f)&&cH f then(match rA f g.fns with
  |some (k,np,fy,a6)=>if a6 then IM (λ_=>lJ n) n g Γ k np a as
   else if as.length+1<=np&&np-(as.length+1)<=fy.length then(lJ n g Γ (a::as)).bind λes=>U (.call k es (fy.drop (fy.length-(np-(as.length+1))))) else y'
  |none=>if g.bls.contains f then
    (if f==("len":Str)&&Og Γ a&&as.isEmpty then y'
    else if f==("isinstance":Str) then IP (λ_=>cE n) n g Γ a as
    else IQ (λ_=>cE n) (λ_=>lJ n) n g Γ f a as)
    else y')
  else y'
end
section
variable{P:Program}{w:World}{K:Frag}{A B:Addr->Prop}{H:Hp}{s:Shared}
theorem elts(hok:dN P w H s.heap){tw tD:List V}{i1 i2:List Dt}{iX b9:List Value}{R:Around}{n:Nat}(g1:ar K A H tw i1)(g2:ar K B H tD i2)(r1:ay tw iX)(r2:ay tD b9)(l1:iX.toArray.size=i1.length)(l2:b9.toArray.size=i2.length)
  (p1:oE i1=B') (p2:oE i2=B') (hd:rf i1<=n) (hu:R.in1.units+n<cLine) (j:Nat) (h1:j<iX.toArray.size) (h2:j<b9.toArray.size):EqAt R.in1 s iX.toArray[j] b9.toArray[j] (Ab i1 i2 j):=yt (Je hok n) g1 g2 r1 r2 l1 l2 p1 p2 hd hu j h1 h2
theorem Kw(hok:dN P w H s.heap)(n:Nat)(d e:Dt)(x y:V)(u v:Value)(R:Around)(hd:dp d<=n+1)(jh:pl d=B')(hJ:pl e=B')(hu:R.units+n+1<cLine)(hx:RV K A H x d)(hy:RV K B H y e)(rx:RelV x u)(ry:RelV y v):RcAt R s u v (cu d e):=by
 have k2:=kd hok hJ hy ry;cases kd hok jh hx rx with
 |n=>cases k2 with
  |n=>exact RcAt.none_none
  |b b2=>exact RcAt.none_bool b2
  |i i2 t2=>exact RcAt.none_int i2 t2
  |s z2 t2=>exact RcAt.none_str z2 t2
  |t _ h=>exact RcAt.none_tuple h ⋯
  |l _ h=>exact RcAt.none_list h ⋯
 |b b1=>cases k2 with
  |n=>exact RcAt.bool_none b1
  |b b2=>exact RcAt.bool_bool b1 b2
  |i i2 t2=>exact RcAt.bool_int b1 i2 t2
  |s z2 t2=>exact RcAt.bool_str b1 z2 t2
  |t _ h=>exact RcAt.bool_tuple b1 h ⋯
  |l _ h=>exact RcAt.bool_list b1 h ⋯
 |i i1 t1=>cases k2 with
  |n=>exact RcAt.int_none i1 t1
  |b b2=>exact RcAt.int_bool i1 t1 b2
  |i i2 t2=>exact RcAt.int_int i1 t1 i2 t2
  |s z2 t2=>exact RcAt.int_str i1 t1 z2 t2
  |t _ h=>exact RcAt.int_tuple i1 t1 h ⋯
  |l _ h=>exact RcAt.int_list i1 t1 h ⋯
 |s z1 t1=>cases k2 with
  |n=>exact RcAt.str_none z1 t1
  |b b2=>exact RcAt.str_bool z1 t1 b2
  |i i2 t2=>exact RcAt.str_int z1 t1 i2 t2
  |s z2 t2=>exact RcAt.str_str z1 t1 z2 t2
  |t _ h=>exact RcAt.str_tuple z1 t1 h ⋯
  |l _ h=>exact RcAt.str_list z1 t1 h ⋯
 |t l1 ht1 o1=>
  rename_i i1;obtain⟨tw,g1,r1⟩:=o1;cases k2 with
  |n=>exact RcAt.tuple_none ht1 ⋯
  |b b2=>exact RcAt.tuple_bool b2 ht1 ⋯
  |i i2 t2=>exact RcAt.tuple_int i2 t2 ht1 ⋯
  |s z2 t2=>exact RcAt.tuple_str z2 t2 ht1 ⋯
  |l _ h=>exact RcAt.tuple_list ht1 h ⋯
  |t l2 o6 o2=>rename_i i2;obtain⟨tD,g2,r2⟩:=o2;have key:=RcAt.tuples (A:=R) (e:=Ab i1 i2) ht1 o6 ⋯ (elts hok g1 g2 r1 r2 l1 l2 (by simpa [pl]using jh) (by simpa [pl]using hJ) (n:=n) (by unfold dp at hd;lia) (by show R.units+1+n<cLine;lia));have q:=cD i1 i2;rw[<-l1,<-l2]at q;rw[q]at key;exact key
 |l l1 ht1 o1=>
  rename_i i1;obtain⟨tw,g1,r1⟩:=o1;cases k2 with
  |n=>exact RcAt.list_none ht1 ⋯
  |b b2=>exact RcAt.list_bool b2 ht1 ⋯
  |i i2 t2=>exact RcAt.list_int i2 t2 ht1 ⋯
  |s z2 t2=>exact RcAt.list_str z2 t2 ht1 ⋯
  |t _ h=>exact RcAt.list_tuple ht1 h ⋯
  |l l2 o6 o2=>
   rename_i i2;obtain⟨tD,g2,r2⟩:=o2;have q:=cD i1 i2;by_cases hl:i1.length=i2.length
   ·have key:=RcAt.lists (A:=R) (e:=Ab i1 i2) ht1 o6 ⋯ ⋯ (elts hok g1 g2 r1 r2 l1 l2 (by simpa [pl]using jh) (by simpa [pl]using hJ) (n:=n) (by unfold dp at hd;lia) (by show R.units+1+n<cLine;lia));rw[hl,Nat.min_self,VX,Uy]at q;rw[l1,hl,q]at key;exact key
   ·have key:=RcAt.lists_lengths (A:=R) ht1 o6 (by rw[l1,l2];simpa using hl) ⋯;have hb:(i1.length==i2.length)=G':=by simpa using hl
    rw[hb,Ux]at q;show RcAt R s _ _ (bY i1 i2);rw[<-q];exact key
theorem CZ(hok:dN P w H s.heap)(n:Nat)(d e:Dt)(x y:V)(u v:Value)(R:Around)(hd:dp d<=n+1)(jh:pl d=B')(hJ:pl e=B')(hu:R.units+n+1<cLine)(hx:RV K A H x d)(hy:RV K B H y e)(rx:RelV x u)(ry:RelV y v):RcNeAt R s u v (!cu d e):=by
 have k2:=kd hok hJ hy ry;cases kd hok jh hx rx with
 |n=>cases k2 with
  |n=>exact RcNeAt.none_none
  |b b2=>exact RcNeAt.none_bool b2
  |i i2 t2=>exact RcNeAt.none_int i2 t2
  |s z2 t2=>exact RcNeAt.none_str z2 t2
  |t _ h=>exact RcNeAt.none_tuple h ⋯
  |l _ h=>exact RcNeAt.none_list h ⋯
 |b b1=>cases k2 with
  |n=>exact RcNeAt.bool_none b1
  |b b2=>exact RcNeAt.bool_bool b1 b2
  |i i2 t2=>exact RcNeAt.bool_int b1 i2 t2
  |s z2 t2=>exact RcNeAt.bool_str b1 z2 t2
  |t _ h=>exact RcNeAt.bool_tuple b1 h ⋯
  |l _ h=>exact RcNeAt.bool_list b1 h ⋯
 |i i1 t1=>cases k2 with
  |n=>exact RcNeAt.int_none i1 t1
  |b b2=>exact RcNeAt.int_bool i1 t1 b2
  |i i2 t2=>exact RcNeAt.int_int i1 t1 i2 t2
  |s z2 t2=>exact RcNeAt.int_str i1 t1 z2 t2
  |t _ h=>exact RcNeAt.int_tuple i1 t1 h ⋯
  |l _ h=>exact RcNeAt.int_list i1 t1 h ⋯
 |s z1 t1=>cases k2 with
  |n=>exact RcNeAt.str_none z1 t1
  |b b2=>exact RcNeAt.str_bool z1 t1 b2
  |i i2 t2=>exact RcNeAt.str_int z1 t1 i2 t2
  |s z2 t2=>exact RcNeAt.str_str z1 t1 z2 t2
  |t _ h=>exact RcNeAt.str_tuple z1 t1 h ⋯
  |l _ h=>exact RcNeAt.str_list z1 t1 h ⋯
 |t l1 ht1 o1=>
  rename_i i1;obtain⟨tw,g1,r1⟩:=o1;cases k2 with
  |n=>exact RcNeAt.tuple_none ht1 ⋯
  |b b2=>exact RcNeAt.tuple_bool b2 ht1 ⋯
  |i i2 t2=>exact RcNeAt.tuple_int i2 t2 ht1 ⋯
  |s z2 t2=>exact RcNeAt.tuple_str z2 t2 ht1 ⋯
  |l _ h=>exact RcNeAt.tuple_list ht1 h ⋯
  |t l2 o6 o2=>rename_i i2;obtain⟨tD,g2,r2⟩:=o2;have key:=RcNeAt.tuples (A:=R) (e:=Ab i1 i2) ht1 o6 ⋯ (elts hok g1 g2 r1 r2 l1 l2 (by simpa [pl]using jh) (by simpa [pl]using hJ) (n:=n) (by unfold dp at hd;lia) (by show R.units+1+n<cLine;lia));have q:=cD i1 i2;rw[<-l1,<-l2]at q;rw[q]at key;exact key
 |l l1 ht1 o1=>
  rename_i i1;obtain⟨tw,g1,r1⟩:=o1;cases k2 with
  |n=>exact RcNeAt.list_none ht1 ⋯
  |b b2=>exact RcNeAt.list_bool b2 ht1 ⋯
  |i i2 t2=>exact RcNeAt.list_int i2 t2 ht1 ⋯
  |s z2 t2=>exact RcNeAt.list_str z2 t2 ht1 ⋯
  |t _ h=>exact RcNeAt.list_tuple ht1 h ⋯
  |l l2 o6 o2=>
   rename_i i2;obtain⟨tD,g2,r2⟩:=o2;have q:=cD i1 i2;by_cases hl:i1.length=i2.length
   ·have key:=RcNeAt.lists (A:=R) (e:=Ab i1 i2) ht1 o6 ⋯ ⋯ (elts hok g1 g2 r1 r2 l1 l2 (by simpa [pl]using jh) (by simpa [pl]using hJ) (n:=n) (by unfold dp at hd;lia) (by show R.units+1+n<cLine;lia));rw[hl,Nat.min_self,VX,Uy]at q;rw[l1,hl,q]at key;exact key
   ·have key:=RcNeAt.lists_lengths (A:=R) ht1 o6 (by rw[l1,l2];simpa using hl) ⋯;have hb:(i1.length==i2.length)=G':=by simpa using hl
    rw[hb,Ux]at q;show RcNeAt R s _ _ (!bY i1 i2);rw[<-q];exact key
end
end Rx
end
section
namespace Mx
open PySem PySem.Spec PySem.W PyProof.Rows L2
section
variable{X:Cx}
theorem zB:gP X (compareOp .LtE) (λx y H Q=>∃i j,x= .str i/\y= .str j/\Q (.bl (!decide (j.cps.toList<i.cps.toList))) H):=λJ' s σ H x y v u Q I rx ry h=>by obtain⟨i,j,rfl,rfl,q⟩:=h;obtain⟨t,rfl⟩:=rx;obtain⟨t',rfl⟩:=ry;exact PySem.P.le_str (rz I q rfl)
theorem J7{x:Str}{n:Int}(h1:n.natAbs<=1000000)(h2:x.length*n.toNat<=1000000):MulOk x n:=by
 refine#[by simp;lia,λh0 _ hc=>?_,λh0 _=>?_]
 ·have h3:(x.length:Int)*n<=1000000:=by
   have:(x.length:Int)*n=((x.length*n.toNat:Nat):Int):=by rw[Int.natCast_mul,Int.toNat_of_nonneg ⋯]
   lia
  have h4:(x.length:Int)<=(2^63-1)/n:=(Int.le_ediv_iff_mul_le ⋯).mpr ⋯
  lia
 ·have:PySem.Builtin.Str.tooLong (x.length*n.toNat)=decide (sizeLine<x.length*n.toNat):=rfl;rw[this];have:=Wc;exact T1 ⋯
theorem wA:gP X (binaryOp .Mult) (λx y H Q=>∃z n,x= .str z/\y= .int n/\n.natAbs<=1000000/\z.length*n.toNat<=1000000/\Q (.str (Txt.mul z n)) H):=λJ' s σ H x y v u Q I rx ry h=>by obtain⟨z,n,rfl,rfl,h1,h2,q⟩:=h;obtain⟨t,rfl⟩:=rx;obtain⟨t',rfl⟩:=ry;exact SB.mul (J7 h1 h2) λt k=>#[.str _,H,I.tok _,#[_,rfl],q]
theorem pD:dy X (.type "int") (λxs H Q=>∃x n,xs=[.str x]/\x.length<=640/\PySem.intText? x=U n/\Q (.int n) H):=λJ' s σ H xs us Q I r h=>by obtain⟨x,n,rfl,h1,h2,q⟩:=h;obtain⟨u,rfl,t,rfl⟩:=vals1 r;exact KIN.call_text h2 h1 #[.int n,H,I.tok _,#[_,rfl],q]
end
end Mx
end
section
namespace HT
open PySem PyProof.Rows
section
variable{prog:Program}{w:World}{A:Around}{E:Value->Shared->Prop}{s:Shared}
theorem f6{t sl:Addr}{items:Array Value}{vl vu:Value}{lo hi:Option Int}{Q:Value->Shared->Prop}(ht:IsTup s.heap t items)(hs:s.heap.IsSliceOf sl vl vu .none)(pl:IsPart vl lo)(pu:IsPart vu hi)
  (hw:bV items.size 0 lo=0/\bV items.size items.size hi=items.size) (h:Q (.ref t) s) (jD:items.size<=sizeLine):wpAny (model prog w) A (getItem (.ref t) (.ref sl)) Q E s:=by
 obtain⟨os,Fe,xm,Jz⟩:=id hs;have NR:s.TypeIs (.ref sl) "slice":=#[os,Fe,xm];unfold getItem
 try with_reducible refine Wh ?_
 first|refine Td (Th ?_)|skip
 refine Td (wpAny_sequenceKey ht.typeIs (by decide) ?_);refine Td (We (name:=Str.ofString "__getitem__") ht.typeIs VP
  (Wf VP ht.typeIs entry_tuple_getitem ?_ (args_tuple_getitem _ _)))
 show wpAny _ _ (Builtin.Tuple.tupleItemsOf (.ref t) >>=_) _ _ s;refine Td (tupleItemsOf_ ht ?_);refine Td (Wt NR ?_);rw[V2 (by decide)];refine Td (eg hs pl pu ?_);show wpAny _ _ (if (((bV items.size 0 lo:Nat):Int)==0&&(1:Int)==1&&(bV items.size items.size hi-bV items.size 0 lo)==items.size)=B' then _ else _) _ _ s;rw[V2 (by rw[hw.1,hw.2];simp)];refine Td (Td (Wt ht.typeIs (Th ?_)));rw[V2 (by decide)];refine Td (Wp ?_);exact Th #[_,rfl,Th h]
end
end HT
namespace Rx
open PySem PySem.W PySem.Spec PyProof.Rows L2 PySem.SeqAt
abbrev N0:Addr->Prop:=λ_=>False
def fu(K:Frag)(A:Addr->Prop)(H:Hp)(v:V):Dt->Prop
 |.lst ds=>∃a xs,v= .ref a/\H a=U (.lst xs)/\ar K A H xs ds
 |d=>RV K A H v d
def mZ(K:Frag)(A:Addr->Prop)(H:Hp):List V->List Dt->Prop
 |[],[]=>True
 |x::xs,d::ds=>fu K A H x d/\mZ K A H xs ds
 |_,_=>False
section
variable{K:Frag}{A:Addr->Prop}{H H':Hp}
theorem RV.one{v d}(h:RV K A H v d):fu K A H v d:=by
 cases d with
 |lst ds=>obtain⟨a,xs,h1,h2,_,h3⟩:=h.lst_inv;exact#[a,xs,h1,h2,h3]
 |_=>exact h
theorem fu.ext{X:Addr->Prop}{v d}(h:fu K A H v d)(e:aR X H H')(hX:∀b,X b->A b)(hv:∀ds a,d= .lst ds->v= .ref a->¬X a):fu K A H' v d:=by
 cases d with
 |lst ds=>obtain⟨a,xs,h1,h2,h3⟩:=h;exact#[a,xs,h1,e.kp _ _ h2 (hv ds a rfl h1),h3.mono e hX λ_ z=>z]
 |_=>exact RV.mono e hX (λ_ z=>z) h
theorem ar.ones:∀{vs ds},ar K A H vs ds->mZ K A H vs ds
 |[],[],_=>trivial
 |[],_::_,h=>by unfold ar at h;exact h.elim
 |_::_,[],h=>by unfold ar at h;exact h.elim
 |_::_,_::_,h=>by unfold ar at h;exact#[h.1.one,h.2.ones]
end
structure PR(K:Frag)(fr:Bool)(xs:List V)(ds:List Dt)(H:Hp)(d:Dt)(v:V)(H':Hp):Prop where
 same:bI H H'
 val:∀A:Addr->Prop,(∀a,A a->∃o,H a=U o)->mZ K A H xs ds->RV K A H' v d
 eD:fr=B'->∀es,d= .lst es->∃a ys,v= .ref a/\H a=y'/\H' a=U (.lst ys)/\∀A:Addr->Prop,(∀a,A a->∃o,H a=U o)->mZ K A H xs ds->ar K (λb=>A b\/b=a) H' ys es
def rP(K:Frag)(fr:Bool)(f:List Dt->R Dt):List V->Hp->VK->Prop:=λxs H Q=>∃ds d,ar K N0 H xs ds/\f ds= .ok d/\∀v H',PR K fr xs ds H d v H'->Q v H'
section
variable{K:Frag}{fr:Bool}{xs:List V}{ds:List Dt}{H:Hp}{d:Dt}
def o8:Dt->Bool
 |.aE|.bl _|.int _|.str _=>B'
 |_=>G'
def qL:Dt->V
 |.bl b=>.bl b
 |.int b=>.int b
 |.str b=>.str b
 |_=>.aE
theorem qp{A:Addr->Prop}(h:o8 d=B'):RV K A H (qL d) d:=by
 cases d with
 |aE=>exact RV.oh
 |bl b=>exact RV.uN
 |int b=>exact RV.eL
 |str b=>exact RV.oj
 |_=>simp[o8]at h
theorem PR.sc(h:o8 d=B'):PR K fr xs ds H d (qL d) H:=#[bI.refl _,λA _ _=>qp h,λ_ es e=>by subst e;simp[o8]at h]
theorem PR.rV{p:Addr}{ys:List V}{es:List Dt}(hp:H p=y')(h:∀A:Addr->Prop,mZ K A H xs ds->ar K A H ys es):PR K fr xs ds H (.lst es) (.ref p) (upd H p (.lst ys)):=by
 have s:=Mx.cP hp (.lst ys);refine#[s,λA hA q=>RV.eM aJ (λz=>?_) ((h A q).same s),λ_ gi e=>?_]
 ·obtain⟨o,e⟩:=hA p z;rw[hp]at e;cases e
 ·cases e;exact#[p,ys,rfl,hp,aJ,λA hA q=>((h A q).avoid hp).same s]
theorem PR.FY{p:Addr}{ys:List V}{es:List Dt}(hp:H p=y')(h:∀A:Addr->Prop,mZ K A H xs ds->ar K A H ys es):PR K fr xs ds H (.tup es) (.ref p) (upd H p (.tup ys)):=by have s:=Mx.cP hp (.tup ys);exact#[s,λA hA q=>RV.gF aJ ((h A q).same s),λ_ gi e=>by cases e]
theorem PR.uI{p:Addr}{ys:List V}{es:List Dt}(hp:H p=U (.tup ys))(h:∀A:Addr->Prop,mZ K A H xs ds->ar K A H ys es):PR K fr xs ds H (.tup es) (.ref p) H:=
 #[bI.refl _,λA hA q=>RV.gF hp (h A q),λ_ gi e=>by cases e]
theorem cM:lim<=sizeLine:=by rw[Wc];decide
theorem aP{b:Bool}{α:Type}{r:R α}{a:α}(h:af b r= .ok a):b=B'/\r= .ok a:=by
 cases b with
 |true=>exact#[rfl,h]
 |false=>cases h
theorem fu.dH{A:Addr->Prop}{a:Addr}{xs:List V}{es:List Dt}(h:fu K A H (.ref a) (.lst es))(e:H a=U (.lst xs)):ar K A H xs es:=by obtain⟨b,ys,q,h1,h2⟩:=h;cases q;rw[e]at h1;cases h1;exact h2
theorem fu.aV{A:Addr->Prop}{a:Addr}{xs:List V}{es:List Dt}(h:fu K A H (.ref a) (.tup es))(e:H a=U (.tup xs)):ar K A H xs es:=by obtain⟨b,ys,q,h1,h2⟩:=RV.aw h;cases q;rw[e]at h1;cases h1;exact h2
end
section
variable{X:Cx}
def r2(K:Frag)(f:Dt->Dt->R Dt):R2:=λx y H Q=>∃d e z,RV K N0 H x d/\RV K N0 H y e/\f d e= .ok z/\∀v H',PR K B' [x,y] [d,e] H z v H'->Q v H'
theorem mC{i:Int}(h:i.natAbs<2^64): -(2^64)<i/\i<2^64:=⋯
theorem Ge:gP X (binaryOp .FloorDiv) (rI (λ_ j=>j≠0/\j.natAbs.log2<9000) λi j=>.int (i.fdiv j)):=Mp λi j _ _ _ _ _ hc q=>floordiv_int hc.1 q (.inl (PyProof.noPylong_of_log2 hc.2))
theorem Gb(o:Operator):gP X (binaryOp o) (r2 X.K (oz o)):=by
 intro J' s σ H x y v u Q I rx ry h;obtain⟨d,e,z,hx,hy,he,q⟩:=h;have E7:=cM;unfold oz at he;split at he
 ·split at he
  ·rename_i i j;cases he;exact Ga J' s σ H x y v u Q I rx ry #[i,j,hx.int_inv,hy.int_inv,q _ _ (PR.sc (d:=.int _) rfl)]
  ·rename_i i j;obtain⟨g,he⟩:=aP he;cases he;exact sf J' s σ H x y v u Q I rx ry #[i,j,hx.str_inv,hy.str_inv,Tz (Tn g) E7,q _ _ (PR.sc (d:=.str _) rfl)]
  ·rename_i i j;obtain⟨g,he⟩:=aP he;cases he;obtain⟨a,xs,rfl,h1,_,h2⟩:=hx.lst_inv;obtain⟨b,ys,rfl,k1,_,k2⟩:=hy.lst_inv;refine dI J' s σ H _ _ v u Q I rx ry #[a,b,xs,ys,rfl,rfl,h1,k1,?_,λp hp=>q _ _ (PR.rV hp λA w=>?_)]
   ·rw[h2.length,k2.length];exact Tz (Tn g) E7
   ·exact(fu.dH w.1 h1).append (fu.dH w.2.1 k1)
  ·rename_i i j;obtain⟨g,he⟩:=aP he;cases he;obtain⟨a,xs,rfl,h1,h2⟩:=hx.aw;obtain⟨b,ys,rfl,k1,k2⟩:=hy.aw;by_cases hd:xs=[]
   ·subst hd;cases h2.d5;cases rx;cases ry;obtain⟨its,r1,p1,_⟩:=I.tuple (dO.of h1);obtain⟨b9,r2,p2,_⟩:=I.tuple (dO.of k1);cases r1;obtain⟨⟨cls,dd,data,sl⟩,ho,hc,n,BS⟩:=p1;obtain⟨⟨IV,A2,data2,xx⟩,kB,lO,n2,rG⟩:=p2;simp only at hc BS lO rG;subst hc BS lO rG;exact concat_meets #[_,ho,rfl] #[_,kB,rfl] V8 seq_tuple_add VS VR (VQ _ _)
     (Mx.tuple_addW0 a b _ _ n n2 dd A2 sl xx rfl) #[ho,kB,#[.ref b,H,I,rfl,q _ _ (PR.uI k1 λA w=>fu.aV w.2.1 k1)]]
   ·refine Co J' s σ H (.ref a) (.ref b) v u Q I rx ry #[a,b,xs,ys,rfl,rfl,dO.of h1,dO.of k1,hd,?_,λe=>?_,λe p hp=>?_]
    ·rw[h2.length,k2.length];exact Tz (Tn g) E7
    ·subst e;cases k2.d5;rw[Uh]at q;exact q _ _ (PR.uI h1 λA w=>fu.aV w.1 h1)
    ·exact q _ _ (PR.FY hp λA w=>(fu.aV w.1 h1).append (fu.aV w.2.1 k1))
  ·cases he
 ·split at he
  ·rename_i i j;cases he;exact Gi J' s σ H x y v u Q I rx ry #[i,j,hx.int_inv,hy.int_inv,q _ _ (PR.sc (d:=.int _) rfl)]
  ·cases he
 ·split at he
  ·rename_i i j;obtain⟨g,he⟩:=aP he;cases he;refine Gg J' s σ H x y v u Q I rx ry #[i,j,hx.int_inv,hy.int_inv,?_,q _ _ (PR.sc (d:=.int _) rfl)];rw[Ui]at g;rcases g with g|g
   ·exact .inl (mC (Tn g))
   ·exact .inr (mC (Tn g))
  ·rename_i z j;obtain⟨g,he⟩:=aP he;cases he;rw[Ti]at g;exact Mx.wA J' s σ H x y v u Q I rx ry #[z,j,hx.str_inv,hy.int_inv,Tn g.1,Tn g.2,q _ _ (PR.sc (d:=.str _) rfl)]
  ·cases he
 ·split at he
  ·rename_i i j;obtain⟨g,he⟩:=aP he;cases he;rw[Ti]at g;exact Ge J' s σ H x y v u Q I rx ry #[i,j,hx.int_inv,hy.int_inv,#[Tn g.1,Tn g.2],q _ _ (PR.sc (d:=.int _) rfl)]
  ·cases he
 ·split at he
  ·rename_i i j;obtain⟨g,he⟩:=aP he;cases he;exact Cq J' s σ H x y v u Q I rx ry #[i,j,hx.int_inv,hy.int_inv,Tn g,q _ _ (PR.sc (d:=.int _) rfl)]
  ·cases he
 ·split at he
  ·rename_i i j;obtain⟨g,he⟩:=aP he;cases he;rw[Ti,Ti]at g;have g1:=Tn g.1.1;have g2:=Tn g.1.2;have g3:=Tn g.2;exact Gh J' s σ H x y v u Q I rx ry #[i,j,hx.int_inv,hy.int_inv,#[g1,⋯,g3],q _ _ (PR.sc (d:=.int _) rfl)]
  ·cases he
 ·cases he
def rC(K:Frag)(o:CmpOp):R2:=λx y H Q=>∃d e z,RV K N0 H x d/\RV K N0 H y e/\bT o d e= .ok z/\Q (.bl z) H
mutual
theorem uL:∀{d e:Mx.D},kI d e=B'->Mx.D.dG d e
 |.int _,.int _,_=>by unfold Mx.D.dG;trivial
 |.str _,.str _,_=>by unfold Mx.D.dG;trivial
 |.tup a,.tup b,h=>by unfold Mx.D.dG;exact i9 (by simpa [kI]using h)
 |.int _,.str _,h=>by simp[kI]at h
 |.int _,.tup _,h=>by simp[kI]at h
 |.str _,.int _,h=>by simp[kI]at h
 |.str _,.tup _,h=>by simp[kI]at h
 |.tup _,.int _,h=>by simp[kI]at h
 |.tup _,.str _,h=>by simp[kI]at h
theorem i9:∀{d e:List Mx.D},ik d e=B'->Mx.D.gj d e
 |[],_,_=>by unfold Mx.D.gj;trivial
 |_::_,[],_=>by unfold Mx.D.gj;trivial
 |x::xs,y::ys,h=>by simp only[ik,Ti]at h;unfold Mx.D.gj;exact#[uL h.1,i9 h.2]
end
theorem gH(o:CmpOp)(hu:X.A.units+150<cLine):gP X (compareOp o) (rC X.K o):=by
 intro J' s σ H x y v u Q I rx ry h;obtain⟨d,e,z,hx,hy,he,q⟩:=h;unfold bT at he;split at he
 ·obtain⟨g,he⟩:=aP he;cases he;unfold lL at g;rw[Ti,Ti]at g;exact Kw I.hok 100 d e x y v u X.A (Nat.le_succ_of_le (Tn g.2)) g.1.1 g.1.2 ⋯ hx hy rx ry X.prog X.w X.xe (EP X J' σ Q) #[.bl _,H,I,rfl,q]
 ·obtain⟨g,he⟩:=aP he;cases he;unfold lL at g;rw[Ti,Ti]at g;exact CZ I.hok 100 d e x y v u X.A (Nat.le_succ_of_le (Tn g.2)) g.1.1 g.1.2 ⋯ hx hy rx ry X.prog X.w X.xe (EP X J' σ Q) #[.bl _,H,I,rfl,q]
 ·rename_i i j;cases he;exact Ko J' s σ H x y v u Q I rx ry #[i,j,hx.int_inv,hy.int_inv,q]
 ·rename_i i j;cases he;exact Kn J' s σ H x y v u Q I rx ry #[i,j,hx.int_inv,hy.int_inv,q]
 ·rename_i i j;cases he;exact Mx.zB J' s σ H x y v u Q I rx ry #[i,j,hx.str_inv,hy.str_inv,q]
 ·rename_i i j;cases he;exact Km J' s σ H x y v u Q I rx ry #[i,j,hx.int_inv,hy.int_inv,q]
 ·rename_i i j;cases he;exact Kl J' s σ H x y v u Q I rx ry #[i,j,hx.int_inv,hy.int_inv,q]
 ·split at he
  ·rename_i xs ys h1 h2;obtain⟨g,he⟩:=aP he;cases he;rw[Ti]at g;rw[iw h1]at hx;rw[iw h2]at hy;exact Mx.BK I.hok 101 (.tup xs) (.tup ys) x y v u X.A (by have:=Tn g.2;unfold Mx.D.dep;lia) ⋯ (by unfold Mx.D.dG;exact i9 g.1) (RV.dv (m:=.tup xs) (by rw[ofD];exact hx)) (RV.dv (m:=.tup ys) (by rw[ofD];exact hy)) rx ry X.prog X.w X.xe (EP X J' σ Q) #[.bl _,H,I,rfl,by unfold Mx.D.lt at *;exact q]
  ·cases he
 ·cases he;refine Gf J' s σ H x y v u Q I rx ry #[hy.dc,?_];cases d with
  |aE=>rw[hx.dc];exact q
  |bl b=>rw[hx.bA];exact q
  |int b=>rw[hx.int_inv];exact q
  |str b=>rw[hx.str_inv];exact q
  |tup b=>obtain⟨a,xs,rfl,_⟩:=hx.aw;exact q
  |lst b=>obtain⟨a,xs,rfl,_⟩:=hx.lst_inv;exact q
  |aW b=>obtain⟨a,rfl,_⟩:=hx.fW;exact q
  |gv=>exact hx.nJ.elim
  |obj=>obtain⟨a,xs,rfl,_⟩:=hx.jK;exact q
  |exc=>exact hx.nK.elim
 ·cases he;refine Cr J' s σ H x y v u Q I rx ry #[hy.dc,?_];cases d with
  |aE=>rw[hx.dc];exact q
  |bl b=>rw[hx.bA];exact q
  |int b=>rw[hx.int_inv];exact q
  |str b=>rw[hx.str_inv];exact q
  |tup b=>obtain⟨a,xs,rfl,_⟩:=hx.aw;exact q
  |lst b=>obtain⟨a,xs,rfl,_⟩:=hx.lst_inv;exact q
  |aW b=>obtain⟨a,rfl,_⟩:=hx.fW;exact q
  |gv=>exact hx.nJ.elim
  |obj=>obtain⟨a,xs,rfl,_⟩:=hx.jK;exact q
  |exc=>exact hx.nK.elim
 ·cases he;cases hx.str_inv;cases hy.str_inv;obtain⟨t1,rfl⟩:=rx;obtain⟨t2,rfl⟩:=ry;exact P.in_str #[.bl _,H,I,rfl,q]
 ·cases he;cases hx.str_inv;cases hy.str_inv;obtain⟨t1,rfl⟩:=rx;obtain⟨t2,rfl⟩:=ry;exact P.notIn_str #[.bl _,H,I,rfl,q]
 ·cases he
theorem qS{ds:List Dt}{i:Int}{d:Dt}(h:xM ds i= .ok d):nh ds i=U d:=by
 unfold xM at h;split at h
 ·cases h;assumption
 ·cases h
theorem jz{K:Frag}{A:Addr->Prop}{H:Hp}{xs:List V}{ds:List Dt}{i:Int}{d:Dt}(g:ar K A H xs ds)(h:nh ds i=U d):∃v,nh xs i=U v/\RV K A H v d:=by
 unfold nh at h ⊢;rw[g.length];cases e:o7 ds.length i with
 |none=>rw[e]at h;cases h
 |some j=>rw[e]at h;obtain⟨v,h1,h2⟩:=g.getD (i:=j) h;exact#[v,h1,h2]
def rX(K:Frag):R2:=λx y H Q=>∃d e z,RV K N0 H x d/\RV K N0 H y e/\bB d e= .ok z/\∀v,PR K G' [x,y] [d,e] H z v H->Q v H
theorem Fy:Ip X (rX X.K):=by
 intro value slice J' s σ H x y v u Q I rx ry h hs;obtain⟨d,e,z,hx,hy,he,q⟩:=h;unfold bB at he;split at he
 ·rename_i ds i;obtain⟨a,xs,rfl,h1,_,h2⟩:=hx.lst_inv;have pR:=qS he;obtain⟨w,k1,k2⟩:=jz h2 pR;refine uF value slice J' s σ H _ y v u Q I rx ry #[a,xs,i,w,rfl,hy.int_inv,du.of h1,k1,q w #[bI.refl _,λA _ q'=>?_,λz=>by cases z]] hs;obtain⟨w',m1,m2⟩:=jz (fu.dH q'.1 h1) pR;rw[k1]at m1;cases m1;exact m2
 ·rename_i ds i;obtain⟨a,xs,rfl,h1,h2⟩:=hx.aw;have pR:=qS he;obtain⟨w,k1,k2⟩:=jz h2 pR;refine FA value slice J' s σ H _ y v u Q I rx ry #[a,xs,i,w,rfl,hy.int_inv,dO.of h1,k1,q w #[bI.refl _,λA _ q'=>?_,λz=>by cases z]] hs;obtain⟨w',m1,m2⟩:=jz (fu.aV q'.1 h1) pR;rw[k1]at m1;cases m1;exact m2
 ·rename_i ns i;obtain⟨a,rfl,h1⟩:=hx.jc;have pR:=qS he;have e1:nh ((ns.map V.int)) i=U (qL z)/\o8 z=B':=by
   unfold nh at pR ⊢;rw[Tw]at pR ⊢;cases e:o7 ns.length i with
   |none=>rw[e]at pR;cases pR
   |some j=>
    rw[e]at pR;simp only[Option.bind_some,TQ]at pR ⊢;cases en:ns[j]? with
    |none=>rw[en]at pR;cases pR
    |some k=>rw[en]at pR;simp at pR;subst pR;exact#[rfl,rfl]
  exact uF value slice J' s σ H _ y v u Q I rx ry #[a,_,i,_,rfl,hy.int_inv,h1,e1.1,q _ (PR.sc e1.2)] hs
 ·rename_i w i;obtain⟨g,he⟩:=aP he;split at he
  ·rename_i c hc;cases he;exact Fz value slice J' s σ H _ y v u Q I rx ry #[w,i,c,hx.str_inv,hy.int_inv,Tz (Tn g) cM,hc,q _ (PR.sc (d:=.str _) rfl)] hs
  ·cases he
 ·cases he
def rS(K:Frag):V->Option Int->Option Int->Hp->VK->Prop:=λx lo hi H Q=>∃d z,RV K N0 H x d/\fm d lo hi= .ok z/\∀v H',PR K B' [x] [d] H z v H'->Q v H'
theorem ar.cut{K:Frag}{A:Addr->Prop}{H:Hp}{xs:List V}{ds:List Dt}{lo hi:Option Int}(g:ar K A H xs ds):ar K A H (lK xs lo hi) (cutD ds lo hi):=by unfold lK cutD;rw[g.length];exact(g.drop _).take _
theorem q9{xs:List V}{lo hi:Option Int}(h:HT.bV xs.length 0 lo=0/\HT.bV xs.length xs.length hi=xs.length):lK xs lo hi=xs:=by unfold lK;rw[h.1,h.2];simp
theorem oM:HN X (λx lo hi H Q=>∃a xs,x= .ref a/\H a=U (.tup xs)/\(HT.bV xs.length 0 lo=0/\HT.bV xs.length xs.length hi=xs.length)/\Q (.ref a) H):=by
 intro J' s σ H x v vl vu lo hi sl Q I rx hs pl pu h;obtain⟨a,xs,rfl,hx,hw,q⟩:=h;cases rx;obtain⟨its,r,ht,hz⟩:=I.tuple (dO.of hx);have hlen:its.toArray.size=xs.length:=by rw[Tj];exact r.length.symm
 refine#["tuple",_,VP.lookup,ht.typeIs,?_];refine HT.f6 ht hs pl pu (by rw[hlen];exact hw) #[.ref a,H,I,rfl,q] (by rw[hlen];exact hz)
theorem hU{K:Frag}{A:Addr->Prop}{H:Hp}:∀{ns:List Int},ar K A H (ns.map V.int) (ns.map Dt.int)
 |[]=>ar.nil
 |_::_=>ar.cons RV.eL hU
theorem sO:HN X (rS X.K):=by
 intro J' s σ H x v vl vu lo hi sl Q I rx hs pl pu h;obtain⟨d,z,hx,he,q⟩:=h;unfold fm at he;split at he
 ·cases he;obtain⟨a,xs,rfl,h1,_,h2⟩:=hx.lst_inv;exact vv J' s σ H _ v vl vu lo hi sl Q I rx hs pl pu #[a,xs,rfl,du.of h1,λp hp=>q _ _ (PR.rV hp λA w=>(fu.dH w.1 h1).cut)]
 ·cases he;obtain⟨a,rfl,h1⟩:=hx.jc;exact vv J' s σ H _ v vl vu lo hi sl Q I rx hs pl pu #[a,_,rfl,h1,λp hp=>q _ _ (PR.rV hp λA w=>ar.cut hU)]
 ·cases he;obtain⟨a,xs,rfl,h1,h2⟩:=hx.aw;by_cases hw:HT.bV xs.length 0 lo=0/\HT.bV xs.length xs.length hi=xs.length
  ·refine oM J' s σ H _ v vl vu lo hi sl Q I rx hs pl pu #[a,xs,rfl,h1,hw,q _ _ (PR.uI h1 λA w=>?_)];have:=(fu.aV w.1 h1).cut (lo:=lo) (hi:=hi);rw[q9 hw]at this;exact this
  ·exact He J' s σ H _ v vl vu lo hi sl Q I rx hs pl pu #[a,xs,rfl,dO.of h1,hw,λp hp=>q _ _ (PR.FY hp λA w=>(fu.aV w.1 h1).cut)]
 ·obtain⟨g,he⟩:=aP he;cases he;exact Mx.Hd J' s σ H _ v vl vu lo hi sl Q I rx hs pl pu #[_,hx.str_inv,Tz (Tn g) cM,q _ _ (PR.sc (d:=.str _) rfl)]
 ·cases he
theorem qv{K:Frag}{A:Addr->Prop}{H:Hp}:∀{xs:List V}{ds:List Dt}{ns:List Str},ar K A H xs ds->strsOf ds=U ns->xs=ns.map V.str
 |xs,[],ns,g,h=>by simp[strsOf]at h;subst h;exact g.nil_inv
 |xs,d::ds,ns,g,h=>by
  obtain⟨x,r,rfl,g1,g2⟩:=g.cons_inv;cases d with
  |str i=>simp only[strsOf,TJ]at h;obtain⟨ms,h1,rfl⟩:=h;rw[qv g2 h1,g1.str_inv];rfl
  |_=>simp[strsOf]at h
theorem gp:∀{l l':List Mx.D},l.Perm l'->(l.Pairwise λa b=>Mx.D.lt b a=G')->(l'.Pairwise λa b=>Mx.D.lt b a=G')->l=l'
 |[],l',p,_,_=>(List.nil_perm.mp p).symm
 |a::t,l',p,h1,h2=>by
  cases l' with
  |nil=>exact absurd p.length_eq (by simp)
  |cons b t'=>
   rw[List.pairwise_cons]at h1 h2;have gN:a=b:=by
    have ha:a∈b::t':=p.mem_iff.mp Tt;have hb:b∈a::t:=p.mem_iff.mpr Tt;rcases TC.mp ha with e|ha
    ·exact e
    rcases TC.mp hb with e|hb
    ·exact e.symm
    exact Mx.D.iq a b (h2.1 a ha) (h1.1 b hb)
   subst gN;rw[gp (List.perm_cons a |>.mp p) h1.2 h2.2]
theorem lp(ms:List Mx.D):(bN ms).Perm ms/\(bN ms).Pairwise λa b=>Mx.D.lt b a=G':=by
 unfold bN;refine#[List.mergeSort_perm ms Ih,?_];have h:=List.pairwise_mergeSort (le:=Ih) (λa b c h1 h2=>by
  unfold Ih at *;simp only[UC]at *;cases h3:Mx.D.lt c a with
  |false=>rfl
  |true=>
   rcases Mx.IX.negTrans c b a h3 with h|h
   ·have h:Mx.D.lt c b=B':=h;rw[h2]at h;cases h
   ·have h:Mx.D.lt b a=B':=h;rw[h1]at h;cases h) (λa b=>by
  unfold Ih;cases h:Mx.D.lt b a with
  |false=>rfl
  |true=>
   cases h':Mx.D.lt a b with
   |false=>rfl
   |true=>have:=Mx.D.lt_trans a b a h' h;rw[Mx.D.lt_irrefl]at this;cases this) ms
 exact h.imp λq=>by unfold Ih at q;simpa using q
theorem Aq{ms es:List Mx.D}(h:Mx.jX ms es):es=bN ms:=gp (h.1.trans (lp ms).1.symm) h.2 (lp ms).2
theorem FB{k:Mx.SK}{d:Mx.D}(h:JT k d=B'):k.ok d:=by
 unfold JT at h;split at h
 ·have e:=TY h;subst e;exact#[_,_,rfl]
 ·have e:=TY h;subst e;exact#[_,_,rfl]
 ·have e:=TY h;subst e;exact#[_,_,rfl]
 ·have e:=TY h;subst e;exact#[_,rfl]
 ·have e:=TY h;subst e;exact#[_,rfl]
 ·cases h
theorem BA{ms:List Mx.D}(h:jq ms=B'):Mx.jU ms:=by
 unfold jq at h;rw[Ti,Ui]at h;obtain⟨h1,h2⟩:=h;refine#[Tn h1,λh3=>?_];rcases h2 with h2|h2
 ·have:=Tn h2
  lia
 ·rw[Ti,Ti]at h2;obtain⟨⟨h4,h5⟩,h6⟩:=h2;refine#[Tn h4,?_,λd hd e he=>uL (Uc.mp (Uc.mp h6 d hd) e he)];obtain⟨k,_,hk⟩:=Ud.mp h5;exact#[k,λd hd=>FB (Uc.mp hk d hd)]
end
end Rx
end
section
namespace Rx
open PySem PySem.W PySem.Spec PyProof.Rows L2 PySem.SeqAt
section
variable{X:Cx}
def HR:BI->Value
 |.len=>.builtin "len"|.min2=>.builtin "min"|.max2=>.builtin "max"
 |.sorted=>.builtin "sorted"|.tuple=>.type "tuple"|.list=>.type "list"|.int=>.type "int"|.str=>.type "str"|_=>.none
def GV:BI->Bool
 |.isi _=>G'|_=>B'
theorem bo{K:Frag}{A:Addr->Prop}{H:Hp}{xs:List V}{d:Dt}(h:ar K A H xs [d]):∃x,xs=[x]/\RV K A H x d:=by obtain⟨x,r,rfl,h1,h2⟩:=h.cons_inv;rw[h2.nil_inv];exact#[x,rfl,h1]
theorem vE{K:Frag}{A:Addr->Prop}{H:Hp}{xs:List V}{d e:Dt}(h:ar K A H xs [d,e]):∃x y,xs=[x,y]/\RV K A H x d/\RV K A H y e:=by obtain⟨x,r,rfl,h1,h2⟩:=h.cons_inv;obtain⟨y,rfl,h3⟩:=bo h2;exact#[x,y,rfl,h1,h3]
theorem Bq(b:BI)(hr:GV b=B')(hc:X.calm=B')(hu:X.A.units+150<cLine):dy X (HR b) (rP X.K B' (dw b)):=by
 intro J' s σ H xs us Q I r h;obtain⟨ds,d,hx,he,q⟩:=h;have E7:=cM;unfold dw at he;split at he
 ·split at he
  ·obtain⟨g,he⟩:=aP he;cases he;obtain⟨x,rfl,h1⟩:=bo hx;exact gT J' s σ H _ us Q I r #[x,_,rfl,by rw[h1.str_inv];exact#[Tz (Tn g) E7,rfl],q _ _ (PR.sc (d:=.int _) rfl)]
  ·cases he;obtain⟨x,rfl,h1⟩:=bo hx;obtain⟨a,ys,rfl,h2,_,h3⟩:=h1.lst_inv;exact gT J' s σ H _ us Q I r #[_,_,rfl,.inl #[ys,du.of h2,rfl],by rw[h3.length];exact q _ _ (PR.sc (d:=.int _) rfl)]
  ·cases he;obtain⟨x,rfl,h1⟩:=bo hx;obtain⟨a,ys,rfl,h2,h3⟩:=h1.aw;exact gT J' s σ H _ us Q I r #[_,_,rfl,.inr #[ys,dO.of h2,rfl],by rw[h3.length];exact q _ _ (PR.sc (d:=.int _) rfl)]
  ·cases he;obtain⟨x,rfl,h1⟩:=bo hx;obtain⟨a,rfl,h2⟩:=h1.jc;exact gT J' s σ H _ us Q I r #[_,_,rfl,.inl #[_,h2,rfl],by rw[Tw];exact q _ _ (PR.sc (d:=.int _) rfl)]
  ·cases he
 ·split at he
  ·cases he;obtain⟨x,y,rfl,h1,h2⟩:=vE hx;exact vM hc J' s σ H _ us Q I r #[_,_,by rw[h1.int_inv,h2.int_inv],q _ _ (PR.sc (d:=.int _) rfl)]
  ·cases he
 ·split at he
  ·cases he;obtain⟨x,y,rfl,h1,h2⟩:=vE hx;exact vL hc J' s σ H _ us Q I r #[_,_,by rw[h1.int_inv,h2.int_inv],q _ _ (PR.sc (d:=.int _) rfl)]
  ·cases he
 ·split at he
  ·rename_i d0;split at he
   ·rename_i es hes;split at he
    ·rename_i ms hms;obtain⟨g,he⟩:=aP he;cases he;have cs:=BA g;obtain⟨x,rfl,h1⟩:=bo hx;have Q2:=iw hms;have go:∀{a:Addr}{ys:List V},x= .ref a->(du X.K H a ys\/dO X.K H a ys)->ar X.K N0 H ys es->wpAny (model X.prog X.w) X.A (call (HR .sorted) us) (EP X J' σ Q) X.xe s:=by intro a ys ex hs g;subst ex;rw[Q2]at g;refine Mx.nv hu J' s σ H _ us Q I r #[a,ys,ms,rfl,hs,g.vS,cs,λm zs qs hm hz hso=>q _ _ ?_];have e:=Aq hso;subst e;exact PR.rV hm λA _=>ar.r8 hz
     unfold itemsOf at hes;split at hes
     ·cases hes;obtain⟨a,ys,e1,h2,_,h3⟩:=h1.lst_inv;exact go e1 (.inl (du.of h2)) h3
     ·cases hes;obtain⟨a,ys,e1,h2,h3⟩:=h1.aw;exact go e1 (.inr (dO.of h2)) h3
     ·cases hes;obtain⟨a,e1,h2⟩:=h1.jc;exact go e1 (.inl h2) hU
     ·cases hes
    ·cases he
   ·cases he
  ·cases he
 ·split at he
  ·cases he;obtain⟨x,rfl,h1⟩:=bo hx;obtain⟨a,ys,rfl,h2,_,h3⟩:=h1.lst_inv;exact f9 J' s σ H _ us Q I r #[a,ys,rfl,.inl #[du.of h2,λl hl=>q _ _ (PR.FY hl λA w=>fu.dH w.1 h2)]]
  ·cases he;obtain⟨x,rfl,h1⟩:=bo hx;obtain⟨a,ys,rfl,h2,h3⟩:=h1.aw;exact f9 J' s σ H _ us Q I r #[a,ys,rfl,.inr #[dO.of h2,q _ _ (PR.uI h2 λA w=>fu.aV w.1 h2)]]
  ·cases he
 ·split at he
  ·cases he;obtain⟨x,rfl,h1⟩:=bo hx;obtain⟨a,ys,rfl,h2,_,h3⟩:=h1.lst_inv;exact eF J' s σ H _ us Q I r #[a,ys,rfl,.inl (du.of h2),λl hl=>q _ _ (PR.rV hl λA w=>fu.dH w.1 h2)]
  ·cases he;obtain⟨x,rfl,h1⟩:=bo hx;obtain⟨a,ys,rfl,h2,h3⟩:=h1.aw;exact eF J' s σ H _ us Q I r #[a,ys,rfl,.inr (dO.of h2),λl hl=>q _ _ (PR.rV hl λA w=>fu.aV w.1 h2)]
  ·cases he;obtain⟨x,rfl,h1⟩:=bo hx;obtain⟨a,rfl,h2⟩:=h1.jc;exact eF J' s σ H _ us Q I r #[a,_,rfl,.inl h2,λl hl=>q _ _ (PR.rV hl λA w=>hU)]
  ·cases he
 ·split at he
  ·cases he;obtain⟨x,rfl,h1⟩:=bo hx;exact l7 J' s σ H _ us Q I r (.inl #[_,by rw[h1.int_inv],q _ _ (PR.sc (d:=.int _) rfl)])
  ·cases he;obtain⟨x,rfl,h1⟩:=bo hx;exact l7 J' s σ H _ us Q I r (.inr #[_,by rw[h1.bA],q _ _ (PR.sc (d:=.int _) rfl)])
  ·obtain⟨g,he⟩:=aP he;split at he
   ·rename_i hn;cases he;obtain⟨x,rfl,h1⟩:=bo hx;exact Mx.pD J' s σ H _ us Q I r #[_,_,by rw[h1.str_inv],Tn g,hn,q _ _ (PR.sc (d:=.int _) rfl)]
   ·cases he
  ·cases he
 ·cases hr
 ·split at he
  ·obtain⟨g,he⟩:=aP he;cases he;obtain⟨x,rfl,h1⟩:=bo hx;exact ny J' s σ H _ us Q I r #[_,by rw[h1.int_inv],Tn g,q _ _ (PR.sc (d:=.str _) rfl)]
  ·cases he
end
structure Fm where
 K:Frag
 H0:Hp
 d0:Option Addr
 Ek:Nat->Prop
 P:Program
 w:World
structure Ow where
 W:Addr->Prop
 A:Addr->Prop
 dr:Option Addr
def Ow.wd(o:Ow):Addr->Prop:=λa=>o.W a\/o.dr=U a
def Ow.d(o:Ow):Addr->Prop:=λa=>o.dr=U a
def OV(Φ:Fm)(o:Ow)(H:Hp)(v:V):Dt->Prop
 |.lst ds=>∃a xs,v= .ref a/\H a=U (.lst xs)/\o.A a/\¬o.W a/\o.dr≠U a/\Φ.H0 a=y'/\ar Φ.K o.A H xs ds
 |.gv ks vs=>False
 |d=>RV Φ.K o.A H v d
structure ER(Φ:Fm)(Γ:Gm)(o:Ow)(ρ:aj)(S:Sx)(σ:L2.St)(H:Hp):Prop where
 len:σ.length=ρ.length
 wa:∀a,o.W a->o.A a
 da:∀a,o.dr=U a->o.A a
 al:∀a,o.A a->∃x,H a=U x
 val:∀(i:Nat)(d:Dt),ρ[i]?=U (U d)->∃v,σ[i]?=U (U v)/\(if ff Γ i=B' then OV Φ o H v d else RV Φ.K o.A H v d)
 dk:∀(i:Nat)(ks vs:List Dt),ρ[i]?=U (U (.gv ks vs))->Γ.κ=U i
 inj:∀(i j:Nat)(a:Addr)(d e:List Dt),ff Γ i=B'->ff Γ j=B'->ρ[i]?=U (U (.lst d))->ρ[j]?=U (U (.lst e))->σ[i]?=U (U (.ref a))->σ[j]?=U (U (.ref a))->i=j
 drw:∀a,o.dr=U a->∃ns:List Int,S=U ns/\H a=U (.lst (ns.map V.int))
 drn:o.dr=y'->S=y'
 drs:∀(i:Nat)(a:Addr),Γ.δ=U i->o.dr=U a->σ[i]?=U (U (.ref a))
 dr0:∀a,o.dr=U a->Φ.d0=U a\/Φ.H0 a=y'
 ent:aR (λb=>Φ.d0=U b) Φ.H0 H
section
variable{Φ:Fm}{Γ:Gm}{o:Ow}{ρ:aj}{S S':Sx}{σ:L2.St}{H H':Hp}
def nD:Dt->Bool
 |.gv _ _=>G'
 |_=>B'
theorem OV.val{v:V}{d:Dt}(h:OV Φ o H v d)(nd:nD d=B')(wa:∀a,o.W a->o.A a)(da:∀a,o.dr=U a->o.A a):RV Φ.K o.wd H v d:=by
 have hw:∀b,o.wd b->o.A b:=λb z=>z.elim (wa b) (da b)
 cases d with
 |lst ds=>obtain⟨a,xs,rfl,h1,h2,h3,h4,_,h5⟩:=h;exact RV.eM h1 (λz=>z.elim h3 h4) (h5.weak hw)
 |gv=>cases nd
 |_=>exact RV.weak h hw
theorem OV.one{v:V}{d:Dt}(h:OV Φ o H v d)(nd:nD d=B'):fu Φ.K o.A H v d:=by
 cases d with
 |lst ds=>obtain⟨a,xs,rfl,h1,h2,h3,h4,_,h5⟩:=h;exact#[a,xs,rfl,h1,h5]
 |gv=>cases nd
 |_=>exact h
theorem OV.ext{v:V}{d:Dt}(h:OV Φ o H v d)(da:∀a,o.dr=U a->o.A a)(e:aR o.d H H'):OV Φ o H' v d:=by
 cases d with
 |lst ds=>obtain⟨a,xs,rfl,h1,h2,h3,h4,h6,h5⟩:=h;exact#[a,xs,rfl,e.kp _ _ h1 h4,h2,h3,h4,h6,h5.mono e da λ_ z=>z]
 |gv=>exact h.elim
 |_=>exact RV.mono e da (λ_ z=>z) h
theorem Dk.set{κ:Option Nat}{i:Nat}{d:Dt}(h:∀(i:Nat)(ks vs:List Dt),ρ[i]?=U (U (.gv ks vs))->κ=U i)(nd:nD d=B'):∀(j:Nat)(ks vs:List Dt),(ρ.set i (U d))[j]?=U (U (.gv ks vs))->κ=U j:=λj ks vs hj=>by
 by_cases e:j=i
 ·subst e;rw[U2]at hj;simp only[V3]at hj;split at hj
  ·cases hj;cases nd
  ·cases hj
 ·rw[TL (VM e)]at hj;exact h j ks vs hj
theorem RV.nd{K:Frag}{A:Addr->Prop}{v:V}{d:Dt}(h:RV K A H v d):nD d=B':=by
 cases d with
 |gv=>unfold RV at h;exact h.elim
 |_=>rfl
theorem ER.nd(er:ER Φ Γ o ρ S σ H){i:Nat}{d:Dt}(h:ρ[i]?=U (U d))(n:Γ.κ≠U i):nD d=B':=by
 cases d with
 |gv ks vs=>exact absurd (er.dk i ks vs h) n
 |_=>rfl
theorem ER.eU(er:ER Φ Γ o ρ S σ H):∀b,o.wd b->o.A b:=λb z=>z.elim (er.wa b) (er.da b)
theorem ER.xK(er:ER Φ Γ o ρ S σ H):∀b,o.wd b->∃x,H b=U x:=λb z=>er.al b (er.eU b z)
theorem aR.al{X:Addr->Prop}(e:aR X H H'){b:Addr}{x:HO}(h:H b=U x)(hx:X b->∃y,H' b=U y):∃y,H' b=U y:=by
 by_cases z:X b
 ·exact hx z
 ·exact#[x,e.kp _ _ h z]
theorem ER.step(er:ER Φ Γ o ρ S σ H)(e:aR o.d H H')(hd:∀a,o.dr=U a->∃ns:List Int,S'=U ns/\H' a=U (.lst (ns.map V.int)))(hn:o.dr=y'->S'=y'):ER Φ Γ o ρ S' σ H' where
 len:=er.len
 wa:=er.wa
 da:=er.da
 al:=λa ha=>by obtain⟨x,hx⟩:=er.al a ha;exact e.al hx λz=>by obtain⟨ns,_,h⟩:=hd a z;exact#[_,h]
 val:=λi d h=>by
  obtain⟨v,h1,h2⟩:=er.val i d h;refine#[v,h1,?_];by_cases m:ff Γ i=B'
  ·rw[V2 m]at h2 ⊢;exact h2.ext er.da e
  ·rw[V1 m]at h2 ⊢;exact h2.mono e er.da λ_ z=>z
 dk:=er.dk
 inj:=er.inj
 drw:=hd
 drn:=hn
 drs:=er.drs
 dr0:=er.dr0
 ent:=#[λb x h n=>by
   refine e.kp _ _ (er.ent.kp b x h n) λz=>?_
   rcases er.dr0 b z with q|q
   ·exact n q
   ·(rw[h]at q;cases q),λb xs h=>e.tp _ _ (er.ent.tp b xs h)]
theorem ER.re{Φ':Fm}(e:Φ'={Φ with Ek:=Φ'.Ek})(er:ER Φ Γ o ρ S σ H):ER Φ' Γ o ρ S σ H:=by
 rw[e];refine#[er.len,er.wa,er.da,er.al,λi d h=>?_,er.dk,er.inj,er.drw,er.drn,er.drs,er.dr0,er.ent];obtain⟨v,h1,h2⟩:=er.val i d h;refine#[v,h1,?_];by_cases m:ff Γ i=B'
 ·rw[V2 m]at h2 ⊢;cases d<;>exact h2
 ·rw[V1 m]at h2 ⊢;exact h2
theorem ER.grow(er:ER Φ Γ o ρ S σ H)(s:bI H H'):ER Φ Γ o ρ S σ H':=er.step (aR.of_same s) (λa h=>by
 obtain⟨ns,h1,h2⟩:=er.drw a h;exact#[ns,h1,s _ _ h2]) er.drn
end
def mR(Ek:Nat->Prop){α:Type}(r:R α)(P:α->Prop):Prop:=match r with
 |.ok a=>P a
 |.ex k=>Ek k
 |.bad=>False
section
variable{Ek:Nat->Prop}{α β:Type}
theorem aa{r:R α}{f:α->R β}{P:β->Prop}:mR Ek (r.bind f) P↔mR Ek r λa=>mR Ek (f a) P:=by cases r<;>rfl
theorem ag{r:R α}{P Q:α->Prop}(h:mR Ek r P)(hq:∀a,r= .ok a->P a->Q a):mR Ek r Q:=by
 cases r with
 |ok a=>exact hq a rfl h
 |ex k=>exact h
 |bad=>exact h
theorem aI{b:Bool}{r:R α}{P:α->Prop}(h:mR Ek (af b r) P):b=B'/\mR Ek r P:=by
 cases b with
 |true=>exact#[rfl,h]
 |false=>exact h.elim
end
structure EO(K:Frag)(fr:Nat->Bool)(o:Ow)(c:C)(H:Hp)(d:Dt)(v:V)(H':Hp):Prop where
 ext:aR o.d H H'
 val:RV K o.wd H' v d
 de:lk c=0->RV K o.A H' v d
 sS:lk c<=1->fu K o.A H' v d
 eD:fresh fr c=B'->∀ds,d= .lst ds->∃a xs,v= .ref a/\H a=y'/\H' a=U (.lst xs)/\ar K (λb=>o.wd b\/b=a) H' xs ds/\(lk c=0->ar K (λb=>o.A b\/b=a) H' xs ds)
structure QN(K:Frag)(o:Ow)(cs:Cs)(H:Hp)(ds:List Dt)(vs:List V)(H':Hp):Prop where
 ext:aR o.d H H'
 val:ar K o.wd H' vs ds
 de:qK cs=0->ar K o.A H' vs ds
 sS:qK cs<=1->mZ K o.A H' vs ds
section
variable(Φ:Fm)(Γ:Gm)(F:FT)(fr:Nat->Bool)
inductive bj(c:C)(σ:L2.St)(H:Hp)(Q:VK):Prop
 |mk (o:Ow) (ρ:aj) (S:Sx) (e:ER Φ Γ o ρ S σ H) (m:mR Φ.Ek (ev F c ρ S) λp=>∀v H',EO Φ.K fr o c H p.1 v H'->ER Φ Γ o ρ p.2 σ H'->Q v H'):bj c σ H Q
inductive ez(c:C)(σ:L2.St)(H:Hp)(Q:Bool->Hp->Prop):Prop
 |mk (o:Ow) (ρ:aj) (S:Sx) (e:ER Φ Γ o ρ S σ H) (m:mR Φ.Ek (aQ F c ρ S) λp=>∀H',aR o.d H H'->ER Φ Γ o ρ p.2 σ H'->Q p.1 H'):ez c σ H Q
inductive lR(cs:Cs)(σ:L2.St)(H:Hp)(Q:List V->Hp->Prop):Prop
 |mk (o:Ow) (ρ:aj) (S:Sx) (e:ER Φ Γ o ρ S σ H) (m:mR Φ.Ek (fk F cs ρ S) λp=>∀vs H',QN Φ.K o cs H p.1 vs H'->ER Φ Γ o ρ p.2 σ H'->Q vs H'):lR cs σ H Q
inductive vD(cs:Cs)(σ:L2.St)(H:Hp)(Q:Bool->Hp->Prop):Prop
 |mk (o:Ow) (ρ:aj) (S:Sx) (e:ER Φ Γ o ρ S σ H) (m:mR Φ.Ek (dS F cs ρ S) λp=>∀H',aR o.d H H'->ER Φ Γ o ρ p.2 σ H'->Q p.1 H'):vD cs σ H Q
end
structure Wk(K:Frag)(A X:Addr->Prop)(J:It)(H:Hp)(ds:List Dt):Prop where
 go:∀(i:Nat)(H1:Hp),i<ds.length->aR X H H1->J.go i H1
 stop:∀(H1:Hp),aR X H H1->J.stop ds.length H1
 yld:∀(i:Nat)(x:V)(H1 H2:Hp),i<ds.length->aR X H H1->J.yld i H1 x H2->bI H1 H2/\∃d,ds[i]?=U d/\∀B:Addr->Prop,(∀b,B b->A b\/H b=y')->RV K B H2 x d
structure IO(K:Frag)(o:Ow)(it:oX)(nl:Bool)(H:Hp)(ds:List Dt)(J:It)(H':Hp):Prop where
 ext:aR o.d H H'
 w1:uK it<=1->Wk K o.A o.d J H' ds
 w0:uK it=0->Wk K o.A o.A J H' ds
 w2:nl=B'->Wk K o.A o.A J H' ds
inductive oU(Φ:Fm)(Γ:Gm)(F:FT)(it:oX)(σ:L2.St)(H:Hp)(Q:It->Hp->Prop):Prop
 |mk (o:Ow) (ρ:aj) (S:Sx) (e:ER Φ Γ o ρ S σ H) (m:mR Φ.Ek (eI F it ρ S) λp=>∀J H',IO Φ.K o it (jr F it ρ S) H p.1 J H'->ER Φ Γ o ρ p.2 σ H'->Q J H'):oU Φ Γ F it σ H Q
structure GX(g:G)(Γ:Gm)(X:Cx):Prop where
 N:X.N=Γ.N
 nd:Γ.N.Nodup
 vis:∀x,AJ (Γ.names.lookup x)=B'->En X.env.scope x
 loc:∀x,zr (Γ.names.lookup x)=B'->Loc X.env.scope x/\(X.fn x=B'\/X.env.scope.names.lookup x=U .local)
 gl:∀x,ue (Γ.names.lookup x)=B'->Gl X x
 fre:∀x,(Γ.names.lookup x=U .cell\/Γ.names.lookup x=U .free)->(X.env.scope.names.lookup x=U .cell\/X.env.scope.names.lookup x=U .free)
 calm:X.calm=B'
 un:X.A.units+150<cLine
 con:∀x d,g.cons.lookup x=U d->∃u,o8 d=B'/\X.mg x=U u/\RelV (qL d) u
 bl:∀x∈g.bls,X.mg x=y'
structure FO(K:Frag)(W:Addr->Prop)(dr:Option Addr)(fr:Bool)(H:Hp)(d:Dt)(S':Sx)(v:V)(H':Hp):Prop where
 ext:aR (λb=>dr=U b) H H'
 val:RV K W H' v d
 drw:∀a,dr=U a->∃ns:List Int,S'=U ns/\H' a=U (.lst (ns.map V.int))
 eD:fr=B'->∀ds,d= .lst ds->∃a xs,v= .ref a/\H a=y'/\H' a=U (.lst xs)/\ar K (λb=>W b\/b=a) H' xs ds
def QE(K:Frag)(xv:Nat->Value)(F:List Dt->Sx->R (Dt×Sx))(np:Nat)(fr a6:Bool):Sp:=λvs H Q E=>
 vs.length=np/\∃(W:Addr->Prop)(dr:Option Addr)(args:List Dt)(S:Sx)(xy:List V),
  (if a6=B' then∃(a:Addr)(ns:List Int),vs= .ref a::xy/\dr=U a/\W a/\S=U ns/\H a=U (.lst (ns.map V.int)) else vs=xy/\dr=y'/\S=y')/\
  ar K W H xy args/\(∀a,W a->∃x,H a=U x)/\
  match F args S with
  |.ok p=>∀v H',FO K W dr fr H p.1 p.2 v H'->Q v H'
  |.ex k=>∀H',aR (λb=>dr=U b) H H'->E (xv k) y' H'
  |.bad=>False
def jW(Φ:Fm)(xv:Nat->Value):XK:=λv _ H'=>∃k,v=xv k/\Φ.Ek k/\aR (λb=>Φ.d0=U b) Φ.H0 H'
structure FX(g:G)(xv:Nat->Value)(CX:lI)(P:Program)(w:World)(K:Frag)(mg:Str->Option Value)(base:Heap)(n k:Nat)(F:FT):Prop where
 fn:∀x f np fy a6,rA x g.fns=U (f,np,fy,a6)->∃(fa:Addr)(fd:FuncData)(ps:List Str),ps.length=np/\mg x=U (.ref fa)/\PySem.W.keepIn K (.ref fa)=B'/\
  iQ P w K mg base CX k fa fd ps (QE K xv (F f) np (g.fr f) a6)/\(∀j,j<=fy.length->∃ds,ay ((fy.drop j).map qL) ds/\Binds K fd ps ds)/\fy.all o8=B'
end Rx
end
section
namespace Rx
open PySem PySem.W PySem.Spec PyProof.Rows L2
section
variable{F:FT}{ρ:aj}{S:Sx}
theorem vd{d}:ev F (.con d) ρ S= .ok (d,S):=rfl
theorem vf{i}:ev F (.var i) ρ S=(bJ ρ i).bind λd=>.ok (d,S):=rfl
theorem oH{i}:ev F (.mvr i) ρ S=(bJ ρ i).bind λd=>.ok (d,S):=rfl
theorem CT{o}{a}{b}:ev F (.bin o a b) ρ S=(ev F a ρ S).bind λx=>(ev F b ρ x.2).bind λy=>(oz o x.1 y.1).bind λd=>.ok (d,y.2):=rfl
theorem CU{o}{a}{b}:ev F (.cmp o a b) ρ S=(ev F a ρ S).bind λx=>(ev F b ρ x.2).bind λy=>(bT o x.1 y.1).bind λd=>.ok (.bl d,y.2):=rfl
theorem GN{o}{p}{a}{b}{c}:ev F (.ch o p a b c) ρ S=(ev F a ρ S).bind λx=>(ev F b ρ x.2).bind λy=>(bT o x.1 y.1).bind λd=>if d then(ev F c ρ y.2).bind λz=>(bT p y.1 z.1).bind λe=>.ok (.bl e,z.2) else .ok (.bl G',y.2):=rfl
theorem CV{a}:ev F (.neg a) ρ S=(ev F a ρ S).bind λx=>match x.1 with|.int i=>.ok (.int (-i),x.2)|_=>.bad:=rfl
theorem GO{a}:ev F (.nt a) ρ S=(ev F a ρ S).bind λx=>match x.1 with|.bl b=>.ok (.bl !b,x.2)|_=>.bad:=rfl
theorem CS{a}{b}:ev F (.and a b) ρ S=(ev F a ρ S).bind λx=>match x.1 with|.bl B'=>(ev F b ρ x.2).bind λy=>(match y.1 with|.bl c=>.ok (.bl c,y.2)|_=>.bad)|.bl G'=>.ok (.bl G',x.2)|_=>.bad:=rfl
theorem GQ{a}{b}:ev F (.or a b) ρ S=(ev F a ρ S).bind λx=>match x.1 with|.bl G'=>(ev F b ρ x.2).bind λy=>(match y.1 with|.bl c=>.ok (.bl c,y.2)|_=>.bad)|.bl B'=>.ok (.bl B',x.2)|_=>.bad:=rfl
theorem ve{a}{b}:ev F (.idx a b) ρ S=(ev F a ρ S).bind λx=>(ev F b ρ x.2).bind λy=>(bB x.1 y.1).bind λd=>.ok (d,y.2):=rfl
theorem Ag{a}{l}:ev F (.sliL a l) ρ S=(ev F a ρ S).bind λx=>(ev F l ρ x.2).bind λy=>match y.1 with|.int i=>(fm x.1 (U i) y').bind λd=>.ok (d,y.2)|_=>.bad:=rfl
theorem Af{a}{h}:ev F (.sliH a h) ρ S=(ev F a ρ S).bind λx=>(ev F h ρ x.2).bind λy=>match y.1 with|.int i=>(fm x.1 y' (U i)).bind λd=>.ok (d,y.2)|_=>.bad:=rfl
theorem qk{a}{l}{h}:ev F (.sliB a l h) ρ S=(ev F a ρ S).bind λx=>(ev F l ρ x.2).bind λy=>match y.1 with|.int i=>(ev F h ρ y.2).bind λz=>(match z.1 with|.int j=>(fm x.1 (U i) (U j)).bind λd=>.ok (d,z.2)|_=>.bad)|_=>.bad:=rfl
theorem CW{es}:ev F (.tup es) ρ S=(fk F es ρ S).bind λx=>af (decide (x.1.length<=lim)) (.ok (.tup x.1,x.2)):=rfl
theorem fT{es}:ev F (.lst es) ρ S=(fk F es ρ S).bind λx=>af (decide (x.1.length<=lim)) (.ok (.lst x.1,x.2)):=rfl
theorem k9{f}{es}{ds}:ev F (.call f es ds) ρ S=(fk F es ρ S).bind λx=>(F f (x.1++ds) y').bind λy=>.ok (y.1,x.2):=rfl
theorem wM{f}{es}:ev F (.callD f es) ρ S=af S.isSome ((fk F es ρ S).bind λx=>match x.2 with|some s=>F f x.1 (U s)|none=>.bad):=rfl
theorem sH{b}{es}:ev F (.bi b es) ρ S=(fk F es ρ S).bind λx=>(dw b x.1).bind λd=>.ok (d,x.2):=rfl
theorem sI{m}{o}{es}:ev F (.mt m o es) ρ S=(ev F o ρ S).bind λy=>af (isStr y.1) ((fk F es ρ y.2).bind λx=>(J6 m y.1 x.1).bind λd=>.ok (d,x.2)):=rfl
theorem qj{cap}{it}{tg}{ts}{e}:ev F (.comp cap it tg ts e) ρ S=(eI F it ρ S).bind λx=>af (decide (x.1.length<=lim)&&(decide (uK it<=1)||jr F it ρ S)) ((bU (cC tg (dS F ts) (λρ1 S1=>(ev F e ρ1 S1).bind λy=>af (cJ e y.1) (.ok ([y.1],y.2))) (j6 cap ρ)) x.1 x.2).bind λq=>.ok (.lst q.1,q.2)):=rfl
theorem CQ{a}:aQ F (.nt a) ρ S=(aQ F a ρ S).bind λx=>.ok (!x.1,x.2):=rfl
theorem qh{a}{b}:aQ F (.and a b) ρ S=(aQ F a ρ S).bind λx=>if x.1 then aQ F b ρ x.2 else .ok (G',x.2):=rfl
theorem iD{a}{b}:aQ F (.or a b) ρ S=(aQ F a ρ S).bind λx=>if x.1 then .ok (B',x.2) else aQ F b ρ x.2:=rfl
theorem Ac{o}{a}{b}:aQ F (.cmp o a b) ρ S=(ev F a ρ S).bind λx=>(ev F b ρ x.2).bind λy=>(bT o x.1 y.1).bind λd=>.ok (d,y.2):=rfl
theorem vc{o}{p}{a}{b}{c}:aQ F (.ch o p a b c) ρ S=(ev F a ρ S).bind λx=>(ev F b ρ x.2).bind λy=>(bT o x.1 y.1).bind λd=>if d then(ev F c ρ y.2).bind λz=>(bT p y.1 z.1).bind λe=>.ok (e,z.2) else .ok (G',y.2):=rfl
theorem Ae{i}:aQ F (.var i) ρ S=(bJ ρ i).bind λd=>(cw d).bind λb=>.ok (b,S):=rfl
theorem qi{i}:aQ F (.mvr i) ρ S=(bJ ρ i).bind λd=>(cw d).bind λb=>.ok (b,S):=rfl
theorem wL{f}{es}{ds}:aQ F (.call f es ds) ρ S=(fk F es ρ S).bind λx=>(F f (x.1++ds) y').bind λy=>(cw y.1).bind λb=>.ok (b,x.2):=rfl
theorem sG{f}{es}:aQ F (.callD f es) ρ S=af S.isSome ((fk F es ρ S).bind λx=>match x.2 with|some s=>(F f x.1 (U s)).bind λy=>(cw y.1).bind λb=>.ok (b,y.2)|none=>.bad):=rfl
theorem CP{b}{es}:aQ F (.bi b es) ρ S=(fk F es ρ S).bind λx=>(dw b x.1).bind λd=>(cw d).bind λb=>.ok (b,x.2):=rfl
theorem Ad{a}{b}:aQ F (.idx a b) ρ S=(ev F a ρ S).bind λx=>(ev F b ρ x.2).bind λy=>(bB x.1 y.1).bind λd=>(cw d).bind λb=>.ok (b,y.2):=rfl
theorem lg:fk F (.nil) ρ S= .ok ([],S):=rfl
theorem fU{c}{cs}:fk F (.cons c cs) ρ S=(ev F c ρ S).bind λx=>(fk F cs ρ x.2).bind λy=>.ok (x.1::y.1,y.2):=rfl
theorem mF:dS F (.nil) ρ S= .ok (B',S):=rfl
theorem jl{c}:dS F (.cons c .nil) ρ S=aQ F c ρ S:=rfl
theorem wJ{c}:eI F (.seq c) ρ S=(ev F c ρ S).bind λx=>match je x.1 with|some ds=>.ok (ds,x.2)|none=>.bad:=rfl
theorem sF{c}:eI F (.rng1 c) ρ S=(ev F c ρ S).bind λx=>match x.1 with|.int j=>af (decide (j<=lim)&&decide (-lim<=j)) (.ok (bL 0 j.toNat,x.2))|_=>.bad:=rfl
theorem k8{a}{b}{c}:eI F (.rng3 a b c) ρ S=(ev F a ρ S).bind λx=>(ev F b ρ x.2).bind λy=>(ev F c ρ y.2).bind λz=>match x.1,y.1,z.1 with|.int i,.int j,.int k=>af (decide (i.natAbs<=lim)&&decide (j.natAbs<=lim)&&(decide (1<=k)&&decide (k<=1000))) (.ok (jy i k (Mx.et i j k),z.2))|_,_,_=>.bad:=rfl
theorem wK{a}{b}:eI F (.zip a b) ρ S=(ev F a ρ S).bind λx=>(ev F b ρ x.2).bind λy=>match cA x.1,cA y.1 with|some xs,U ys=>.ok (gM xs ys,y.2)|_,_=>.bad:=rfl
theorem jP{i}{c}:ex F (.asg i c) ρ S=(ev F c ρ S).bind λx=>af (cJ c x.1) (.ok (.next,ρ.set i (U x.1),x.2)):=rfl
theorem lh{i}{c}:ex F (.asgM i c) ρ S=(ev F c ρ S).bind λx=>af (jm c x.1) (.ok (.next,ρ.set i (U x.1),x.2)):=rfl
theorem fH{is}{c}:ex F (.asgT is c) ρ S=(ev F c ρ S).bind λx=>af (cJ c x.1) ((vq is x.1 ρ).bind λρ1=>.ok (.next,ρ1,x.2)):=rfl
theorem vh{i}{c}:ex F (.aug i c) ρ S=(bJ ρ i).bind λd=>(ev F c ρ S).bind λx=>match d,x.1 with|.int a,.int b=>.ok (.next,ρ.set i (U (.int (a+b))),x.2)|_,_=>.bad:=rfl
theorem ql{i}{k}{v}:ex F (.wR i k v) ρ S=af (isLE ρ i) ((ev F v ρ S).bind λx=>(ev F k ρ x.2).bind λy=>af (cJ v x.1) ((kJ ρ i).bind λds=>match y.1 with|.int n=>(match o7 ds.length n with|some j=>.ok (.next,ρ.set i (U (.lst (ds.set j x.1))),y.2)|none=>.bad)|_=>.bad)):=rfl
theorem vg{i}{c}:ex F (.app i c) ρ S=af (isLE ρ i) ((ev F c ρ S).bind λx=>af (cJ c x.1) ((kJ ρ i).bind λds=>af (decide (ds.length<=lim)) (.ok (.next,ρ.set i (U (.lst (ds++[x.1]))),x.2)))):=rfl
theorem CY{i}:ex F (.clr i) ρ S=(kJ ρ i).bind λ_=>.ok (.next,ρ.set i (U (.lst [])),S):=rfl
theorem vi{c}:ex F (.HS c) ρ S=(ev F c ρ S).bind λx=>.ok (.next,ρ,x.2):=rfl
theorem jQ{c}:ex F (.ret c) ρ S=(ev F c ρ S).bind λx=>.ok (.ret x.1,ρ,x.2):=rfl
theorem oI{t}{a}{b}:ex F (.ifs t a b) ρ S=(aQ F t ρ S).bind λx=>if x.1 then az F a ρ x.2 else az F b ρ x.2:=rfl
theorem sJ{tg}{it}{b}:ex F (.fr tg it b) ρ S=(eI F it ρ S).bind λx=>af (decide (uK it=0)||jr F it ρ S) (forL tg (az F b) x.1 ρ x.2):=rfl
theorem cX{t}{b}:ex F (.wh t b) ρ S=cQ (aQ F t) (az F b) c7 ρ S:=rfl
theorem Ah{k}{vs}:ex F (.rs k vs) ρ S=af (vs.all (wx ρ)) (.ex k):=rfl
theorem Ai{b}{sV}:ex F (.tr b sV) ρ S=af S.isNone (match az F b ρ S with|.ex k=>(match sV[k]? with|some (U v)=>.ok (.ret (.bl v),ρ,S)|_=>.bad)|r=>r):=rfl
theorem aX{t}{ts}:az F (.cons t ts) ρ S=(ex F t ρ S).bind λp=>match p.1 with|.next=>az F ts p.2.1 p.2.2|f=>.ok (f,p.2):=rfl
end
end Rx
end
section
namespace L2
open PySem PySem.Spec PyProof.Rows
@[reducible]def EA:List Value:=[.type "ValueError",.type "Exception",.type "BaseException",.type "object"]
theorem zA{K:PySem.W.Frag}{h h':Heap}{N:Addr}{m:Str->Option Value}(X:K.In h)(X':K.In h')(ok:PySem.W.nsOkIn K N=B')(G:h.Ns N m):h'.Ns N m:=by
 unfold PySem.W.nsOkIn at ok;split at ok
 ·rename_i lk;obtain⟨ob,es,ep,e1,rest⟩:=G;have e2:=X _ _ lk;rw[e1]at e2;cases e2;exact#[_,es,ep,X' _ _ lk,rest]
 ·cases ok
theorem vU{K:PySem.W.Frag}{C:Addr}{Dq:List Value}{newId:String}{h:Heap}(X:K.In h)(q:PySem.W.excIn K C Dq newId=B'):
  ∃(bm:List Value)(ns:Addr)(nm qn:Str)(bs:List Value)(hd:Bool)(sn:List Str)(sub:List Value)(ab:Bool)(col:Option Bool)(dd:Option Addr)(k0 k1 k2 k3 k5:Option Value)(mN:Str->Option Value),mN "__init__"=y'/\
   ∀h':Heap,K.In h'->h'.get? C=U (excClassObj nm qn C ns bs bm hd sn sub ab col dd k0 k1 k2 k3 k5 newId)/\h'.Ns ns mN/\OwnTail h' Dq bm:=by
 unfold PySem.W.excIn at q;split at q
 ·rename_i Nm cdt Ik Oo;split at q
  ·rename_i D tl s0 s1 s2 s3 idn s5 em es;rw[Ti,Ti,Ti,Ti,Ti]at q;obtain⟨⟨⟨⟨⟨q1,q2⟩,q3⟩,q4⟩,q5⟩,q6⟩:=q;have d1:D=C:=TY q1;have d2:idn=newId:=TY q2;have d3:cdt.hasDel=G':=by simpa using q3
   have d6:=TY q6;subst d1 d2;cases cdt with
   |mk nm bs mro ns qn hd sn sub ab col del=>
    have e1:mro=Value.ref D::tl:=em;have e2:del=G':=d3;subst e1 e2;have e3:Ik=[s0,s1,s2,s3,U (Value.builtin idn),s5].toArray:=by
     cases Ik with
     |mk l=>have e:l=_:=es;rw[e]
    subst e3;refine#[tl,ns,nm,qn,bs,hd,sn,sub,ab,col,Nm,s0,s1,s2,s3,s5,h.nsMap ns,PySem.W.nsMap_none_of_in X q5 d6,λh' X'=>#[X' _ _ Oo,?_,PySem.W.tail_of_in X' q4]];exact zA X X' q5 (Heap.Ns.of_isNs (PySem.W.isNs_of_in X q5))
  ·cases q
 ·cases q
def PM(X:Cx)(e:Expr)(p:St->Prop):Prop:=∀(J':List (Addr×Obj))(s:Shared)(σ:St)(H:Hp)(Q:Value->Shared->Prop),Inv X J' σ H s->p σ->(∀u s',s'.heap=s.heap->Inv X J' σ H s'->Q u s')->wpAny (model X.prog X.w) X.A (eval e X.env) Q X.xe s
def Ir(X:Cx)(e:Expr)(p:St->Prop):Prop:=∀(J':List (Addr×Obj))(s:Shared)(σ:St)(H:Hp)(Q:Value->Shared->Prop),Inv X J' σ H s->p σ->(∀(y:Str)t s',y.length<=1000->s'.heap=s.heap->Inv X J' σ H s'->Q (.str y t) s')->wpAny (model X.prog X.w) X.A (eval e X.env) Q X.xe s
def Iu(X:Cx)(es:List Expr)(p:St->Prop):Prop:=∀(out:Str)(J':List (Addr×Obj))(s:Shared)(σ:St)(H:Hp)(Q:Value->Shared->Prop),Inv X J' σ H s->p σ->out.length+1000*es.length<=sizeLine->(∀u s',s'.heap=s.heap->Inv X J' σ H s'->Q u s')->
 wpAny (model X.prog X.w) X.A (joinParts out (evalEach es X.env)) Q X.xe s
theorem qy{X:Cx}{J':List (Addr×Obj)}{σ:St}{H:Hp}{s:Shared}(I:Inv X J' σ H s)(k:Nat):Inv X J' σ H {s with toks:=k}:=I.tok k
section
variable{X:Cx}
theorem GC{x:Str}{j pos}{p:St->Prop}:PM X (.Constant (.str x) j pos) p:=λJ' s σ H Q I _ q=>Calls.Constant_str (q _ _ rfl (I.tok _))
theorem CD{x:Str}{j pos}{p:St->Prop}(h:x.length<=1000):Ir X (.Constant (.str x) j pos) p:=λJ' s σ H Q I _ q=>Calls.Constant_str (q _ _ _ h rfl (I.tok _))
theorem lz(n:Nat)(h:n<10^19):(Str.ofString (toString (n:Int))).length<=1000:=by
 have e:=int_text_length_le10 (a:=(n:Int)) (k:=19) (by decide) ⋯;rw[PySem.ofString_length]
 lia
theorem log2_small{n:Nat}(h:n<10^19):((n:Int)).natAbs.log2<1920:=by
 have e:((n:Int)).natAbs=n:=rfl;rw[e];by_cases hz:n=0
 ·subst hz;decide
 ·have:=(Nat.log2_lt hz (k:=1920)).mpr (TU h (by decide +kernel));exact this
theorem CF{i:Nat}{x:Str}{pos EW:Pos}(hN:X.N[i]?=U x)(hv:En X.env.scope x)(hd:(x==("__debug__":Str))=G')(xl:(x==("__classdict__":Str))=G'):Ir X (.FormattedValue (.Name x pos) (-1) y' EW) (λσ=>∃n:Nat,σ[i]?=U (U (.int n))/\n<10^19):=by
 intro J' s σ H Q I #[n,h1,h2] q;obtain⟨m,hn,hl⟩:=I.loc;obtain⟨u,r,l⟩:=hl i x _ hN h1 hv;obtain⟨t,rfl⟩:=r;have fin:wpAny (model X.prog X.w) X.A (formatField (.int n t) Str.empty) Q X.xe s:=formatField_int_small (log2_small h2) (q _ _ _ (lz n h2) rfl (qy I _));rcases l with ⟨hk,hm⟩|⟨hk,c,hc,kv⟩
 ·exact FormattedValue_plain (wpAny_Name (wpAny_loadName_local I.ok.kind hk hn hm fin) hd)
 ·rcases hk with hk|hk
  ·exact FormattedValue_plain (wpAny_Name (wpAny_loadName_cell I.ok.kind hk hc kv fin) hd)
  ·exact FormattedValue_plain (wpAny_Name (wpAny_loadName_free I.ok.kind hk hc kv fin xl) hd)
theorem zR{n:Nat}{u:Value}{x:Str}{pos EW:Pos}{p:St->Prop}(hg:Gl X x)(hm:X.mg x=U u)(r:RelV (.int n) u)(h2:n<10^19)(hd:(x==("__debug__":Str))=G'):Ir X (.FormattedValue (.Name x pos) (-1) y' EW) p:=by intro J' s σ H Q I _ q;obtain⟨t,rfl⟩:=r;exact FormattedValue_plain (ij I hg hm (formatField_int_small (log2_small h2) (q _ _ _ (lz n h2) rfl (qy I _))) hd)
theorem CG{p:St->Prop}:Iu X [] p:=λout J' s σ H Q I _ hl q=>joinParts_nil (q _ _ rfl (I.tok _)) (by simpa using hl)
theorem zS{e:Expr}{es:List Expr}{p:St->Prop}(he:Ir X e p)(ht:Iu X es p)(hs:evalEach (e::es) X.env=eval e X.env::evalEach es X.env):Iu X (e::es) p:=by intro out J' s σ H Q I hp hl q;rw[hs];refine joinParts_cons (he J' s σ H _ I hp λy t s' hy hh I'=>?_);have e1:(out++y).length=out.length+y.length:=strLen_append ..;rw[TN]at hl;refine#[by rw[e1];lia,ht (out++y) J' s' σ H Q I' hp (by rw[e1];lia) λu s'' h2 I2=>q u s'' (h2.trans hh) I2]
theorem wG{e1 e2:Expr}{es:List Expr}{p:St->Prop}{pos:Pos}(h:Iu X (e1::e2::es) p)(hl:(e1::e2::es).length<=100):PM X (.JoinedStr (e1::e2::es) pos) p:=by intro J' s σ H Q I hp q;have hz:Str.empty.length=0:=rfl;have mh:=Wc;exact JoinedStr_many (h Str.empty J' s σ H Q I hp ⋯ q)
end
def Hk(cls:Value)(E:XK)(p:St->Prop):TS:=λ_ σ H=>p σ/\E cls y' H
section
variable{X:Cx}{E:XK}{C:Addr}{c:Str}{arg:Expr}{p:St->Prop}{np dR pos:Pos}
theorem Cg{N:Nat}{H:Hp}{h h':Heap}{a:Addr}{cls:Value}{args:List Value}(hN:N<=h.objs.size)(fresh:∀b,h.objs.size<=b->H b=y')(dd:Mx.Dd h h')(m:Heap.MadeExcOf h h' a cls args):gO N cls a H h':=by
 obtain⟨t,e1,e2,e3⟩:=m.there;have ge:h.objs.size<=a:=by
  rcases Nat.lt_or_ge a h.objs.size with hl|hl
  ·have:=dd.none a hl m.new;rw[e1]at this;cases this
  ·exact hl
 refine#[Tz hN ge,fresh a ge,#[_,_,e1,#[rfl,rfl],rfl,.inl rfl],λT z=>?_];obtain⟨o,vs,z1,z2,z3⟩:=z;rw[e1]at z1;cases z1;cases z2;cases z3
theorem zX(hh:X.A.handled=y')(DJ:X.pn=[])(hg:Gl X c)(hm:X.mg c=U (.ref C))(hC:PySem.W.excIn X.K C EA "ValueError.__new__"=B')(hx:∀e s',iO X E e s'->X.xe e s')(he:PM X arg p)
  (kC:starEach [arg] X.env=[(G',eval arg X.env)]) (pU:(c==("__debug__":Str))=G'):PS X (.Raise (U (.Call (.Name c np) [arg] [] dR)) y' pos) (Hk (.ref C) E p):=by
 intro J' s σ H D I h;obtain⟨h1,h2⟩:=h;obtain⟨bm,ns,nm,qn,bs,hd,sn,sub,ab,col,dd,k0,k1,k2,k3,k5,mN,RW,F⟩:=vU I.jH hC;have T0:=(F _ I.jH).2.2;have kr:bm.contains (.type "BaseException")=B':=T0.hasType PySem.F.excBase_ValueError.hasBase;have lG:(backTo dR (starEach [arg] X.env)).any (·.1)=G':=by rw[kC];rfl
 refine Mx.lT (Wi (Q:=λ_ _=>False) (E:=λe s'=>X.xe e s'\/∃s2 a args,e= .ref a/\s2.heap=s.heap/\Inv X J' σ H s2/\s'={s2 with heap:=s'.heap}/\Heap.MadeExcOf s2.heap s'.heap a (.ref C) args) ?_ (λ_ _ z=>z.elim) λe s' z hd=>?_)
 ·refine wpAny_Raise_call_subT (C:=C) (nm:=nm) (q:=qn) (N:=ns) (bs:=bs) (bm:=bm) (hdct:=hd) (sn:=sn) (sub:=sub) (ab:=ab) (col:=col) (dd:=dd) (k0:=k0) (k1:=k1) (k2:=k2) (k3:=k3) (k5:=k5) PySem.F.excBase_ValueError kr hh lG RW (ij I hg hm #[rfl,?_] pU);rw[kC];refine Calls.evalArgs_plain ?_;refine Calls.spliced_cons (Wi (he J' s σ H (λu s'=>s'.heap=s.heap/\Inv X J' σ H s') I h1 λu s' a b=>#[a,b]) (λu s1#[RF,I1]=>?_) λ_ _ z=>.inl z);refine Calls.spliced_nil #[rfl,(by show 1<=sizeLine;decide),(F _ I1.jH).1,(F _ I1.jH).2.1,(F _ I1.jH).2.2,λh' e m=>.inr #[s1,e,_,rfl,RF,I1,rfl,m]]
 ·rcases z with z|⟨s2,a,args,rfl,RG,I2,hs,m⟩
  ·exact z
  ·rw[hs];refine hx _ _ #[σ,H,a,.ref C,rfl,?_,?_,h2]
   ·exact(I2.kept (t':=s2.toks) (h':=s'.heap) m.keeps).fR λp hp=>by cases hp
   ·exact Cg I2.sz (λb hb=>I2.hok.fresh hb) (by rw[RG];exact hd) m
end
structure xH(K:PySem.W.Frag)(D:Addr):Prop where
 ga:PySem.W.findIn K (.ref D) "__getattribute__"=U (U (.builtin "BaseException.__getattribute__"))
 na:PySem.W.findIn K (.ref D) "__getattr__"=U y'
 sb:PySem.W.subIn K (.ref D) (.type "BaseException")=U B'
 fi:PySem.W.findIn K (.ref D) "__class__"=U (U (.builtin "object.__class__"))
 sp:PySem.W.specialIn K (.builtin "object.__class__") "__get__"=U (U (.builtin "getset_descriptor.__get__"))
 tk:PySem.W.takesIn K (.builtin "object.__class__")=U B'
 mr:PySem.W.mroIn K D (.type "object")=U B'
theorem BF{K:PySem.W.Frag}{D:Addr}{Dq:List Value}{newId:String}(q:PySem.W.excIn K D Dq newId=B'):∃c dd cd sl,K.lookup D=U #[c,dd,.cls cd,sl]:=by
 unfold PySem.W.excIn at q;split at q
 ·rename_i Oo;exact#[_,_,_,_,Oo]
 ·cases q
theorem Ji:(Value.builtin "BaseException.__getattribute__"==Value.builtin "object.__getattribute__")=G':=by decide +kernel
theorem yG{prog:Program}{w:World}{A:Around}{E:Value->Shared->Prop}{s:Shared}{x D:Addr}{uP:Value}{Q:Unit->Shared->Prop}(L:PySem.W.Looks (model prog w) s.heap (isInstance (.ref x) (.type "BaseException")) B')(hq:Q () s):wpAny (model prog w) A (checkBuiltinCall "BaseException.__getattribute__" #[[.ref x,uP],[]]) Q E s:=by
 have hk:builtinKind "BaseException.__getattribute__"=U .slot:=by decide +kernel
 have Fk:splitId "BaseException.__getattribute__"=U ("BaseException","__getattribute__"):=by decide +kernel
 have ha:=F.args_bexc_ga (.ref x) uP;simp only[checkBuiltinCall,hk,Fk];refine Td (L.at ?_);simp only[Bool.not_true,UA,V0];cases hsig:Manifest.signature? "BaseException.__getattribute__" with
 |none=>exact Th hq
 |some sig=>simp only[argsOk,hsig]at ha;show wpAny _ A (Bind.checkArgs "BaseException.__getattribute__" sig #[[.ref x,uP],[]]) _ _ s;rw[show Bind.checkArgs "BaseException.__getattribute__" sig #[[.ref x,uP],[]]=pure () from ha];exact Th hq
theorem vT{K:PySem.W.Frag}{x D:Addr}{ox:Obj}(k:xH K D){cd:ClassData}(hc:PySem.W.clsIn K D=U cd){prog:Program}{w:World}{A:Around}{E:Value->Shared->Prop}{Q:Option Value->Shared->Prop}{s:Shared}(X:K.In s.heap)(I:PySem.W.InstAt s.heap x ox D y')(q:Q (U (.ref D)) {s with toks:=s.toks+1}):
  wpAny (model prog w) A (getAttr? (.ref x) "__class__") Q E s:=by
 have hf:PySem.W.findObj K D y' "__class__"=U (.bind (.builtin "getset_descriptor.__get__") (.builtin "object.__class__")):=by unfold PySem.W.findObj;rw[hc,Option.bind_some,k.fi,Option.bind_some];simp[k.sp,k.tk]
 have L0:=I.type (M:=model prog w);have L1:=PySem.W.looks_findIn (M:=model prog w) X k.ga;have L2:=PySem.W.looks_findIn (M:=model prog w) X k.na;have L3:=PySem.W.looks_find (M:=model prog w) X I hf;have L4:PySem.W.Looks (model prog w) s.heap (isInstance (.ref x) (.type "BaseException")) B':=L0.andThen (PySem.W.looks_subIn (M:=model prog w) X k.sb);obtain⟨hh,g,d,t,os⟩:=s;unfold getAttr? getAttrBy? getAttrBy;refine Td (wpAny_mkText (Td (wpAny_attempt (Wh (Td (L0.at (Td (L1.at ?_))))))));simp only[Ji,Ux,UA,V0];unfold getAttrByItsOwn;refine Td ?_;show wpAny _ _ (typeLookup (.ref D) "__getattr__") _ _ _;refine L2.at ?_;refine Td (wpAny_attempt (Wh ?_));show wpAny _ _ (boundAndCalled _ _ _) _ _ _;unfold boundAndCalled;refine Td (wpAny_of_eq (F.excAttr_ValueError.ga.bind (.ref x)) ?_);refine wpAny_call (codeAny_call_builtin F.excAttr_ValueError.ga.plain F.entry_bexc_ga (yG (D:=D) L4 ?_));unfold Builtin.«object.__getattribute__»;refine Td (Th (Td (Th (Td (L0.at (Td (L3.at ?_)))))));show wpAny _ _ (holding [.builtin "object.__class__"] (call (.builtin "getset_descriptor.__get__") [.builtin "object.__class__",.ref x,.ref D]) >>=ret) _ _ _;refine Td (Wh (wpAny_call (PySem.W.class_get (ox:=ox) (od:=y') X I k.mr ?_)));refine Th ?_;show wpAny _ _ (handedOut (.ref D)) _ _ _;exact PySem.W.handed_on rfl (Th q)
theorem zi{K:PySem.W.Frag}{x D:Addr}{ox:Obj}{Dq:List Value}{newId:String}(hq:PySem.W.excIn K D Dq newId=B')(k:xH K D):PySem.W.KitX K (.ref x) (.ref D) (λh=>PySem.W.InstAt h x ox D y'):=by
 obtain⟨c0,SJ,cd,Tc,lk⟩:=BF hq;have hc:PySem.W.clsIn K D=U cd:=by unfold PySem.W.clsIn;rw[lk]
 refine#[λM h _ I=>I.type,λM h X _=>?_,λh tp dd its n sl X htp=>?_,λ {prog w A E Q s} X I q=>vT k hc X I q]
 ·intro A' Q' E' s' kk q;unfold isType loadHead;exact Td (wpAny_loadPart (kk _ _ (X _ _ lk)) (Th q))
 ·refine Bool.eq_false_iff.mpr λq=>?_
  have e:D=tp:=by have:=TY q;cases this;rfl
  rw[<-e,X _ _ lk]at htp;cases htp
abbrev Cx.hand(X:Cx)(a:Addr)(o:Obj):Cx:={X with A:=X.A.mark (U (.ref a)),calm:=G',pn:=[(a,o)],xe:=λ_ _=>False}
structure m9(X:Cx)(D a:Addr)(o:Obj):Prop where
 cls:o.cls= .ref D
 Nm:o.dict=y'
 dat:∃vs,o.data= .fields vs
section
variable{X:Cx}{σ:St}{H:Hp}{s:Shared}{D a:Addr}{o:Obj}
theorem Inv.hand(DJ:X.pn=[])(I:Inv X [] σ H s)(F:gO X.s₀.heap.objs.size (.ref D) a H s.heap)(ho:s.heap.get? a=U o)(xr:m9 X D a o):Inv (X.hand a o) [] σ H s:=by
 obtain⟨vs,hd⟩:=xr.dat;refine#[#[I.ok.mod,I.ok.kind,I.ok.glob,I.ok.blt,I.ok.above,I.ok.inj,I.ok.has,I.ok.A0,(λz=>by cases z),I.ok.frames,I.ok.C7,I.ok.DD,I.ok.bs,I.ok.AZ,I.ok.lP,I.ok.nL,I.ok.gA,I.ok.BJ],I.os,I.bare,I.base,I.loc,I.cell,I.free,I.cz,λp hp=>?_,I.hok,I.len];have e:p=(a,o):=by simpa using hp
 subst e;refine#[ho,F.nH,λz=>?_,λz=>?_,λv q=>by rw[hd]at q;cases q]
 ·obtain⟨m,⟨o',es,ep,h1,h2,_⟩,_⟩:=I.loc;have z:a=X.env.locals:=z;rw[<-z,ho]at h1;cases h1;rw[hd]at h2;cases h2
 ·obtain⟨_,o',nY,Md⟩:=I.ok.gA.mem z;have:=F.ge;have cZ:=Tx nY;exact absurd (TU cZ this) (VE _)
theorem Inv.Hv(DJ:X.pn=[])(I:Inv (X.hand a o) [] σ H s)(hc:X.calm=B'->X.A.handled=y'):Inv X [] σ H s:=
 #[#[I.ok.mod,I.ok.kind,I.ok.glob,I.ok.blt,I.ok.above,I.ok.inj,I.ok.has,I.ok.A0,hc,I.ok.frames,I.ok.C7,I.ok.DD,I.ok.bs,I.ok.AZ,I.ok.lP,I.ok.nL,I.ok.gA,I.ok.BJ],I.os,I.bare,I.base,I.loc,I.cell,I.free,I.cz,(λp hp=>(by rw[DJ]at hp;cases hp)),I.hok,I.len]
theorem uy(I:Inv (X.hand a o) [] σ H s)(xr:m9 X D a o):PySem.W.InstAt s.heap a o D y':=by obtain⟨vs,hd⟩:=xr.dat;refine#[(I.pin (a,o) (by simp)).1,xr.cls,by unfold PySem.W.notCls;rw[hd],?_];rw[xr.Nm];trivial
end
def WX(X:Cx)(σ0:St)(XE:Value->Hp->Prop)(e:Value)(s':Shared):Prop:=∃H' a cls,e= .ref a/\Inv X [] σ0 H' s'/\gO X.s₀.heap.objs.size cls a H' s'.heap/\XE cls H'
def LL(X:Cx)(st:Stmt)(t:TS):Prop:=∀(s:Shared)(σ:St)(H:Hp)(D:Ends),Inv X [] σ H s->t D σ H->wpAny (model X.prog X.w) X.A (exec st X.env) (SP X [] D) X.xe s
def mX(X:Cx)(st:List Stmt)(t:TS):Prop:=∀(s:Shared)(σ:St)(H:Hp)(D:Ends),Inv X [] σ H s->t D σ H->wpAny (model X.prog X.w) X.A (execs st X.env) (SP X [] D) X.xe s
theorem GE{X:Cx}{st:Stmt}{t:TS}(h:PS X st t):LL X st t:=λs σ H D=>h [] s σ H D
theorem CJ{X:Cx}{st:List Stmt}{t:TS}(h:oY X st t):mX X st t:=λs σ H D=>h [] s σ H D
theorem wI{X:Cx}{st:Stmt}{rest:List Stmt}{t u:TS}(h1:LL X st t)(h2:mX X rest u):mX X (st::rest) (Lh t u):=by
 intro s σ H D I hq;refine wpAny_execs_cons (bt (h1 s σ H {D with nx:=u D} I hq) λf s1 z=>?_);cases f with
 |next=>obtain⟨σ1,H1,I1,q1⟩:=z;exact h2 s1 σ1 H1 D I1 q1
 |brk=>exact z
 |cont=>exact z
 |ret v=>exact z
section
variable{X:Cx}{σ:St}{H:Hp}{s:Shared}
theorem Inv.xS{h':Heap}{m:Str->Option Value}{tk:Nat}(DJ:X.pn=[])(I:Inv X [] σ H s)(hn:h'.Ns X.env.locals m)(sb:Heap.SameBut X.env.locals s.heap h'):Inv X [] (List.replicate X.N.length y') H {s with heap:=h',toks:=tk}:=by
 have old:∀b o,X.s₀.heap.get? b=U o->b≠X.env.locals:=λb o e=>T7 (TU (Tx e) I.ok.above)
 have nc:∀y c,X.env.cells.lookup y=U c->c≠X.env.locals:=λy c e z=>by obtain⟨v,o,ho,hd⟩:=I.cell y c e;obtain⟨m',⟨o',es,ep,h1,h2,_⟩,_⟩:=I.loc;rw[z,h1]at ho;cases ho;rw[hd]at h2;cases h2
 refine#[I.ok,I.os,I.bare,#[λb o e n hb hx=>(sb.2 b (old b o e)).trans (I.base.keep b o e n hb hx),λb o e n hb hx=>?_,I.base.free,λb o e hx=>?_,I.base.tups,I.base.frzs,I.base.tbls],#[m,hn,λi x v h1 h2=>?_],λy c e=>?_,I.free,I.cz,λp hp=>?_,?_,Vb]
 ·obtain⟨sl,q⟩:=I.base.slot b o e n hb hx;exact#[sl,(sb.2 b (old b o e)).trans q]
 ·obtain⟨o',q⟩:=I.base.there b o e hx;exact#[o',(sb.2 b (old b o e)).trans q]
 ·rw[U1]at h2;split at h2<;>cases h2
 ·obtain⟨v,o,ho,hd⟩:=I.cell y c e;exact#[v,o,(sb.2 c (nc y c e)).trans ho,hd]
 ·rw[DJ]at hp;cases hp
 ·intro b u e;refine(I.hok b u e).oQ (λc v hc q=>?_) (λ_ q=>q) λ_ _ q=>q
  refine(sb.2 c λz=>?_).trans q;subst z;rcases hc with rfl|hc
  ·rw[I.free]at e;cases e
  ·rw[I.free]at hc;cases hc
theorem Ou{a:Addr}:(Value.ref a)≠byPass:=by intro q;cases q
variable{ok:Addr->Prop}{t:Str}{c:Value}{tp hpos:Pos}{iJ:List Stmt}{b0:Stmt}
theorem Hr{XE:Value->Hp->Prop}{D:Ends}{nm:Option Str}{Q:Flow->Shared->Prop}(st:eW X)(hg:Gl X t)(hm:X.mg t=U c)(pU:(t==("__debug__":Str))=G')
  (hx:∀C,ok C->PySem.W.exmOne X.K (.ref C) c=U B') (Rr:∀cls H',XE cls H'->∃C,cls= .ref C/\ok C)
  (go:∀H' a C s1,XE (.ref C) H'->Inv X [] σ H' s1->gO X.s₀.heap.objs.size (.ref C) a H' s1.heap->(∃T,cV s1.heap a T)->
   codeAny (model X.prog X.w) (X.A.mark (U (.ref a))) (.handlers (.ref a) [.ExceptHandler y' nm (b0::iJ) hpos] X.env) (λr s₂=>match r with
     |.ok f=>(match nm with
      |none=>Q f s₂
      |some n=>wpAny (model X.prog X.w) X.A (do bindName X.env n .none;unbindBehindTheSuite X.env n hpos) (λ_ s₃=>Q f s₃) X.xe s₂)
     |.error x=>cameBackBy (model X.prog X.w) X.A X.env X.xe x s₂) s1)
  {e:Value} {s1:Shared} (w:WX X σ XE e s1):wpAny (model X.prog X.w) X.A (noteFrame e X.env) (λ_ s₂=>wpAny (model X.prog X.w) X.A (setFlight e y') (λ_ s₃=>wpAny (model X.prog X.w) X.A (handleBy e X.env [.ExceptHandler (U (.Name t tp)) nm (b0::iJ) hpos]) Q X.xe s₃) X.xe s₂) X.xe s1:=by
 obtain⟨H',a,cls,rfl,I1,F1,hE⟩:=w;obtain⟨C,rfl,hok⟩:=Rr cls H' hE;obtain⟨hp,eG,kS,L,e1,e2,e3⟩:=st;have lE:=I1.ok.frames;have hl:=I1.stack;rw[e1]at lE hl;refine uc lE hl e2 e3 F1 (λb hb=>I1.hok.fresh hb) λh2 x2 f2 t2=>?_
 rw[<-e1]at x2;have I2:=I1.HK hp F1 x2;refine dU (fs:=eD X.stack) f2 t2 λh3 x3 f3 t3=>?_
 have I3:=I2.HK hp f2 x3;obtain⟨o,vs,ho,⟨DH,lO⟩,hd,_⟩:=id f3.obj;have xr:m9 X C a o:=#[DH,lO,vs,hd];have LG:=I3.hand hp f3 ho xr;have ia:=uy LG xr;refine wpAny_handleBy_cons (codeAny_handlers_test (ij (X:=X.hand a o) LG hg hm ?_ pU)) Ou;exact(PySem.W.exm_one (M:=model X.prog X.w) I3.jH ia.type (hx C hok)).here (go H' a C _ hE I3 f3 t3)
end
section
variable{X:Cx}{E:XK}{tb:TS}{t:Str}{c:Value}{tp hpos pos:Pos}{body iJ:List Stmt}{b0:Stmt}{i:Nat}{n:Str}{D:Ends}
theorem Dg(st:eW X)(Ju:X.calm=B'->X.A.handled=y')(hg:Gl X t)(hm:X.mg t=U c)(pU:(t==("__debug__":Str))=G')
  (hN:X.N.Nodup) (hi:X.N[i]?=U n) (hl:X.env.scope.names.lookup n=U .local) (hb:oY (X.cy (iO X E)) body tb)
  (hh:∀cls H',E cls y' H'->∃C,cls= .ref C/\PySem.W.exmOne X.K (.ref C) c=U B'/\∀a o,m9 X C a o->∃th,oY (X.hand a o) (b0::iJ) th/\∀σ,σ[i]?=U (U (.ref a))->σ.length=X.N.length->th {nx:=λ_ _=>False,rt:=D.rt} σ H')
  {s:Shared} {σ:St} {H:Hp} (I:Inv X [] σ H s) (h:tb D σ H):
  wpAny (model X.prog X.w) X.A (exec (.Try body [.ExceptHandler (U (.Name t tp)) (U n) (b0::iJ) hpos] [] [] pos) X.env) (SP X [] D) X.xe s:=by
 refine wpAny_Try_except (Wi (hb [] s σ H D (I.cy _) h) (λf s1 z=>?_) λe s1 w=>?_)
 ·have z':=z.dM;cases f with
  |next=>exact wpAny_execs_nil z'
  |brk=>exact z'
  |cont=>exact z'
  |ret v=>exact z'
 ·obtain⟨σ1,H1,a1,Nj,e1,I1,F1,E1⟩:=w;refine Hr (X:=X) (σ:=σ1) (ok:=λC=>PySem.W.exmOne X.K (.ref C) c=U B') (XE:=λcls H'=>E cls y' H') (nm:=U n) (D:=D) st hg hm pU (λC h=>h) (λcls H' z=>?_) (λH' a C s2 hE I2 f2 t2=>?_) #[H1,a1,Nj,e1,I1,F1,E1]
  ·obtain⟨C,e,k,_⟩:=hh cls H' z;exact#[C,e,k]
  ·obtain⟨C',eC,_,N8⟩:=hh _ H' hE;cases eC;refine codeAny_handlers_suite_as (dU (fs:=eD X.stack) f2 t2 λh3 x3 f3 t3=>?_);have I3:=I2.HK st.pn f2 x3;obtain⟨o,vs,ho,⟨DH,lO⟩,hd,_⟩:=id f3.obj;have xr:m9 X C a o:=#[DH,lO,vs,hd];have LG:=I3.hand st.pn f3 ho xr;refine iI (X:=X.hand a o) (v:=.ref a) LG hN hi (.inl hl) rfl (λs4 I4=>?_) (.inr hl);obtain⟨th,hs,N8⟩:=N8 a o xr;have hlen:i<σ1.length:=by rw[I1.len];exact(To.mp hi).1
   refine Wi (hs [] _ _ H' _ I4 (N8 _ (by simp[hlen]) (by rw[Vc];exact I1.len))) (λf s5 z=>?_) λ_ _ z=>z.elim
   cases f with
   |next=>obtain⟨σ',LF,I',q⟩:=z;exact q.elim
   |brk=>obtain⟨σ',LF,I',q⟩:=z;exact q.elim
   |cont=>obtain⟨σ',LF,I',q⟩:=z;exact q.elim
   |ret u=>obtain⟨v,σ',LF,I',r,q⟩:=z;have I5:=I'.Hv st.pn Ju;obtain⟨m5,JD,_⟩:=id I5.loc;have E5:X.env.scope.kind= .function:=I5.ok.kind;refine wpAny_nameGoes hl JD (by rw[E5];rfl) λh6 m6 hn6 sb6=>#[v,_,LF,I5.xS st.pn hn6 sb6,r,q]
theorem zK{C a:Addr}{o:Obj}{x y:Str}{v:V}{b:Bool}{p p1 p2:Pos}{Dq:List Value}{newId:String}(xr:m9 X C a o)(hq:PySem.W.excIn X.K C Dq newId=B')(k:xH X.K C)(RE:Gl X "isinstance")(RQ:X.mg "isinstance"=y')(hx:PE (X.hand a o) (.Name x p1) (lC i))(hv:PE (X.hand a o) (.Name y p2) (tC v))(hr:∀u,RelV v u->u=c)(e:PySem.W.kitOne X.K (.ref C) c=U b):
  PE (X.hand a o) (.Call (.Name "isinstance" p) [.Name x p1,.Name y p2] [] pos) (λσ H Q=>σ[i]?=U (U (.ref a))/\Q (.bl b) H):=by
 have hc:dy (X.hand a o) (.builtin "isinstance") (λxs H Q=>xs=[.ref a,v]/\Q (.bl b) H):=by
  intro J' s σ H xs us Q I r #[e1,q];subst e1;obtain⟨u1,u2,rfl,r1,r2⟩:=r.two;cases r1;have:=hr _ r2;subst this;have I0:=I.fR (pins':=[]) λp hp=>by cases hp
  exact VU (zi hq k) I.jH (uy I0 xr) e (by intro z;cases z) λtk=>#[.bl b,H,I.tok tk,rfl,q]
 intro J' s σ H Q I #[h1,h2];exact kU (X:=X.hand a o) hc RE RQ PyProof.Rows.boot_isinstance (bG hx (bG hv eN)) (by decide) (by decide) rfl rfl J' s σ H Q I #[_,h1,rfl,h2]
end
theorem EU{CX:lI}{P:Program}{w:World}{K:PySem.W.Frag}{mg:Str->Option Value}{base:Heap}{k:Nat}{f:Addr}{name qual:Str}{params:Arguments}{body:List Stmt}{scope:Scope}{dV kV doc pm fq ct oc:Value}{an od:Option Addr}
  {uW:Array (Option Value)} {N ps:List Str} {sp:Sp} (lk:K.lookup f=U #[oc,od,.func (PySem.W.fnOf name qual params body scope dV kV doc pm an fq ct),uW]) (xl:PySem.W.codeIn K fq qual=B') (S:eE N ps scope)
  (len:∀vs H Q E,sp vs H Q E->vs.length=ps.length)
  (Jt:∀(A:Around)(outer:List Env)(s:Shared)(H:Hp)(vs:List V)(Q:VK)(E:XK),gQ k (A.deeper (envOfC qual scope s.heap.objs.size f fq))->sp vs H Q E->
   ∃t,mX (kf CX P w K mg base N qual scope f fq A outer s H E) body t/\t {nx:=λ_ H'=>Q .aE H',rt:=Q} (start N vs) H):
  iQ P w K mg base CX (k+1) f (PySem.W.fnOf name qual params body scope dV kV doc pm an fq ct) ps sp:=by
 refine#[len,λA outer s H args us vs Q E hr e0 hb r ml=>?_];have KX:K.In s.heap:=e0.mod.Om.keeps λb o e=>(e0.bs b o e).1
 have JB:∀y∈ps.zip us,scope.names.lookup y.1=U .local\/(scope.names.lookup y.1=U .cell/\((cellsFrom (s.heap.objs.size+1) scope.names []).lookup y.1).isSome=B'):=λ#[n,v]hy=>by
  rcases S.par n (Vp hy).1 with q|q
  ·exact .inl q
  ·exact .inr #[q,VT _ _ _ (.inl q)]
 refine codeAny_call_function hr.depth (KX _ _ lk) rfl S.co S.gen rfl (PySem.W.codeRec_of KX xl) (hb _ _ _ _ (wpAny_newFunctionEnv_cells S.kind JB λenv he s1 x=>?_));subst he;refine#[(e0.mod.nolimit.keeps λb o e=>(e0.bs b o e).1).keeps x.toInCall.keep,codeAny_func ?_];obtain⟨t,ht,hq⟩:=Jt A outer s H vs Q E (hr.deeper _) ml;have I:Inv (kf CX P w K mg base N qual scope f fq A outer s H E) [] (start N vs) H s1:=wg S hr.hd e0 (len _ _ _ _ ml) r x;refine Wi (ht s1 (start N vs) H _ I hq) (λfl s' hs=>?_) λe s' hs=>hs
 have fin:∀{σ':St}{H':Hp}{v:V}{u:Value},Inv (kf CX P w K mg base N qual scope f fq A outer s H E) [] σ' H' s'->RelV v u->Q v H'->CE outer P w H s Q u s':=
  λ {σ' H' v u} J rv q=>#[v,H',J.os,J.bare,J.base,J.hok,rv,q]
 cases fl with
 |ret u=>obtain⟨v,σ',H',J,rv,q⟩:=hs;exact fin J rv q
 |next=>obtain⟨σ',H',J,q⟩:=hs;exact fin (v:=V.aE) (u:=Value.none) J rfl q
 |brk=>obtain⟨_,_,_,q⟩:=hs;exact q.elim
 |cont=>obtain⟨_,_,_,q⟩:=hs;exact q.elim
end L2
end
section
namespace Rx
open PySem PySem.W PySem.Spec PyProof.Rows L2 PySem.SeqAt
def HQ(K:Frag)(mg:Str->Option Value)(C:Addr)(ts:List (Str×Bool)):Prop:=excIn K C EA "ValueError.__new__"=B'/\xH K C/\
 ∀t b,ts.lookup t=U b->∃c,(mg t=U c/\(∃D,c= .ref D)\/mg t=y'/\t="ValueError"/\c= .type "ValueError")/\kitOne K (.ref C) c=U b/\(b=B'->exmOne K (.ref C) c=U B')
structure HX(g:G)(xv:Nat->Value)(CX:lI)(k:Nat)(F:FT)(Φ:Fm)(X:Cx):Prop where
 K:Φ.K=X.K
 P:Φ.P=X.prog
 w:Φ.w=X.w
 fx:∃n,FX g xv CX X.prog X.w X.K X.mg X.base n k F
 room:gQ k X.A
 cx:CX=oW X.prog X.w
 st:eW X
 xgx:∀e s',iO X (jW Φ xv) e s'->X.xe e s'
 xk:∀k x ts,g.xs[k]?=U (x,ts)->∃C,xv k= .ref C/\X.mg x=U (.ref C)/\HQ X.K X.mg C ts
theorem HX.pass{g:G}{xv:Nat->Value}{CX:lI}{k:Nat}{F:FT}{Φ:Fm}{X:Cx}(h:HX g xv CX k F Φ X):qN CX X (jW Φ xv):=λJ' σ H s e s' I c=>by have hc:=h.cx;subst hc;exact h.xgx e s' (AN I h.st.pn c)
theorem a8{X:Cx}{e:Expr}{t t':TE}(h:PE X e t)(hi:∀σ H Q,t' σ H Q->t σ H Q):PE X e t':=λJ' s σ H Q I q=>h J' s σ H Q I (hi σ H Q q)
theorem oG{X:Cx}{e:Expr}{t t':TT}(h:PT X e t)(hi:∀σ H Q,t' σ H Q->t σ H Q):PT X e t':=λJ' s σ H Q I q=>h J' s σ H Q I (hi σ H Q q)
theorem Aa{X:Cx}{e:Expr}{t t':TT}(h:PW X e t)(hi:∀σ H Q,t' σ H Q->t σ H Q):PW X e t':=λwh J' s σ H Q I q=>h wh J' s σ H Q I (hi σ H Q q)
theorem zF{X:Cx}{e:List Expr}{t t':TA}(h:PA X e t)(hi:∀σ H Q,t' σ H Q->t σ H Q):PA X e t':=λpos J' s σ H Q I q=>h pos J' s σ H Q I (hi σ H Q q)
theorem oC{X:Cx}{tg e:Expr}{t t':TI}(h:PI X tg e t)(hi:∀σ H Q,t' σ H Q->t σ H Q):PI X tg e t':=λJ' s σ H Q I q=>h J' s σ H Q I (hi σ H Q q)
section
variable{Φ:Fm}{Γ:Gm}{fr:Nat->Bool}{o:Ow}{ρ:aj}{σ:L2.St}{H H':Hp}
theorem EO.sc{c:C}{d:Dt}(h:o8 d=B'):EO Φ.K fr o c H d (qL d) H:=#[aR.refl,qp h,λ_=>qp h,λ_=>(qp h).one,λ_ ds e=>by subst e;simp[o8]at h]
theorem EO.pI{c:C}{d:Dt}{v:V}{H1:Hp}(e:aR o.d H H1)(h:EO Φ.K fr o c H1 d v H')(hf:fresh fr c=B'->∀ds,d= .lst ds->∀a,H1 a=y'->H a=y'):EO Φ.K fr o c H d v H':=
 #[e.trans h.ext,h.val,h.de,h.sS,λf ds ed=>by
  obtain⟨a,xs,h1,h2,h3⟩:=h.eD f ds ed;exact#[a,xs,h1,hf f ds ed a h2,h3]]
theorem yz{X:Addr->Prop}{H1:Hp}(e:aR X H H1)(hx:∀b,X b->∃y,H1 b=U y){a:Addr}(h:H1 a=y'):H a=y':=by
 cases q:H a with
 |none=>rfl
 |some x=>obtain⟨y,z⟩:=e.al q (hx a);rw[h]at z;cases z
theorem ER.d7{S1:Sx}{H1:Hp}(aC:ER Φ Γ o ρ S1 σ H1)(e:aR o.d H H1){a:Addr}(h:H1 a=y'):H a=y':=yz e (λb z=>aC.al b (aC.da b z)) h
theorem EO.keep{c:C}{d:Dt}{v:V}{H1 H2:Hp}(h:EO Φ.K fr o c H d v H1)(e:aR o.d H1 H2)(wa:∀b,o.wd b->o.A b):RV Φ.K o.wd H2 v d/\(lk c=0->RV Φ.K o.A H2 v d)/\(lk c<=1->fu Φ.K o.A H2 v d):=by
 have hd:∀b,o.d b->o.wd b:=λb z=>.inr z
 refine#[h.val.mono e hd λ_ z=>z,λl=>(h.de l).mono e (λb z=>wa b (hd b z)) λ_ z=>z,λl=>?_];refine(h.sS l).ext e (λb z=>wa b (hd b z)) λds a ed ev z=>?_
 subst ed ev;obtain⟨b,xs,q,_,n,_⟩:=h.val.lst_inv;cases q;exact n (.inr z)
theorem EO.pr{c:C}{xs:List V}{ds:List Dt}{d:Dt}{v:V}{H1 H2:Hp}{S1:Sx}{f:Bool}(aC:ER Φ Γ o ρ S1 σ H1)(e:aR o.d H H1)(hv:ar Φ.K o.wd H1 xs ds)(h1:lk c<=1->mZ Φ.K o.A H1 xs ds)(hl:lk c=0\/lk c=2)
  (pr:PR Φ.K f xs ds H1 d v H2) (hf:fresh fr c=B'->f=B'):EO Φ.K fr o c H d v H2/\ER Φ Γ o ρ S1 σ H2:=by
 have q0:lk c=0->RV Φ.K o.A H2 v d:=λl=>pr.val o.A aC.al (h1 ⋯)
 refine#[#[e.trans (aR.of_same pr.same),pr.val o.wd aC.xK hv.ones,q0,λl=>(q0 ⋯).one,λfc es ed=>?_],aC.grow pr.same];obtain⟨a,ys,k1,k2,k3,k4⟩:=pr.eD (hf fc) es ed;exact#[a,ys,k1,aC.d7 e k2,k3,k4 o.wd aC.xK hv.ones,λl=>k4 o.A aC.al (h1 ⋯)]
theorem cO{A:Addr->Prop}{K:Frag}{v:V}{d:Dt}(h:RV K A H v d):RV K N0 H v d:=h.weak λ_ z=>z.elim
theorem FV{A:Addr->Prop}{K:Frag}{v:List V}{d:List Dt}(h:ar K A H v d):ar K N0 H v d:=h.weak λ_ z=>z.elim
end
section
variable{X:Cx}{Φ:Fm}{Γ:Gm}{F:FT}{fr:Nat->Bool}
theorem qr{e:Expr}{d:Dt}(hd:o8 d=B')(h:PE X e (tC (qL d))):PE X e (bj Φ Γ F fr (.con d)):=a8 h λσ H Q q=>by obtain⟨o,ρ,S,er,q⟩:=q;exact q _ _ (EO.sc hd) er
theorem jC{Ek:Nat->Prop}{ρ:aj}{i:Nat}{P:Dt->Prop}(h:mR Ek (bJ ρ i) P):∃d,ρ[i]?=U (U d)/\P d:=by
 unfold bJ at h;split at h
 ·exact#[_,by assumption,h]
 ·exact h.elim
theorem KW{e:Expr}{i:Nat}(h:PE X e (lC i))(hm:ff Γ i=G'):PE X e (bj Φ Γ F fr (.var i)):=a8 h λσ H Q q=>by obtain⟨o,ρ,S,er,q⟩:=q;rw[vf]at q;rw[aa]at q;obtain⟨d,hd,q⟩:=jC q;obtain⟨v,h1,h2⟩:=er.val i d hd;rw[hm,V1 (by simp)]at h2;exact#[v,h1,q v H #[aR.refl,h2.weak er.eU,λ_=>h2,λ_=>h2.one,λz=>by cases z] er]
theorem KM{e:Expr}{i:Nat}(h:PE X e (lC i))(hm:ff Γ i=B')(hκ:Γ.κ≠U i):PE X e (bj Φ Γ F fr (.mvr i)):=a8 h λσ H Q q=>by obtain⟨o,ρ,S,er,q⟩:=q;rw[oH]at q;rw[aa]at q;obtain⟨d,hd,q⟩:=jC q;obtain⟨v,h1,h2⟩:=er.val i d hd;rw[hm,V2 rfl]at h2;exact#[v,h1,q v H #[aR.refl,h2.val (er.nd hd hκ) er.wa er.da,λz=>(by cases z),λ_=>h2.one (er.nd hd hκ),λz=>by cases z] er]
theorem jJ{Ek:Nat->Prop}{r:R Dt}{P:Dt->Prop}(lF:∀k,r≠ .ex k)(h:mR Ek r P):∃d,r= .ok d/\P d:=by
 cases r with
 |ok a=>exact#[a,rfl,h]
 |ex k=>exact absurd rfl (lF k)
 |bad=>exact h.elim
theorem b6{b:Bool}{α:Type}{r:R α}(h:∀k,r≠ .ex k):∀k,af b r≠ .ex k:=by
 intro k;cases b
 ·intro z;cases z
 ·exact h k
theorem F9(o:Operator)(d e:Dt):∀k,oz o d e≠ .ex k:=by intro k;unfold oz;split<;>first|(intro z;cases z;done)|(split<;>first|(intro z;cases z;done)|(exact b6 (λk z=>by cases z) k))
theorem fN(o:CmpOp)(d e:Dt):∀k,bT o d e≠ .ex k:=by intro k;unfold bT;split<;>first|(intro z;cases z;done)|(exact b6 (λk z=>by cases z) k)|(split<;>first|(intro z;cases z;done)|(exact b6 (λk z=>by cases z) k))
theorem qR(ds:List Dt)(i:Int):∀k,xM ds i≠ .ex k:=by intro k;unfold xM;split<;>(intro z;cases z)
theorem BZ(d e:Dt):∀k,bB d e≠ .ex k:=by
 intro k;unfold bB;split
 ·exact qR _ _ k
 ·exact qR _ _ k
 ·exact qR _ _ k
 ·exact b6 (λk=>by split<;>(intro z;cases z)) k
 ·intro z;cases z
theorem C4(d:Dt)(lo hi:Option Int):∀k,fm d lo hi≠ .ex k:=by intro k;unfold fm;split<;>first|(intro z;cases z;done)|(exact b6 (λk z=>by cases z) k)
theorem Df(d:Dt):∀k,cw d≠ .ex k:=by intro k;unfold cw;split<;>first|(intro z;cases z;done)|(exact b6 (λk z=>by cases z) k)
theorem cN{Ek:Nat->Prop}{r:R Bool}{P:Bool->Prop}(lF:∀k,r≠ .ex k)(h:mR Ek r P):∃d,r= .ok d/\P d:=by
 cases r with
 |ok a=>exact#[a,rfl,h]
 |ex k=>exact absurd rfl (lF k)
 |bad=>exact h.elim
theorem rQ{op:Operator}{a b:C}:(lk (.bin op a b)=0\/lk (.bin op a b)=2)/\(lk (.bin op a b)<=1->lk a<=1/\lk b<=1):=by
 have e:lk (.bin op a b)=if lk a<=1/\lk b<=1 then 0 else 2:=rfl
 rw[e];split
 ·rename_i h;exact#[.inl rfl,λ_=>h]
 ·exact#[.inr rfl,λz=>⋯]
theorem KD{a b:Expr}{a' b':C}{op:Operator}{pos:Pos}(hK:Φ.K=X.K)(ha:PE X a (bj Φ Γ F fr a'))(hb:PE X b (bj Φ Γ F fr b')):PE X (.BinOp a op b pos) (bj Φ Γ F fr (.bin op a' b')):=a8 (DU (Gb op) ha hb) λσ H Q q=>by
 obtain⟨o,ρ,S,er,q⟩:=q;rw[CT]at q;rw[aa]at q;refine#[o,ρ,S,er,ag q λp _ q x H1 aU aC=>?_];rw[aa]at q;refine#[o,ρ,p.2,aC,ag q λp2 _ q y H2 eo2 cY=>?_];rw[aa]at q;obtain⟨z,hz,q⟩:=jJ (F9 _ _ _) q;obtain⟨k1,k2,k3⟩:=aU.keep eo2.ext er.eU;refine#[p.1,p2.1,z,hK▸cO k1,hK▸cO eo2.val,hz,λv H3 pr=>?_];rw[<-hK]at pr;obtain⟨e1,e2⟩:=EO.pr (fr:=fr) (H:=H) (c:=.bin op a' b') cY (aU.ext.trans eo2.ext) (ar.cons k1 (ar.cons eo2.val ar.nil)) (λl=>#[k3 (rQ.2 l).1,eo2.sS (rQ.2 l).2,trivial]) rQ.1 pr λ_=>rfl
 exact q v H3 e1 e2
theorem KG{a b:Expr}{a' b':C}{op:CmpOp}{pos:Pos}(hK:Φ.K=X.K)(hu:X.A.units+150<cLine)(hm:behindInMarks op b=G')(ha:PE X a (bj Φ Γ F fr a'))(hb:PE X b (bj Φ Γ F fr b')):PE X (.Compare a [op] [b] pos) (bj Φ Γ F fr (.cmp op a' b')):=a8 (uZ (gH op hu) ha hb hm) λσ H Q q=>by obtain⟨o,ρ,S,er,q⟩:=q;rw[CU]at q;rw[aa]at q;refine#[o,ρ,S,er,ag q λp _ q x H1 aU aC=>?_];rw[aa]at q;refine#[o,ρ,p.2,aC,ag q λp2 _ q y H2 eo2 cY=>?_];rw[aa]at q;obtain⟨z,hz,q⟩:=cN (fN _ _ _) q;obtain⟨k1,k2,k3⟩:=aU.keep eo2.ext er.eU;refine#[p.1,p2.1,z,hK▸cO k1,hK▸cO eo2.val,hz,q _ _ ?_ cY];have:=EO.sc (Φ:=Φ) (fr:=fr) (o:=o) (H:=H2) (c:=.cmp op a' b') (d:=.bl z) rfl;exact this.pI (aU.ext.trans eo2.ext) λf=>by cases f
theorem G3{a b:Expr}{a' b':C}{op:CmpOp}{pos:Pos}(hK:Φ.K=X.K)(hu:X.A.units+150<cLine)(hm:behindInMarks op b=G')(ha:PE X a (bj Φ Γ F fr a'))(hb:PE X b (bj Φ Γ F fr b')):PT X (.Compare a [op] [b] pos) (ez Φ Γ F (.cmp op a' b')):=oG (CL (gH op hu) ha hb hm) λσ H Q q=>by obtain⟨o,ρ,S,er,q⟩:=q;rw[Ac]at q;rw[aa]at q;refine#[o,ρ,S,er,ag q λp _ q x H1 aU aC=>?_];rw[aa]at q;refine#[o,ρ,p.2,aC,ag q λp2 _ q y H2 eo2 cY=>?_];rw[aa]at q;obtain⟨z,hz,q⟩:=cN (fN _ _ _) q;obtain⟨k1,k2,k3⟩:=aU.keep eo2.ext er.eU;exact#[p.1,p2.1,z,hK▸cO k1,hK▸cO eo2.val,hz,z,rfl,q _ (aU.ext.trans eo2.ext) cY]
end
section
variable{X:Cx}{Φ:Fm}{Γ:Gm}{F:FT}{fr:Nat->Bool}
theorem ar.emp{K:Frag}{A:Addr->Prop}{H:Hp}{xs:List V}{ds:List Dt}(h:ar K A H xs ds):ds.isEmpty=xs.isEmpty:=by
 have:=h.length;cases xs with
 |nil=>cases ds with
  |nil=>rfl
  |cons=>simp at this
 |cons=>cases ds with
  |nil=>simp at this
  |cons=>rfl
theorem OU{a b c:Expr}{a' b' c':C}{op oy:CmpOp}{pos:Pos}(hK:Φ.K=X.K)(hu:X.A.units+150<cLine)(hm:lastMarks [op,oy] [b,c]=G')(ha:PE X a (bj Φ Γ F fr a'))(hb:PE X b (bj Φ Γ F fr b'))(hc:PE X c (bj Φ Γ F fr c')):
  PE X (.Compare a [op,oy] [b,c] pos) (bj Φ Γ F fr (.ch op oy a' b' c')):=a8 (zI (gH op hu) (gH oy hu) ha hb hc hm) λσ H Q q=>by
 obtain⟨o,ρ,S,er,q⟩:=q;rw[GN]at q;rw[aa]at q;refine#[o,ρ,S,er,ag q λp _ q x H1 aU aC=>?_];rw[aa]at q;refine#[o,ρ,p.2,aC,ag q λp2 _ q y H2 eo2 cY=>?_];rw[aa]at q;obtain⟨z,hz,q⟩:=cN (fN _ _ _) q;obtain⟨k1,k2,k3⟩:=aU.keep eo2.ext er.eU;refine#[p.1,p2.1,z,hK▸cO k1,hK▸cO eo2.val,hz,z,rfl,?_];have sc:∀(H3:Hp)(t:Bool),aR o.d H2 H3->EO Φ.K fr o (.ch op oy a' b' c') H (.bl t) (.bl t) H3:=λH3 t e3=>
  (EO.sc (Φ:=Φ) (fr:=fr) (o:=o) (H:=H3) (c:=.ch op oy a' b' c') (d:=.bl t) rfl).pI ((aU.ext.trans eo2.ext).trans e3) λf=>by cases f
 cases z with
 |false=>exact q _ _ (sc H2 G' aR.refl) cY
 |true=>simp only[V3]at q ⊢;rw[aa]at q;refine#[o,ρ,p2.2,cY,ag q λp3 _ q w H3 eo3 pH=>?_];rw[aa]at q;obtain⟨z',dC,q⟩:=cN (fN _ _ _) q;obtain⟨l1,l2,l3⟩:=eo2.keep eo3.ext er.eU;exact#[p2.1,p3.1,z',hK▸cO l1,hK▸cO eo3.val,dC,q _ _ (sc H3 z' eo3.ext) pH]
theorem KF{a b c:Expr}{a' b' c':C}{op oy:CmpOp}{pos:Pos}(hK:Φ.K=X.K)(hu:X.A.units+150<cLine)(hm:lastMarks [op,oy] [b,c]=G')(ha:PE X a (bj Φ Γ F fr a'))(hb:PE X b (bj Φ Γ F fr b'))(hc:PE X c (bj Φ Γ F fr c')):
  PT X (.Compare a [op,oy] [b,c] pos) (ez Φ Γ F (.ch op oy a' b' c')):=oG (zZ (gH op hu) (gH oy hu) ha hb hc hm) λσ H Q q=>by
 obtain⟨o,ρ,S,er,q⟩:=q;rw[vc]at q;rw[aa]at q;refine#[o,ρ,S,er,ag q λp _ q x H1 aU aC=>?_];rw[aa]at q;refine#[o,ρ,p.2,aC,ag q λp2 _ q y H2 eo2 cY=>?_];rw[aa]at q;obtain⟨z,hz,q⟩:=cN (fN _ _ _) q;obtain⟨k1,k2,k3⟩:=aU.keep eo2.ext er.eU;refine#[p.1,p2.1,z,hK▸cO k1,hK▸cO eo2.val,hz,z,rfl,?_];cases z with
 |false=>exact#[G',rfl,q _ (aU.ext.trans eo2.ext) cY]
 |true=>simp only[V3]at q ⊢;rw[aa]at q;refine#[o,ρ,p2.2,cY,ag q λp3 _ q w H3 eo3 pH=>?_];rw[aa]at q;obtain⟨z',dC,q⟩:=cN (fN _ _ _) q;obtain⟨l1,l2,l3⟩:=eo2.keep eo3.ext er.eU;exact#[p2.1,p3.1,z',hK▸cO l1,hK▸cO eo3.val,dC,z',rfl,q _ ((aU.ext.trans eo2.ext).trans eo3.ext) pH]
theorem KN{a:Expr}{a':C}{pos:Pos}(ha:PE X a (bj Φ Γ F fr a')):PE X (.UnaryOp .USub a pos) (bj Φ Γ F fr (.neg a')):=a8 (Kr Hu ha) λσ H Q q=>by
 obtain⟨o,ρ,S,er,q⟩:=q;rw[CV]at q;rw[aa]at q;refine#[o,ρ,S,er,ag q λp _ q x H1 aU aC=>?_];split at q
 ·rename_i i hi;have:=aU.val;rw[hi]at this;refine#[i,this.int_inv,q _ _ ?_ aC];exact(EO.sc (Φ:=Φ) (fr:=fr) (o:=o) (H:=H1) (c:=.neg a') (d:=.int (-i)) rfl).pI aU.ext λf=>by cases f
 ·exact q.elim
theorem OW{a:Expr}{a':C}{pos:Pos}(ha:PE X a (bj Φ Γ F fr a')):PE X (.UnaryOp .Not a pos) (bj Φ Γ F fr (.nt a')):=a8 (zM ha) λσ H Q q=>by
 obtain⟨o,ρ,S,er,q⟩:=q;rw[GO]at q;rw[aa]at q;refine#[o,ρ,S,er,ag q λp _ q x H1 aU aC=>?_];split at q
 ·rename_i i hi;have:=aU.val;rw[hi]at this;refine#[i,this.bA,q _ _ ?_ aC];exact(EO.sc (Φ:=Φ) (fr:=fr) (o:=o) (H:=H1) (c:=.nt a') (d:=.bl (!i)) rfl).pI aU.ext λf=>by cases f
 ·exact q.elim
theorem KP{a:Expr}{a':C}{pos:Pos}(ha:PT X a (ez Φ Γ F a')):PT X (.UnaryOp .Not a pos) (ez Φ Γ F (.nt a')):=oG (GI ha) λσ H Q q=>by obtain⟨o,ρ,S,er,q⟩:=q;rw[CQ]at q;rw[aa]at q;exact#[o,ρ,S,er,ag q λp _ q H1 e1 aC=>q _ e1 aC]
theorem KC{a b:Expr}{rest:List Expr}{a' b':C}{pos:Pos}(ha:PE X a (bj Φ Γ F fr a'))(hb:PE X (.BoolOp .And (b::rest) pos) (bj Φ Γ F fr b')):PE X (.BoolOp .And (a::b::rest) pos) (bj Φ Γ F fr (.and a' b')):=a8 (zH ha hb) λσ H Q q=>by
 obtain⟨o,ρ,S,er,q⟩:=q;rw[CS]at q;rw[aa]at q;refine#[o,ρ,S,er,ag q λp _ q x H1 aU aC=>?_];have sc:∀(H3:Hp)(t:Bool),aR o.d H H3->EO Φ.K fr o (.and a' b') H (.bl t) (.bl t) H3:=λH3 t e3=>
  (EO.sc (Φ:=Φ) (fr:=fr) (o:=o) (H:=H3) (c:=.and a' b') (d:=.bl t) rfl).pI e3 λf=>by cases f
 split at q
 ·rename_i hi;have:=aU.val;rw[hi]at this;refine#[B',this.bA,?_];rw[aa]at q;refine#[o,ρ,p.2,aC,ag q λp2 _ q y H2 eo2 cY=>?_];split at q
  ·rename_i c hc;have h2:=eo2.val;rw[hc]at h2;rw[h2.bA];exact q _ _ (sc H2 c (aU.ext.trans eo2.ext)) cY
  ·exact q.elim
 ·rename_i hi;have:=aU.val;rw[hi]at this;exact#[G',this.bA,q _ _ (sc H1 G' aU.ext) aC]
 ·exact q.elim
theorem OX{a b:Expr}{rest:List Expr}{a' b':C}{pos:Pos}(ha:PE X a (bj Φ Γ F fr a'))(hb:PE X (.BoolOp .Or (b::rest) pos) (bj Φ Γ F fr b')):PE X (.BoolOp .Or (a::b::rest) pos) (bj Φ Γ F fr (.or a' b')):=a8 (DW ha hb) λσ H Q q=>by
 obtain⟨o,ρ,S,er,q⟩:=q;rw[GQ]at q;rw[aa]at q;refine#[o,ρ,S,er,ag q λp _ q x H1 aU aC=>?_];have sc:∀(H3:Hp)(t:Bool),aR o.d H H3->EO Φ.K fr o (.or a' b') H (.bl t) (.bl t) H3:=λH3 t e3=>
  (EO.sc (Φ:=Φ) (fr:=fr) (o:=o) (H:=H3) (c:=.or a' b') (d:=.bl t) rfl).pI e3 λf=>by cases f
 split at q
 ·rename_i hi;have:=aU.val;rw[hi]at this;refine#[G',this.bA,?_];rw[aa]at q;refine#[o,ρ,p.2,aC,ag q λp2 _ q y H2 eo2 cY=>?_];split at q
  ·rename_i c hc;have h2:=eo2.val;rw[hc]at h2;rw[h2.bA];exact q _ _ (sc H2 c (aU.ext.trans eo2.ext)) cY
  ·exact q.elim
 ·rename_i hi;have:=aU.val;rw[hi]at this;exact#[B',this.bA,q _ _ (sc H1 B' aU.ext) aC]
 ·exact q.elim
theorem G2{a b:Expr}{rest:List Expr}{a' b':C}{pos:Pos}(ha:PT X a (ez Φ Γ F a'))(hb:PW X (.BoolOp .And (b::rest) pos) (ez Φ Γ F b')):PW X (.BoolOp .And (a::b::rest) pos) (ez Φ Γ F (.and a' b')):=Aa (GJ ha hb) λσ H Q q=>by
 obtain⟨o,ρ,S,er,q⟩:=q;rw[qh]at q;rw[aa]at q;refine#[o,ρ,S,er,ag q λp _ q H1 e1 aC=>?_];cases hp:p.1 with
 |true=>rw[hp]at q;rw[V2 rfl];exact#[o,ρ,p.2,aC,ag q λp2 _ q H2 e2 cY=>q _ (e1.trans e2) cY]
 |false=>rw[hp]at q;rw[V1 (by simp)];exact q _ e1 aC
theorem KQ{a b:Expr}{rest:List Expr}{a' b':C}{pos:Pos}(ha:PT X a (ez Φ Γ F a'))(hb:PW X (.BoolOp .Or (b::rest) pos) (ez Φ Γ F b')):PW X (.BoolOp .Or (a::b::rest) pos) (ez Φ Γ F (.or a' b')):=Aa (Ku ha hb) λσ H Q q=>by
 obtain⟨o,ρ,S,er,q⟩:=q;rw[iD]at q;rw[aa]at q;refine#[o,ρ,S,er,ag q λp _ q H1 e1 aC=>?_];cases hp:p.1 with
 |false=>rw[hp]at q;rw[V1 (by simp)];exact#[o,ρ,p.2,aC,ag q λp2 _ q H2 e2 cY=>q _ (e1.trans e2) cY]
 |true=>rw[hp]at q;rw[V2 rfl];exact q _ e1 aC
theorem zq{a b:C}:(lk (.idx a b)=0\/lk (.idx a b)=2)/\(lk (.idx a b)<=1->lk a<=1):=by
 have e:lk (.idx a b)=if lk a<=1 then 0 else 2:=rfl
 rw[e];split
 ·rename_i h;exact#[.inl rfl,λ_=>h]
 ·exact#[.inr rfl,λz=>⋯]
theorem KH{a b:Expr}{a' b':C}{pos:Pos}(hK:Φ.K=X.K)(hs:mY b)(ha:PE X a (bj Φ Γ F fr a'))(hb:PE X b (bj Φ Γ F fr b')):PE X (.Subscript a b pos) (bj Φ Γ F fr (.idx a' b')):=a8 (Kq Fy ha hb hs) λσ H Q q=>by
 obtain⟨o,ρ,S,er,q⟩:=q;rw[ve]at q;rw[aa]at q;refine#[o,ρ,S,er,ag q λp _ q x H1 aU aC=>?_];rw[aa]at q;refine#[o,ρ,p.2,aC,ag q λp2 _ q y H2 eo2 cY=>?_];rw[aa]at q;obtain⟨z,hz,q⟩:=jJ (BZ _ _) q;obtain⟨k1,k2,k3⟩:=aU.keep eo2.ext er.eU;refine#[p.1,p2.1,z,hK▸cO k1,hK▸cO eo2.val,hz,λv pr=>?_];rw[<-hK]at pr;have Q9:∃i,p2.1= .int i:=by
  cases hd:p2.1 with
  |int i=>exact#[i,rfl]
  |_=>rw[hd]at hz;unfold bB at hz;split at hz<;>first|(rename_i h;cases h;done)|(cases hz;done)|contradiction
 obtain⟨i,hi⟩:=Q9;have v2:∀A:Addr->Prop,fu Φ.K A H2 y p2.1:=λA=>by have:=eo2.val;rw[hi]at this ⊢;rw[this.int_inv];exact(RV.eL (K:=Φ.K) (A:=A)).one
 obtain⟨e1,e2⟩:=EO.pr (fr:=fr) (H:=H) (c:=.idx a' b') cY (aU.ext.trans eo2.ext) (ar.cons k1 (ar.cons eo2.val ar.nil)) (λl=>#[k3 (zq.2 l),v2 _,trivial]) zq.1 pr λz=>by cases z
 exact q v H2 e1 e2
theorem jO{a:Expr}{a':C}(hK:Φ.K=X.K)(ha:PE X a (bj Φ Γ F fr a'))(he:∀whole,isTrue a X.env whole=(do let v<-whole;standAt a.pos;holding [v] (truthy v)))
  (P7:∀ρ S,aQ F a' ρ S=(ev F a' ρ S).bind λx=>(cw x.1).bind λb=>.ok (b,x.2)):PT X a (ez Φ Γ F a'):=oG (z9 ha he) λσ H Q q=>by
 obtain⟨o,ρ,S,er,q⟩:=q;rw[P7,aa]at q;refine#[o,ρ,S,er,ag q λp _ q x H1 aU aC=>?_];rw[aa]at q;obtain⟨b,hb,q⟩:=cN (Df _) q;refine#[b,?_,q _ aU.ext aC];have hv:=aU.val;rw[hK]at hv;unfold cw at hb;split at hb
 ·rename_i hd;rw[hd]at hv;cases hb;rw[hv.dc];rfl
 ·rename_i hd;rw[hd]at hv;cases hb;rw[hv.bA];rfl
 ·rename_i hd;rw[hd]at hv;cases hb;rw[hv.int_inv];rfl
 ·rename_i hd;rw[hd]at hv;obtain⟨g1,hb⟩:=aP hb;cases hb;rw[hv.str_inv];exact#[Tz (Tn g1) cM,rfl]
 ·rename_i hd;rw[hd]at hv;cases hb;obtain⟨a,xs,rfl,h1,_,h2⟩:=hv.lst_inv;refine .inl #[xs,du.of h1,?_];rw[h2.emp]
 ·rename_i hd;rw[hd]at hv;cases hb;obtain⟨a,xs,rfl,h1,h2⟩:=hv.aw;refine .inr (.inl #[xs,dO.of h1,?_]);rw[h2.emp]
 ·rename_i hd;rw[hd]at hv;cases hb;obtain⟨a,rfl,h1⟩:=hv.jc;refine .inl #[_,h1,?_];simp
 ·cases hb
end
section
variable{X:Cx}{Φ:Fm}{Γ:Gm}{F:FT}{fr:Nat->Bool}
theorem FH{a b:C}{c:C}(hc:lk c=if lk a<=1 then 0 else 2):(lk c=0\/lk c=2)/\(lk c<=1->lk a<=1):=by
 rw[hc];split
 ·rename_i h;exact#[.inl rfl,λ_=>h]
 ·exact#[.inr rfl,λz=>⋯]
theorem nO{o:Ow}{ρ:aj}{S:Sx}{σ:L2.St}{H H1 H2:Hp}{a' c:C}{d:Dt}{x:V}{lo hi:Option Int}{Q:VK}(hK:Φ.K=X.K)(hc:lk c=if lk a'<=1 then 0 else 2)(hf:fresh fr c=B'->True)(er:ER Φ Γ o ρ S σ H2)(aU:EO Φ.K fr o a' H d x H1)(e:aR o.d H1 H2)
  (q:mR Φ.Ek (fm d lo hi) λz=>∀v H3,EO Φ.K fr o c H z v H3->ER Φ Γ o ρ S σ H3->Q v H3):rS X.K x lo hi H2 Q:=by
 obtain⟨z,hz,q⟩:=jJ (C4 _ _ _) q;obtain⟨k1,k2,k3⟩:=aU.keep e er.eU;refine#[d,z,hK▸cO k1,hz,λv H3 pr=>?_];rw[<-hK]at pr;have hl:=FH (b:=c) hc;obtain⟨e1,e2⟩:=EO.pr (fr:=fr) (H:=H) (c:=c) er (aU.ext.trans e) (ar.cons k1 ar.nil) (λl=>#[k3 (hl.2 l),trivial]) hl.1 pr λ_=>rfl
 exact q v H3 e1 e2
theorem Ha{a l:Expr}{a' l':C}{p2 pos:Pos}(hK:Φ.K=X.K)(ha:PE X a (bj Φ Γ F fr a'))(hl:PE X l (bj Φ Γ F fr l')):PE X (.Subscript a (.Slice (U l) y' y' p2) pos) (bj Φ Γ F fr (.sliL a' l')):=a8 (kW sO ha (jN hl) u6) λσ H Q q=>by
 obtain⟨o,ρ,S,er,q⟩:=q;rw[Ag]at q;rw[aa]at q;refine#[o,ρ,S,er,ag q λp _ q x H1 aU aC=>?_];rw[aa]at q;refine#[o,ρ,p.2,aC,ag q λp2 _ q y H2 eo2 cY=>?_];split at q
 ·rename_i i hi;have hv:=eo2.val;rw[hi]at hv;refine#[i,hv.int_inv,?_];rw[aa]at q;exact nO hK (rfl) (λ_=>trivial) cY aU eo2.ext (ag q λz _ q v H3 e1 e2=>q v H3 e1 e2)
 ·exact q.elim
theorem G9{a l:Expr}{a' l':C}{p2 pos:Pos}(hK:Φ.K=X.K)(ha:PE X a (bj Φ Γ F fr a'))(hl:PE X l (bj Φ Γ F fr l')):PE X (.Subscript a (.Slice y' (U l) y' p2) pos) (bj Φ Γ F fr (.sliH a' l')):=a8 (kW sO ha u6 (jN hl)) λσ H Q q=>by
 obtain⟨o,ρ,S,er,q⟩:=q;rw[Af]at q;rw[aa]at q;refine#[o,ρ,S,er,ag q λp _ q x H1 aU aC=>?_];rw[aa]at q;refine#[o,ρ,p.2,aC,ag q λp2 _ q y H2 eo2 cY=>?_];split at q
 ·rename_i i hi;have hv:=eo2.val;rw[hi]at hv;refine#[i,hv.int_inv,?_];rw[aa]at q;exact nO hK (rfl) (λ_=>trivial) cY aU eo2.ext (ag q λz _ q v H3 e1 e2=>q v H3 e1 e2)
 ·exact q.elim
theorem G8{a l h:Expr}{a' l' h':C}{p2 pos:Pos}(hK:Φ.K=X.K)(ha:PE X a (bj Φ Γ F fr a'))(hl:PE X l (bj Φ Γ F fr l'))(hh:PE X h (bj Φ Γ F fr h')):PE X (.Subscript a (.Slice (U l) (U h) y' p2) pos) (bj Φ Γ F fr (.sliB a' l' h')):=a8 (kW sO ha (jN hl) (jN hh)) λσ H Q q=>by
 obtain⟨o,ρ,S,er,q⟩:=q;rw[qk]at q;rw[aa]at q;refine#[o,ρ,S,er,ag q λp _ q x H1 aU aC=>?_];rw[aa]at q;refine#[o,ρ,p.2,aC,ag q λp2 hJ q y H2 eo2 cY=>?_];split at q
 ·rename_i i hi;have hv:=eo2.val;rw[hi]at hv;rw[aa]at q;refine#[i,hv.int_inv,o,ρ,p2.2,cY,ag q λp3 _ q z H3 eo3 pH=>?_];split at q
  ·rename_i j hj;have hv:=eo3.val;rw[hj]at hv;refine#[j,hv.int_inv,?_];rw[aa]at q;exact nO hK (rfl) (λ_=>trivial) pH aU (eo2.ext.trans eo3.ext) (ag q λz _ q v H3 e1 e2=>q v H3 e1 e2)
  ·exact q.elim
 ·exact q.elim
theorem KO:PA X [] (lR Φ Γ F .nil):=zF eN λσ H Q q=>by obtain⟨o,ρ,S,er,q⟩:=q;exact q _ _ #[aR.refl,ar.nil,λ_=>ar.nil,λ_=>trivial] er
theorem G4{e:Expr}{es:List Expr}{c:C}{cs:Cs}(hs:starEach (e::es) X.env=(G',eval e X.env)::starEach es X.env)(h:PE X e (bj Φ Γ F fr c))(hr:PA X es (lR Φ Γ F cs)):PA X (e::es) (lR Φ Γ F (.cons c cs)):=zF (bG h hr hs) λσ H Q q=>by obtain⟨o,ρ,S,er,q⟩:=q;rw[fU]at q;rw[aa]at q;refine#[o,ρ,S,er,ag q λp _ q x H1 aU aC=>?_];rw[aa]at q;refine#[o,ρ,p.2,aC,ag q λp2 _ q xs H2 eo2 cY=>?_];obtain⟨k1,k2,k3⟩:=aU.keep eo2.ext er.eU;have el:qK (.cons c cs)=max (lk c) (qK cs):=rfl;exact q _ _ #[aU.ext.trans eo2.ext,ar.cons k1 eo2.val,λl=>ar.cons (k2 ⋯) (eo2.de ⋯),λl=>#[k3 ⋯,eo2.sS ⋯]] cY
theorem DM{cs:Cs}{c:C}(hc:lk c=if qK cs=0 then 0 else 2):(lk c<=1->lk c=0)/\(lk c=0->qK cs=0):=by
 rw[hc];split
 ·rename_i h;exact#[λ_=>rfl,λ_=>h]
 ·exact#[λz=>⋯,λz=>⋯]
theorem KU{es:List Expr}{cs:Cs}{x1:Nat}{pos:Pos}(h:PA X es (lR Φ Γ F cs)):PE X (.Tuple es x1 pos) (bj Φ Γ F fr (.tup cs)):=a8 (Gy h) λσ H Q q=>by
 obtain⟨o,ρ,S,er,q⟩:=q;rw[CW]at q;rw[aa]at q;refine#[o,ρ,S,er,ag q λp _ q xs H1 aU aC=>?_];obtain⟨g1,q⟩:=aI q;refine#[by rw[aU.val.length];exact Tz (Tn g1) cM,λa ha=>?_];have s:=Mx.cP ha (.tup xs);have hl:=DM (cs:=cs) (c:=.tup cs) (rfl);have q0:lk (.tup cs)=0->RV Φ.K o.A (upd H1 a (.tup xs)) (.ref a) (.tup p.1):=λl=>RV.gF aJ ((aU.de (hl.2 l)).same s)
 exact q _ _ #[aU.ext.trans (aR.of_same s),RV.gF aJ (aU.val.same s),q0,λl=>(q0 (hl.1 l)).one,λz=>by cases z] (aC.grow s)
theorem KJ{es:List Expr}{cs:Cs}{pos:Pos}(h:PA X es (lR Φ Γ F cs)):PE X (.List es pos) (bj Φ Γ F fr (.lst cs)):=a8 (zL h) λσ H Q q=>by
 obtain⟨o,ρ,S,er,q⟩:=q;rw[fT]at q;rw[aa]at q;refine#[o,ρ,S,er,ag q λp _ q xs H1 aU aC=>?_];obtain⟨g1,q⟩:=aI q;refine#[by rw[aU.val.length];exact Tz (Tn g1) cM,λa ha=>?_];have s:=Mx.cP ha (.lst xs);have hl:=DM (cs:=cs) (c:=.lst cs) (rfl);have na:¬o.A a:=λz=>by obtain⟨y,hy⟩:=aC.al a z;rw[ha]at hy;cases hy
 have q0:lk (.lst cs)=0->RV Φ.K o.A (upd H1 a (.lst xs)) (.ref a) (.lst p.1):=λl=>RV.eM aJ na ((aU.de (hl.2 l)).same s)
 refine q _ _ #[aU.ext.trans (aR.of_same s),RV.eM aJ (λz=>na (aC.eU a z)) (aU.val.same s),q0,λl=>(q0 (hl.1 l)).one,λ_ ds e=>?_] (aC.grow s);cases e;exact#[a,xs,rfl,aC.d7 aU.ext ha,aJ,(aU.val.avoid ha).same s,λl=>((aU.de (hl.2 l)).avoid ha).same s]
theorem Eu(b:BI)(ds:List Dt):∀k,dw b ds≠ .ex k:=by
 intro k;unfold dw;split<;>split
 all_goals first
  |(intro z;cases z;done)
  |(exact b6 (λk z=>by cases z) k)
  |(split<;>first|(intro z;cases z;done)|(exact b6 (λk z=>by cases z) k)|(split<;>first|(intro z;cases z;done)|(exact b6 (λk z=>by cases z) k)))
  |(rename_i T d;unfold wj;split<;>(intro z;cases z))
theorem DN{b:BI}{cs:Cs}:(lk (.bi b cs)=0\/lk (.bi b cs)=2)/\(lk (.bi b cs)<=1->qK cs<=1):=by
 have e:lk (.bi b cs)=if qK cs<=1 then 0 else 2:=rfl
 rw[e];split
 ·rename_i h;exact#[.inl rfl,λ_=>h]
 ·exact#[.inr rfl,λz=>⋯]
theorem yB{b:BI}{cs:Cs}{σ:L2.St}{H:Hp}{Q:VK}(hK:Φ.K=X.K)(q:bj Φ Γ F fr (.bi b cs) σ H Q):O4 (rP X.K B' (dw b)) (lR Φ Γ F cs) σ H Q:=by
 obtain⟨o,ρ,S,er,q⟩:=q;rw[sH]at q;rw[aa]at q;refine#[o,ρ,S,er,ag q λp _ q xs H1 aU aC=>?_];rw[aa]at q;obtain⟨z,hz,q⟩:=jJ (Eu _ _) q;refine#[p.1,z,hK▸FV aU.val,hz,λv H3 pr=>?_];rw[<-hK]at pr;obtain⟨e1,e2⟩:=EO.pr (fr:=fr) (H:=H) (c:=.bi b cs) aC aU.ext aU.val (λl=>aU.sS (DN.2 l)) DN.1 pr λ_=>rfl
 exact q v H3 e1 e2
end
def Cs.len:Cs->Nat
 |.nil=>0
 |.cons _ cs=>cs.len+1
theorem t9{F:FT}:∀{cs:Cs}{ρ:aj}{S:Sx}{p:List Dt×Sx},fk F cs ρ S= .ok p->p.1.length=cs.len
 |.nil,ρ,S,p,h=>by rw[lg]at h;cases h;rfl
 |.cons c cs,ρ,S,p,h=>by
  rw[fU]at h;cases h1:ev F c ρ S with
  |ok x=>
   rw[h1]at h;simp only[R.ah]at h;cases h2:fk F cs ρ x.2 with
   |ok y=>rw[h2]at h;cases h;simp[Cs.len,t9 h2]
   |ex k=>rw[h2]at h;cases h
   |bad=>rw[h2]at h;cases h
  |ex k=>rw[h1]at h;cases h
  |bad=>rw[h1]at h;cases h
section
variable{X:Cx}{Φ:Fm}{Γ:Gm}{F:FT}{g:G}{xv:Nat->Value}{CX:lI}{k:Nat}
theorem pJ{H H':Hp}(e:aR (λb=>(y':Option Addr)=U b) H H'):bI H H':=λb o h=>e.kp b o h (by simp)
theorem sN{K:Frag}{A:Addr->Prop}{H:Hp}:∀{ds:List Dt},ds.all o8=B'->ar K A H (ds.map qL) ds
 |[],_=>ar.nil
 |d::ds,h=>by rw[US,Ti]at h;exact ar.cons (qp h.1) (sN h.2)
theorem s_call{x:Str}{f np j:Nat}{fy:List Dt}{e:Expr}{es:List Expr}{cs:Cs}{p pos:Pos}(hX:HX g xv CX k F Φ X)(hG:Gl X x)(pU:(x==("__debug__":Str))=G')(yX:rA x g.fns=U (f,np,fy,G'))(hj:j<=fy.length)(hn:cs.len+(fy.drop j).length=np)
  (hs:starEach (e::es) X.env=(G',eval e X.env)::starEach es X.env) (lG:(backTo pos (starEach es X.env)).any (·.1)=G') (ha:PA X (e::es) (lR Φ Γ F cs)):PE X (.Call (.Name x p) (e::es) [] pos) (bj Φ Γ F g.fr (.call f cs (fy.drop j))):=by
 obtain⟨n,fx⟩:=hX.fx;obtain⟨fa,fd,ps,Ic,hmg,RL,hok,hb,R7⟩:=fx.fn x f np fy G' yX;obtain⟨vS,xq,Rt⟩:=hb j hj;refine a8 (Cw hok hX.room hG hmg RL Rt xq hX.pass ha pU hs lG) λσ H Q q=>?_
 obtain⟨o,ρ,S,er,q⟩:=q;rw[k9]at q;rw[aa]at q;refine#[o,ρ,S,er,ag q λp hp q vs H1 aU aC=>?_];have Qk:(fy.drop j).all o8=B':=Uc.mpr λd hd=>Uc.mp R7 d (List.mem_of_mem_drop hd)
 rw[aa]at q;have el:lk (.call f cs (fy.drop j))=if qK cs=0 then 0 else 2:=rfl
 refine#[?_,?_]
 ·rw[TK,aU.val.length,Tw,t9 hp];exact hn
 by_cases hl:qK cs=0
 ·rw[V2 hl]at el;refine#[o.A,y',p.1++fy.drop j,y',vs++(fy.drop j).map qL,#[rfl,rfl,rfl],?_,aC.al,?_]
  ·rw[<-hX.K];exact(aU.de hl).append (sN Qk)
  ·cases hr:F f (p.1++fy.drop j) y' with
   |ok y=>rw[hr]at q;intro v H' fo;rw[<-hX.K]at fo;have sm:=pJ fo.ext;refine q v H' #[aU.ext.trans (aR.of_same sm),fo.val.weak aC.eU,λ_=>fo.val,λ_=>fo.val.one,λfc ds ed=>?_] (aC.grow sm);obtain⟨a,xs,h1,h2,h3,h4⟩:=fo.eD fc ds ed;exact#[a,xs,h1,aC.d7 aU.ext h2,h3,h4.weak λb z=>z.elim (λz=>.inl (aC.eU b z)) .inr,λ_=>h4]
   |ex kk=>rw[hr]at q;intro H' e';exact#[kk,rfl,q,aC.ent.trans (e'.mono λb z=>by cases z)]
   |bad=>rw[hr]at q;exact q.elim
 ·rw[V1 hl]at el;refine#[o.wd,y',p.1++fy.drop j,y',vs++(fy.drop j).map qL,#[rfl,rfl,rfl],?_,aC.xK,?_]
  ·rw[<-hX.K];exact aU.val.append (sN Qk)
  ·cases hr:F f (p.1++fy.drop j) y' with
   |ok y=>rw[hr]at q;intro v H' fo;rw[<-hX.K]at fo;have sm:=pJ fo.ext;refine q v H' #[aU.ext.trans (aR.of_same sm),fo.val,λz=>by rw[el]at z;lia,λz=>by rw[el]at z;lia,λfc ds ed=>?_] (aC.grow sm);obtain⟨a,xs,h1,h2,h3,h4⟩:=fo.eD fc ds ed;exact#[a,xs,h1,aC.d7 aU.ext h2,h3,h4,λz=>by rw[el]at z;lia]
   |ex kk=>rw[hr]at q;intro H' e';exact#[kk,rfl,q,aC.ent.trans (e'.mono λb z=>by cases z)]
   |bad=>rw[hr]at q;exact q.elim
theorem Bx{t:Str}{T:String}(h:sZ t=U T):bootBuiltins t=U (.type T):=by
 unfold sZ at h;split at h
 ·rename_i e;cases h;rw[TY e];exact PyProof.Rows.boot_str
 split at h
 ·rename_i e;cases h;rw[TY e];exact PyProof.Rows.boot_int
 split at h
 ·rename_i e;cases h;rw[TY e];exact PyProof.Rows.boot_bool
 split at h
 ·rename_i e;cases h;rw[TY e];exact PyProof.Rows.boot_list
 split at h
 ·rename_i e;cases h;rw[TY e];exact PyProof.Rows.boot_tuple
 ·cases h
theorem Di{t:Str}{T:String}(h:sZ t=U T):T="str"\/T="int"\/T="bool"\/T="list"\/T="tuple":=by
 unfold sZ at h;split at h
 ·cases h;simp
 split at h
 ·cases h;simp
 split at h
 ·cases h;simp
 split at h
 ·cases h;simp
 split at h
 ·cases h;simp
 ·cases h
theorem Fu{K:Frag}{A:Addr->Prop}{H:Hp}{x:V}{d:Dt}{T:String}{b:Bool}(hT:T="str"\/T="int"\/T="bool"\/T="list"\/T="tuple")(hx:RV K A H x d)(h:wj T d= .ok b):∃t,gS K H x t/\PySem.W.kitOne K t (.type T)=U b:=by
 unfold wj at h;split at h
 ·cases h;rw[hx.str_inv];refine#[_,.str _,?_];rcases hT with rfl|rfl|rfl|rfl|rfl<;>rfl
 ·cases h;rw[hx.int_inv];refine#[_,.int _,?_];rcases hT with rfl|rfl|rfl|rfl|rfl<;>rfl
 ·cases h;rw[hx.bA];refine#[_,.bl _,?_];rcases hT with rfl|rfl|rfl|rfl|rfl<;>rfl
 ·cases h;obtain⟨a,xs,rfl,h1,_⟩:=hx.lst_inv;refine#[_,.lst h1,?_];rcases hT with rfl|rfl|rfl|rfl|rfl<;>rfl
 ·cases h;obtain⟨a,xs,rfl,h1,_⟩:=hx.aw;refine#[_,.tup h1,?_];rcases hT with rfl|rfl|rfl|rfl|rfl<;>rfl
 ·cases h;rw[hx.dc];refine#[_,.aE,?_];rcases hT with rfl|rfl|rfl|rfl|rfl<;>rfl
 ·cases h;obtain⟨a,xs,rfl,h1,_⟩:=hx.jK;refine#[_,.dK h1,?_];rcases hT with rfl|rfl|rfl|rfl|rfl<;>rfl
 ·cases h
theorem B2(T:String)(d:Dt):∀k,wj T d≠ .ex k:=by intro k;unfold wj;split<;>(intro z;cases z)
theorem KI{a:Expr}{a':C}{t:Str}{T:String}{p tp pos:Pos}(hK:Φ.K=X.K)(hG:Gl X "isinstance")(hm:X.mg "isinstance"=y')(Rf:Gl X t)(RT:X.mg t=y')(hT:sZ t=U T)(hn:t≠"__name__")(pU:(t==("__debug__":Str))=G')
  (hs:starEach (a::[.Name t tp]) X.env=(G',eval a X.env)::starEach [.Name t tp] X.env) (ha:PE X a (bj Φ Γ F g.fr a')):PE X (.Call (.Name "isinstance" p) [a,.Name t tp] [] pos) (bj Φ Γ F g.fr (.bi (.isi T) (.cons a' .nil))):=by
 refine a8 (kU Mx.ya hG hm PyProof.Rows.boot_isinstance (bG ha (bG (uY (v:=.ty T) Rf RT (Bx hT) rfl hn pU) eN) hs) (by decide) (by decide) hs) λσ H Q q=>?_
 obtain⟨o,ρ,S,er,q⟩:=q;rw[sH]at q;simp only[fU,lg]at q;rw[aa,aa]at q;refine#[o,ρ,S,er,ag q λp hp q x H1 aU aC=>?_];simp only[R.ah]at q;have q:mR Φ.Ek ((dw (.isi T) [p.1]).bind λd=>R.ok (d,p.2)) _:=q;unfold dw at q;simp only at q;rw[aa,aa]at q;obtain⟨b,hb,q⟩:=cN (B2 _ _) q;obtain⟨ty,k1,k2⟩:=Fu (Di hT) (hK▸aU.val) hb;refine#[x,T,ty,b,rfl,k1,k2,q _ _ ?_ aC];exact(EO.sc (Φ:=Φ) (fr:=g.fr) (o:=o) (H:=H1) (c:=.bi (.isi T) (.cons a' .nil)) (d:=.bl b) rfl).pI aU.ext λf=>by cases f
theorem G5{a s:Expr}{a' s':C}{apos pos:Pos}(hK:Φ.K=X.K)(hs:starEach [a] X.env=[(G',eval a X.env)])(kA:(apos.endLine==pos.line)=B')(kr:attributeBase s ("join":Str) X.env (eval s X.env)=eval s X.env)(ml:PE X s (bj Φ Γ F g.fr s'))(ha:PE X a (bj Φ Γ F g.fr a')):
  PE X (.Call (.Attribute s "join" apos) [a] [] pos) (bj Φ Γ F g.fr (.mt .join s' (.cons a' .nil))):=by
 refine a8 (DT PySem.F.plainAttrs_str PySem.F.slot_str_join PySem.F.type_str_join Mx.Cf ml (bG ha eN (by rw[hs];rfl)) kr (by rw[hs];rfl) kA (by rw[hs];rfl) rfl) λσ H Q q=>?_
 obtain⟨o,ρ,S,er,q⟩:=q;rw[sI]at q;simp only[fU,lg]at q;rw[aa]at q;refine#[o,ρ,S,er,ag q λp hp q x H1 aU aC=>?_];obtain⟨gs,q⟩:=aI q;rw[aa,aa]at q;cases hd:p.1 with
 |str z=>
  rw[hd]at q;have hv:=aU.val;rw[hd]at hv;have:=hv.str_inv;subst this;refine#[rfl,o,ρ,p.2,aC,ag q λp2 _ q y H2 eo2 cY=>?_];simp only[R.ah]at q;have q:mR Φ.Ek ((J6 .join (.str z) [p2.1]).bind λd=>R.ok (d,p2.2)) _:=q;cases hd2:p2.1 with
  |lst ds=>
   rw[hd2]at q;unfold J6 at q;simp only at q;have Fp:=eo2.val;rw[hd2]at Fp;obtain⟨b,xs,rfl,f1,_,f2⟩:=Fp.lst_inv;split at q
   ·rename_i ys hys;rw[aa]at q;obtain⟨gl,q⟩:=aI q;rw[qv f2 hys]at f1;refine#[z,b,ys,rfl,rfl,du.of f1,Tz (Tn gl) (by decide),q _ _ ?_ cY];exact(EO.sc (Φ:=Φ) (fr:=g.fr) (o:=o) (H:=H2) (c:=.mt .join s' (.cons a' .nil)) (d:=.str _) rfl).pI (aU.ext.trans eo2.ext) λf=>by cases f
   ·exact q.elim
  |_=>rw[hd2]at q;exact q.elim
 |_=>rw[hd]at gs;cases gs
end
def Of(K:Frag)(tl:TE):TI:=λσ H R=>tl σ H λx H1=>(∃a xs,x= .ref a/\du K H1 a xs/\R (LH K a) H1)\/(∃a xs,x= .ref a/\dO K H1 a xs/\R (MJ K a) H1)\/∃z,x= .str z/\R (Mx.LJ z) H1
theorem GB{X:Cx}{tg l:Expr}{tl:TE}(hl:PE X l tl):PI X tg l (Of X.K tl):=by
 intro J' s σ H R I h;refine bt (hl J' s σ H _ I h) λv s1#[x,H1,I1,r1,q1]=>?_
 rcases q1 with ⟨a,xs,e,hq,q⟩|⟨a,xs,e,hq,q⟩|⟨z,e,q⟩
 ·subst e;cases r1;obtain⟨its,rv,p,hz⟩:=I1.list hq;refine Wn p.isList ?_;refine#[s1.heap.objs.size,[s1.heap.objs.size],_,_,H1,rfl,I1.kept (t':=s1.toks) λb o e=>Tf _ e,wZ a _,#[_,Tu _ rfl,rfl,rfl],λb hb=>?_,q];have e:b=s1.heap.objs.size:=by simpa using hb
  subst e;exact I1.nS (Tr _) (I1.hok.fresh (Tr _))
 ·subst e;cases r1;obtain⟨its,rv,p,hz⟩:=I1.tuple hq;refine Wo (show s1.heap.IsTuple a its.toArray from p) ?_;refine#[s1.heap.objs.size,[s1.heap.objs.size],_,_,H1,rfl,I1.kept (t':=s1.toks) λb o e=>Tf _ e,sY a _,#[_,Tu _ rfl,rfl,rfl],λb hb=>?_,q];have e:b=s1.heap.objs.size:=by simpa using hb
  subst e;exact I1.nS (Tr _) (I1.hok.fresh (Tr _))
 ·subst e;obtain⟨t,rfl⟩:=r1;exact Mx.zQ I1 q
section
variable{X:Cx}{Φ:Fm}{Γ:Gm}{F:FT}{g:G}{k:Nat}{K:Frag}
theorem vH{A Y:Addr->Prop}{a:Addr}{xs:List V}{ds:List Dt}{H:Hp}(ha:H a=U (.lst xs))(hn:¬Y a)(hY:∀b,Y b->A b)(h:ar K A H xs ds):Wk K A Y (LH K a) H ds where
 go:=λi H1 hi e=>#[xs,xs[i]'(by rw[h.length];exact hi),du.of (e.kp _ _ ha hn),by simp]
 stop:=λH1 e=>#[xs,du.of (e.kp _ _ ha hn),by rw[h.length];exact Tr _]
 yld:=λi x H1 H2 hi e y=>by obtain⟨rfl,y⟩:=y;obtain⟨d,h1,h2⟩:=h.get (y xs (du.of (e.kp _ _ ha hn)));exact#[bI.refl _,d,h1,λB hB=>(h2.df (B:=λb=>A b\/B b) λb z=>z.elim .inl (hB b)).mono e (λb z=>.inl (hY b z)) λ_ z=>.inr z]
theorem tq{A Y:Addr->Prop}{a:Addr}{xs:List V}{ds:List Dt}{H:Hp}(ha:H a=U (.tup xs))(hY:∀b,Y b->A b)(h:ar K A H xs ds):Wk K A Y (MJ K a) H ds where
 go:=λi H1 hi e=>#[xs,xs[i]'(by rw[h.length];exact hi),dO.of (e.tp _ _ ha),by simp]
 stop:=λH1 e=>#[xs,dO.of (e.tp _ _ ha),by rw[h.length];exact Tr _]
 yld:=λi x H1 H2 hi e y=>by obtain⟨rfl,y⟩:=y;obtain⟨d,h1,h2⟩:=h.get (y xs (dO.of (e.tp _ _ ha)));exact#[bI.refl _,d,h1,λB hB=>(h2.df (B:=λb=>A b\/B b) λb z=>z.elim .inl (hB b)).mono e (λb z=>.inl (hY b z)) λ_ z=>.inr z]
theorem tu{A Y:Addr->Prop}{z:Str}{H:Hp}:Wk K A Y (Mx.LJ z) H (z.cps.toList.map λc=>.str ⟨#[c]⟩) where
 go:=λi H1 hi e=>by rw[Tw,TR]at hi;exact hi
 stop:=λH1 e=>by rw[Tw,TR];exact Tr _
 yld:=λi x H1 H2 hi e y=>by obtain⟨rfl,c,h1,rfl⟩:=y;exact#[bI.refl _,.str ⟨#[c]⟩,by rw[TQ,Array.getElem?_toList,h1];rfl,λ_ _=>RV.oj]
theorem AL{A Y:Addr->Prop}{a:Addr}{ns:List Int}{H:Hp}(ha:(Rd H a (.lst (ns.map V.int))/\¬Y a)\/KL K a (ns.map V.int)):Wk K A Y (LH K a) H (ns.map Dt.int):=by
 have sq:∀H1,aR Y H H1->du K H1 a (ns.map V.int):=λH1 e=>by
  rcases ha with ⟨h,n⟩|h
  ·exact .inl (GT e n h)
  ·exact .inr h
 refine#[λi H1 hi e=>?_,λH1 e=>#[_,sq H1 e,by simp],λi x H1 H2 hi e y=>?_]
 ·rw[Tw]at hi;exact#[_,.int ns[i],sq H1 e,by simp[hi]]
 ·obtain⟨rfl,y⟩:=y;have:=y _ (sq _ e);rw[TQ]at this;obtain⟨m,h1,rfl⟩:=TJ.mp this;exact#[bI.refl _,.int m,by simp[h1],λ_ _=>RV.eL]
theorem tf{A Y:Addr->Prop}{lo:Int}{n:Nat}{H:Hp}:Wk K A Y (LI lo n) H (bL lo n) where
 go:=λi H1 hi e=>by unfold bL at hi;simp at hi;exact hi
 stop:=λH1 e=>by unfold bL;simp only[Tw,U9];exact Tr _
 yld:=λi x H1 H2 hi e y=>by obtain⟨rfl,rfl⟩:=y;unfold bL at hi;simp at hi;exact#[bI.refl _,.int (lo+i),by unfold bL;simp[hi],λ_ _=>RV.eL]
theorem KR{tg a:Expr}{a':C}(hK:Φ.K=X.K)(ha:PE X a (bj Φ Γ F g.fr a')):PI X tg a (oU Φ Γ F (.seq a')):=oC (GB ha) λσ H Q q=>by
 obtain⟨o,ρ,S,er,q⟩:=q;rw[wJ]at q;rw[aa]at q;refine#[o,ρ,S,er,ag q λp he q x H1 aU aC=>?_];have Bc:uK (.seq a')=lk a':=rfl;cases hd:p.1 with
 |lst ds=>
  rw[hd]at q;have hv:=aU.val;have h0:=aU.de;have h1:=aU.sS;rw[hd]at hv h0 h1;obtain⟨b,xs,rfl,f1,fn,f2⟩:=hv.lst_inv;refine .inl #[b,xs,rfl,du.of f1,q _ _ #[aU.ext,λl=>?_,λl=>?_,λl=>by unfold jr at l;rw[he]at l;simp only[hd,uS]at l;cases l] aC]
  ·rw[<-hK];exact vH f1 (λz=>fn (.inr z)) aC.da (fu.dH (h1 (by rw[Bc]at l;exact l)) f1)
  ·rw[<-hK];have:=h0 (by rw[Bc]at l;exact l);obtain⟨b',Bg,e',g1,gn,g2⟩:=this.lst_inv;cases e';exact vH g1 gn (λ_ z=>z) g2
 |tup ds=>
  rw[hd]at q;have hv:=aU.val;have h0:=aU.de;have h1:=aU.sS;rw[hd]at hv h0 h1;obtain⟨b,xs,rfl,f1,f2⟩:=hv.aw;refine .inr (.inl #[b,xs,rfl,dO.of f1,q _ _ #[aU.ext,λl=>?_,λl=>?_,λl=>?_] aC])
  ·rw[<-hK];exact tq f1 aC.da (fu.aV (h1 (by rw[Bc]at l;exact l)) f1)
  ·rw[<-hK];exact tq f1 (λ_ z=>z) (fu.aV (h0 (by rw[Bc]at l;exact l)).one f1)
  ·rw[<-hK];unfold jr at l;rw[he]at l;simp only[hd]at l;exact tq f1 (λ_ z=>z) (fu.aV (hv.uS l:RV Φ.K o.A H1 (.ref b) (.tup ds)).one f1)
 |aW ns=>
  rw[hd]at q;have hv:=aU.val;have h0:=aU.de;rw[hd]at hv h0;obtain⟨b,rfl,hb⟩:=hv.fW;have Mg:du X.K H1 b (ns.map V.int):=by
   rw[<-hK];rcases hb with hb|hb
   ·exact .inl hb.1
   ·exact .inr hb
  refine .inl #[b,_,rfl,Mg,q _ _ #[aU.ext,λl=>?_,λl=>?_,λl=>by unfold jr at l;rw[he]at l;simp only[hd,uS]at l;cases l] aC]
  ·rw[<-hK];exact AL (hb.imp (λz=>#[z.1,λw=>z.2 (.inr w)]) id)
  ·rw[<-hK];obtain⟨b',e',ug⟩:=(h0 (by rw[Bc]at l;exact l)).fW;cases e';exact AL ug
 |str z=>rw[hd]at q;have hv:=aU.val;rw[hd]at hv;exact .inr (.inr #[z,hv.str_inv,q _ _ #[aU.ext,λ_=>tu,λ_=>tu,λ_=>tu] aC])
 |_=>rw[hd]at q;exact q.elim
theorem G6{tg a:Expr}{a':C}{p pos:Pos}(hG:Gl X "range")(hm:X.mg "range"=y')(hs:starEach [a] X.env=[(G',eval a X.env)])(ha:PE X a (bj Φ Γ F g.fr a')):PI X tg (.Call (.Name "range" p) [a] [] pos) (oU Φ Γ F (.rng1 a')):=
 oC (wD hG hm (bG ha eN (by rw[hs];rfl)) hs) λσ H Q q=>by
 obtain⟨o,ρ,S,er,q⟩:=q;rw[sF]at q;rw[aa]at q;refine#[o,ρ,S,er,ag q λp _ q x H1 aU aC=>?_];cases hd:p.1 with
 |int j=>rw[hd]at q;obtain⟨g1,q⟩:=aI q;rw[Ti]at g1;have a1:=Tn g1.1;have a2:=Tn g1.2;have hl:lim=1000000:=rfl;have hv:=aU.val;rw[hd]at hv;exact#[j,by rw[hv.int_inv],⋯,⋯,q _ _ #[aU.ext,λ_=>tf,λ_=>tf,λ_=>tf] aC]
 |_=>rw[hd]at q;exact q.elim
theorem tm{A Y:Addr->Prop}{lo c:Int}{n:Nat}{H:Hp}:Wk K A Y (Mx.MH lo c n) H (jy lo c n) where
 go:=λi H1 hi e=>by unfold jy at hi;simp at hi;exact hi
 stop:=λH1 e=>by unfold jy;simp only[Tw,U9];exact Tr _
 yld:=λi x H1 H2 hi e y=>by obtain⟨rfl,rfl⟩:=y;unfold jy at hi;simp at hi;exact#[bI.refl _,.int (lo+i*c),by unfold jy;simp[hi],λ_ _=>RV.eL]
theorem G7{tg a b d:Expr}{a' b' d':C}{p pos:Pos}(hG:Gl X "range")(hm:X.mg "range"=y')(hs:starEach [a,b,d] X.env=[(G',eval a X.env),(G',eval b X.env),(G',eval d X.env)])(v9:starEach [b,d] X.env=[(G',eval b X.env),(G',eval d X.env)])(Fj:starEach [d] X.env=[(G',eval d X.env)])
  (ha:PE X a (bj Φ Γ F g.fr a')) (hb:PE X b (bj Φ Γ F g.fr b')) (hd:PE X d (bj Φ Γ F g.fr d')):PI X tg (.Call (.Name "range" p) [a,b,d] [] pos) (oU Φ Γ F (.rng3 a' b' d')):=
 oC (Mx.wF hG hm (bG ha (bG hb (bG hd eN (by rw[Fj];rfl)) (by rw[v9,Fj])) (by rw[hs,v9])) hs v9) λσ H Q q=>by
 obtain⟨o,ρ,S,er,q⟩:=q;rw[k8]at q;rw[aa]at q;refine#[o,ρ,S,er,ag q λp _ q x H1 aU aC=>?_];rw[aa]at q;refine#[o,ρ,p.2,aC,ag q λp2 _ q y H2 eo2 cY=>?_];rw[aa]at q;refine#[o,ρ,p2.2,cY,ag q λp3 _ q z H3 eo3 pH=>?_];split at q
 ·rename_i i j k h1 h2 h3;obtain⟨g1,q⟩:=aI q;simp only[Ti,VZ]at g1;have hl:lim=1000000:=rfl;have hv:=aU.val;rw[h1]at hv;have Fp:=eo2.val;rw[h2]at Fp;have Qo:=eo3.val;rw[h3]at Qo;exact#[i,j,k,by rw[hv.int_inv,Fp.int_inv,Qo.int_inv],#[g1.1.1,g1.1.2,g1.2.1,g1.2.2],q _ _ #[(aU.ext.trans eo2.ext).trans eo3.ext,λ_=>tm,λ_=>tm,λ_=>tm] pH]
 ·exact q.elim
theorem AM{A Y:Addr->Prop}{b1 b2:Bool}{l1 l2:Addr}{xs ys:List V}{ds es:List Dt}{H:Hp}(h1:H l1=U (Mx.qJ b1 xs))(h2:H l2=U (Mx.qJ b2 ys))(n1:b1=G'->¬Y l1)(n2:b2=G'->¬Y l2)(hY:∀b,Y b->A b)(g1:ar K A H xs ds)(g2:ar K A H ys es):Wk K A Y (Mx.MF b1 b2 l1 l2) H (gM ds es):=by
 have k1:∀H1,aR Y H H1->H1 l1=U (Mx.qJ b1 xs):=λH1 e=>by
  cases b1 with
  |false=>exact e.kp _ _ h1 (n1 rfl)
  |true=>exact e.tp _ _ h1
 have k2:∀H1,aR Y H H1->H1 l2=U (Mx.qJ b2 ys):=λH1 e=>by
  cases b2 with
  |false=>exact e.kp _ _ h2 (n2 rfl)
  |true=>exact e.tp _ _ h2
 have hz:(gM ds es).length=min xs.length ys.length:=by unfold gM;rw[List.length_zipWith,g1.length,g2.length]
 refine#[λi H1 hi e=>?_,λH1 e=>?_,λi x H1 H2 hi e y=>?_]
 ·rw[hz]at hi;exact#[xs,ys,xs[i]'⋯,ys[i]'⋯,k1 H1 e,k2 H1 e,by simp,by simp]
 ·exact#[xs,ys,k1 H1 e,k2 H1 e,⋯]
 ·obtain⟨p,x1,y1,rfl,hp,rfl,q⟩:=y;obtain⟨q1,q2⟩:=q xs ys (k1 H1 e) (k2 H1 e);obtain⟨d,a1,a2⟩:=g1.get q1;obtain⟨c,c1,c2⟩:=g2.get q2;have s:=Mx.cP hp (.tup [x1,y1]);refine#[s,.tup [d,c],by unfold gM;rw[List.getElem?_zipWith,a1,c1],λB hB=>RV.gF aJ ?_];have av:∀{v:V}{dd:Dt},RV K A H v dd->RV K B (upd H1 p (.tup [x1,y1])) v dd:=λh=>((h.df (B:=λb=>A b\/B b) λb z=>z.elim .inl (hB b)).mono e (λb z=>.inl (hY b z)) λ_ z=>.inr z).same s
  exact ar.cons (av a2) (ar.cons (av c2) ar.nil)
theorem d9{A B:Addr->Prop}{H:Hp}{x:V}{d:Dt}{ds:List Dt}(h:cA d=U ds)(hv:RV K A H x d)(h1:fu K B H x d):∃b l xs,x= .ref l/\H l=U (Mx.qJ b xs)/\(b=G'->¬A l)/\ar K B H xs ds:=by
 unfold cA at h;split at h
 ·cases h;obtain⟨a,xs,rfl,f1,fn,f2⟩:=hv.lst_inv;exact#[G',a,xs,rfl,f1,λ_=>fn,fu.dH h1 f1]
 ·cases h;obtain⟨a,xs,rfl,f1,f2⟩:=hv.aw;exact#[B',a,xs,rfl,f1,λz=>(by cases z),fu.aV h1 f1]
 ·cases h
theorem KY{es:List Expr}{kk:Nat}{tp:Pos}{a b:Expr}{a' b':C}{p pos:Pos}(hK:Φ.K=X.K)(hG:Gl X "zip")(hm:X.mg "zip"=y')(hs:starEach [a,b] X.env=[(G',eval a X.env),(G',eval b X.env)])(v9:starEach [b] X.env=[(G',eval b X.env)])(ha:PE X a (bj Φ Γ F g.fr a'))(hb:PE X b (bj Φ Γ F g.fr b')):
  PI X (.Tuple es kk tp) (.Call (.Name "zip" p) [a,b] [] pos) (oU Φ Γ F (.zip a' b')):=
 oC (Mx.CB hG hm (bG ha (bG hb eN (by rw[v9];rfl)) (by rw[hs,v9])) hs v9) λσ H Q q=>by
 obtain⟨o,ρ,S,er,q⟩:=q;rw[wK]at q;rw[aa]at q;refine#[o,ρ,S,er,ag q λp _ q x H1 aU aC=>?_];rw[aa]at q;refine#[o,ρ,p.2,aC,ag q λp2 _ q y H2 eo2 cY=>?_];have Bc:uK (.zip a' b')=max (lk a') (lk b'):=rfl;split at q
 ·rename_i ds es e1 e2;obtain⟨k1,k2,k3⟩:=aU.keep eo2.ext er.eU;obtain⟨c1,l1,xs,rfl,f1,Q4,f2⟩:=d9 e1 k1 k1.one;obtain⟨c2,l2,ys,rfl,g1,Q6,g2⟩:=d9 e2 eo2.val eo2.val.one;refine#[c1,c2,l1,l2,xs,ys,rfl,f1,g1,q _ _ #[aU.ext.trans eo2.ext,λl=>?_,λl=>?_,λl=>by unfold jr at l;cases l] cY]
  ·rw[Bc]at l;obtain⟨IJ,Sj,Bg,e',ET,_,Ny⟩:=d9 e1 k1 (k3 ⋯);obtain⟨IK,Sk,Mv,HU,EX,_,NA⟩:=d9 e2 eo2.val (eo2.sS ⋯);cases e';cases HU;have i1:c1=IJ/\xs=Bg:=by rw[f1]at ET;cases c1<;>cases IJ<;>first|(cases ET;exact#[rfl,rfl])|cases ET
   have i2:c2=IK/\ys=Mv:=by rw[g1]at EX;cases c2<;>cases IK<;>first|(cases EX;exact#[rfl,rfl])|cases EX
   obtain⟨rfl,rfl⟩:=i1;obtain⟨rfl,rfl⟩:=i2;exact AM f1 g1 (λz w=>Q4 z (.inr w)) (λz w=>Q6 z (.inr w)) cY.da Ny NA
  ·rw[Bc]at l;obtain⟨IJ,Sj,Bg,e',ET,J8,Ny⟩:=d9 e1 (k2 ⋯) (k2 ⋯).one;obtain⟨IK,Sk,Mv,HU,EX,FW,NA⟩:=d9 e2 (eo2.de ⋯) (eo2.de ⋯).one;cases e';cases HU;have i1:c1=IJ/\xs=Bg:=by rw[f1]at ET;cases c1<;>cases IJ<;>first|(cases ET;exact#[rfl,rfl])|cases ET
   have i2:c2=IK/\ys=Mv:=by rw[g1]at EX;cases c2<;>cases IK<;>first|(cases EX;exact#[rfl,rfl])|cases EX
   obtain⟨rfl,rfl⟩:=i1;obtain⟨rfl,rfl⟩:=i2;exact AM f1 g1 J8 FW (λ_ z=>z) Ny NA
 ·exact q.elim
end
def qw:List Nat->xg
 |[]=>EY
 |i::is=>yF (eY i) (qw is)
def Im(K:Frag):Tg->TG
 |.nm i=>eY i
 |.tp is=>Mx.pO K is.length (qw is)
section
variable{X:Cx}{Φ:Fm}{Γ:Gm}{g:G}{k:Nat}
theorem ei{x:Str}{i:Nat}(h:eh Γ x=U i):zr (Γ.names.lookup x)=B'/\cH x=B'/\Γ.N[i]?=U x:=by
 unfold eh at h;split at h
 ·rename_i c;rw[Ti]at c;exact#[c.1,c.2,jG h]
 ·cases h
theorem jS{x:Str}{i:Nat}(h:slot Γ x=U i):AJ (Γ.names.lookup x)=B'/\cH x=B'/\Γ.N[i]?=U x:=by
 unfold slot at h;split at h
 ·rename_i c;rw[Ti]at c;exact#[c.1,c.2,jG h]
 ·cases h
theorem iz{e:Expr}{i:Nat}(h:qa Γ e=U i):∃x p,e= .Name x p/\eh Γ x=U i/\plainS Γ i=B':=by
 unfold qa at h;split at h
 ·rename_i x p;obtain⟨j,h1,h2⟩:=Te.mp h;split at h2
  ·cases h2;exact#[x,p,rfl,h1,by assumption]
  ·cases h2
 ·cases h
theorem D0{e:Expr}{i:Nat}(gx:GX g Γ X)(h:qa Γ e=U i):PG X e (eY i):=by obtain⟨x,p,rfl,h1,_⟩:=iz h;obtain⟨a,b,c⟩:=ei h1;obtain⟨l1,l2⟩:=gx.loc x a;exact Cz (gx.N▸gx.nd) (by rw[gx.N];exact c) l1 l2
theorem Am(gx:GX g Γ X):∀{es:List Expr}{is:List Nat},fB Γ es=U is->HL X es (qw is)/\es.length=is.length/\∀e∈es,∃x p,e= .Name x p
 |[],is,h=>by cases h;exact#[CA,rfl,λe z=>by cases z]
 |e::es,is,h=>by
  unfold fB at h;obtain⟨i,h1,h2⟩:=Te.mp h;obtain⟨js,h3,rfl⟩:=TJ.mp h2;obtain⟨k1,k2,k3⟩:=Am gx h3;obtain⟨x,p,ex,_⟩:=iz h1;refine#[zO (D0 gx h1) k1 (by subst ex;rfl),by simp[k2],λe' z=>?_];rcases TC.mp z with rfl|z
  ·exact#[x,p,ex]
  ·exact k3 e' z
theorem gG{env:Env}:∀{es:List Expr},(∀e∈es,∃x p,e=Expr.Name x p)->(assignEach es env).length=es.length/\(assignEach es env).findIdx? (·.1)=y'
 |[],_=>#[rfl,rfl]
 |e::es,h=>by
  obtain⟨x,p,rfl⟩:=h e Tt;obtain⟨h1,h2⟩:=gG (es:=es) (env:=env) λe' z=>h e' (Tp _ z)
  have q:assignEach (Expr.Name x p::es) env=(G',assign (.Name x p) env)::assignEach es env:=rfl;rw[q];refine#[by simp[h1],?_];rw[List.findIdx?_cons];simp[h2]
theorem Hb{e:Expr}{t:Tg}(gx:GX g Γ X)(h:xY Γ e=U t):PG X e (Im X.K t):=by
 unfold xY at h;split at h
 ·obtain⟨i,h1,rfl⟩:=TJ.mp h;exact D0 gx h1
 ·obtain⟨is,h1,rfl⟩:=TJ.mp h;obtain⟨k1,k2,k3⟩:=Am gx h1;obtain⟨n1,n2⟩:=gG (env:=X.env) k3;exact Mx.u5 gx.calm k1 (by rw[n1,k2]) n2
 ·cases h
theorem iK{e:Expr}{t:Tg}(h:xY Γ e=U t):∀i∈bM t,plainS Γ i=B'/\∃x,eh Γ x=U i:=by
 have many:∀{es:List Expr}{is:List Nat},fB Γ es=U is->∀i∈is,plainS Γ i=B'/\∃x,eh Γ x=U i:=by
  intro es
  induction es with
  |nil=>intro is h i hi;cases h;cases hi
  |cons e es ih=>
   intro is h i hi;unfold fB at h;obtain⟨j,h1,h2⟩:=Te.mp h;obtain⟨js,h3,rfl⟩:=TJ.mp h2;rcases TC.mp hi with rfl|hi
   ·obtain⟨x,p,_,k1,k2⟩:=iz h1;exact#[k2,x,k1]
   ·exact ih h3 i hi
 unfold xY at h;split at h
 ·obtain⟨j,h1,rfl⟩:=TJ.mp h;intro i hi;have:i=j:=by simpa [bM]using hi
  subst this;obtain⟨x,p,_,k1,k2⟩:=iz h1;exact#[k2,x,k1]
 ·obtain⟨is,h1,rfl⟩:=TJ.mp h;exact many h1
 ·cases h
theorem iB{i:Nat}(h:plainS Γ i=B'):ff Γ i=G'/\Γ.δ≠U i:=by unfold plainS at h;rw[Ti]at h;refine#[by simpa using h.1,λe=>?_];rw[e]at h;simp at h
theorem ER.set{o:Ow}{ρ:aj}{S:Sx}{σ:L2.St}{H:Hp}{i:Nat}{v:V}{d:Dt}(er:ER Φ Γ o ρ S σ H)(hp:plainS Γ i=B')(h:RV Φ.K o.A H v d):ER Φ Γ o (ρ.set i (U d)) S (σ.set i (U v)) H where
 len:=by rw[Vc,Vc];exact er.len
 wa:=er.wa
 da:=er.da
 al:=er.al
 val:=λj e he=>by
  by_cases hj:j=i
  ·subst hj;rw[U2]at he;simp only[V3]at he;split at he
   ·rename_i cZ;cases he;refine#[v,by rw[Uo (by rw[er.len];exact cZ)],?_];rw[(iB hp).1,V1 (by simp)];exact h
   ·cases he
  ·rw[TL (VM hj)]at he;obtain⟨w,h1,h2⟩:=er.val j e he;exact#[w,by rw[TL (VM hj)];exact h1,h2]
 inj:=λa b c e f ha hb h1 h2 h3 h4=>by
  have na:a≠i:=λz=>by rw[z,(iB hp).1]at ha;cases ha
  have nb:b≠i:=λz=>by rw[z,(iB hp).1]at hb;cases hb
  rw[TL (VM na)]at h1 h3;rw[TL (VM nb)]at h2 h4;exact er.inj a b c e f ha hb h1 h2 h3 h4
 dk:=Dk.set er.dk h.nd
 drw:=er.drw
 drn:=er.drn
 drs:=λj a hj ha=>by rw[TL (λz=>(iB hp).2 (by rw[z];exact hj))];exact er.drs j a hj ha
 dr0:=er.dr0
 ent:=er.ent
theorem iL{o:Ow}{S:Sx}{H:Hp}{Q:L2.St->Hp->Prop}:∀{is:List Nat}{ds:List Dt}{xs:List V}{ρ ρ1:aj}{σ:L2.St},ER Φ Γ o ρ S σ H->(∀i∈is,plainS Γ i=B')->ar Φ.K o.A H xs ds->fh is ds ρ= .ok ρ1->(∀σ1,ER Φ Γ o ρ1 S σ1 H->(∀k,k∉is->σ1[k]?=σ[k]?/\ρ1[k]?=ρ[k]?)->Q σ1 H)->qw is xs σ H Q/\xs.length=is.length
 |[],ds,xs,ρ,ρ1,σ,er,_,hx,h,q=>by
  cases ds with
  |nil=>cases h;rw[hx.nil_inv];exact#[#[rfl,q σ er λ_ _=>#[rfl,rfl]],rfl]
  |cons=>cases h
 |i::is,ds,xs,ρ,ρ1,σ,er,hp,hx,h,q=>by
  cases ds with
  |nil=>cases h
  |cons d ds=>
   obtain⟨x,r,rfl,h1,h2⟩:=hx.cons_inv;obtain⟨k1,k2⟩:=iL (er.set (hp i Tt) h1) (λj hj=>hp j (Tp _ hj)) h2 h λσ1 aC hk=>q σ1 aC λk Bb=>by
    have n1:k≠i:=λz=>Bb (by rw[z];exact Tt)
    obtain⟨a1,a2⟩:=hk k λz=>Bb (Tp _ z)
    rw[TL (VM n1)]at a1 a2;exact#[a1,a2]
   exact#[#[x,r,rfl,k1],by simp[k2]]
theorem AE{o:Ow}{S:Sx}{H:Hp}{Q:L2.St->Hp->Prop}{t:Tg}{d:Dt}{x:V}{ρ ρ1:aj}{σ:L2.St}(er:ER Φ Γ o ρ S σ H)(hp:∀i∈bM t,plainS Γ i=B')(hx:RV Φ.K o.A H x d)(h:fg t d ρ= .ok ρ1)(q:∀σ1,ER Φ Γ o ρ1 S σ1 H->(∀k,k∉bM t->σ1[k]?=σ[k]?/\ρ1[k]?=ρ[k]?)->Q σ1 H):Im Φ.K t x σ H Q:=by
 cases t with
 |nm i=>
  cases h;exact q _ (er.set (hp i (by simp[bM])) hx) λk hk=>by
   have n1:k≠i:=λz=>hk (by simp[bM,z])
   rw[TL (VM n1),TL (VM n1)];exact#[rfl,rfl]
 |tp is=>
  unfold fg at h;cases d with
  |tup ds=>obtain⟨a,xs,rfl,h1,h2⟩:=hx.aw;obtain⟨k1,k2⟩:=iL er hp h2 h q;exact#[a,xs,rfl,.inl (dO.of h1),k2,k1]
  |lst ds=>obtain⟨a,xs,rfl,h1,_,h2⟩:=hx.lst_inv;obtain⟨k1,k2⟩:=iL er hp h2 h q;exact#[a,xs,rfl,.inr (du.of h1),k2,k1]
  |_=>cases h
theorem fJ:∀(is:List Nat)(ds:List Dt)(ρ:aj)(k:Nat),fh is ds ρ≠ .ex k
 |[],[],_,_=>λz=>by cases z
 |[],_::_,_,_=>λz=>by cases z
 |_::_,[],_,_=>λz=>by cases z
 |_::is,_::ds,ρ,k=>fJ is ds _ k
theorem qt(t:Tg)(d:Dt)(ρ:aj):∀k,fg t d ρ≠ .ex k:=by
 intro k;cases t with
 |nm i=>intro z;cases z
 |tp is=>
  cases d with
  |tup ds=>exact fJ is ds ρ k
  |lst ds=>exact fJ is ds ρ k
  |_=>intro z;cases z
theorem Ao(is:List Nat)(d:Dt)(ρ:aj):∀k,vq is d ρ≠ .ex k:=by
 intro k;cases d with
 |tup ds=>exact fJ is ds ρ k
 |lst ds=>exact fJ is ds ρ k
 |_=>intro z;cases z
theorem Dc{o:Ow}{S:Sx}{H:Hp}{Q:L2.St->Hp->Prop}{is:List Nat}{d:Dt}{x:V}{ρ ρ1:aj}{σ:L2.St}(er:ER Φ Γ o ρ S σ H)(hp:∀i∈is,plainS Γ i=B')(hx:RV Φ.K o.A H x d)(h:vq is d ρ= .ok ρ1)(q:∀σ1,ER Φ Γ o ρ1 S σ1 H->(∀k,k∉is->σ1[k]?=σ[k]?/\ρ1[k]?=ρ[k]?)->Q σ1 H):Mx.pO Φ.K is.length (qw is) x σ H Q:=by
 cases d with
 |tup ds=>obtain⟨a,xs,rfl,h1,h2⟩:=hx.aw;obtain⟨k1,k2⟩:=iL er hp h2 h q;exact#[a,xs,rfl,.inl (dO.of h1),k2,k1]
 |lst ds=>obtain⟨a,xs,rfl,h1,_,h2⟩:=hx.lst_inv;obtain⟨k1,k2⟩:=iL er hp h2 h q;exact#[a,xs,rfl,.inr (du.of h1),k2,k1]
 |_=>cases h
theorem KS{es:List Expr}{is:List Nat}{kk:Nat}{tp:Pos}(gx:GX g Γ X)(h:fB Γ es=U is):PG X (.Tuple es kk tp) (Mx.pO X.K is.length (qw is)):=by obtain⟨k1,k2,k3⟩:=Am gx h;obtain⟨n1,n2⟩:=gG (env:=X.env) k3;exact Mx.u5 gx.calm k1 (by rw[n1,k2]) n2
theorem kL{Ek:Nat->Prop}{α:Type}{r:R α}{P:α->Prop}(lF:∀k,r≠ .ex k)(h:mR Ek r P):∃d,r= .ok d/\P d:=by
 cases r with
 |ok a=>exact#[a,rfl,h]
 |ex k=>exact absurd rfl (lF k)
 |bad=>exact h.elim
theorem xX{sc:Scope}(gx:GX g Γ X)(hk:sc.kind= .function)(hb:Br sc.names Γ.names (bh Γ sc).1.N Γ.N (bh Γ sc).2=B'):ft X sc (bh Γ sc).1.N (bh Γ sc).2:=by
 unfold Br at hb;rw[Ti,Ti]at hb;obtain⟨⟨h1,h2⟩,h3⟩:=hb;rw[Uc]at h1 h3;refine#[hk,λy hy=>?_,λy hy e=>?_,λj i hj=>?_,by simpa using h2]
 ·have:=h1 y hy;rw[Ti]at this;exact TY this.1
 ·have:=h1 y hy;rw[Ti,e]at this;have h:=this.2;simp at h;exact gx.fre y.1 h
 ·have cZ:j<(bh Γ sc).2.length:=(To.mp hj).1;have:=h3 j (Uq.mpr cZ);rw[hj]at this;simp only at this;cases hx:(bh Γ sc).1.N[j]? with
  |none=>rw[hx]at this;cases this
  |some x=>rw[hx]at this;simp only[Ti]at this;exact#[x,rfl,by rw[gx.N];exact TY this.1,TY this.2]
theorem nW{sc:Scope}{C:Addr}{s:Shared}{H:Hp}{fp:List Addr}{xe:Value->Shared->Prop}(gx:GX g Γ X)(B:ft X sc (bh Γ sc).1.N (bh Γ sc).2)(qI:(bh Γ sc).1.N.Nodup):GX g (bh Γ sc).1 (fZ X sc (bh Γ sc).1.N C s H fp xe) where
 N:=rfl
 nd:=qI
 vis:=λx h=>by
  have hn:(bh Γ sc).1.names=sc.names:=rfl;rw[hn]at h;cases hl:sc.names.lookup x with
  |none=>rw[hl]at h;cases h
  |some kk=>
   have q:=aS (env:=X.env) hl;have q':(fZ X sc (bh Γ sc).1.N C s H fp xe).env.scope.names.lookup x=_:=q;by_cases hc:(kk==NameKind.free&&X.env.scope.kind== .function&&X.env.kindOf x==U .cell)=B'
   ·rw[V2 hc]at q';exact .inr (.inl q')
   ·rw[V1 hc]at q';rw[hl]at h;cases kk with
    |«local»=>exact .inl q'
    |cell=>exact .inr (.inl q')
    |free=>exact .inr (.inr q')
    |globalExplicit=>cases h
    |globalImplicit=>cases h
 loc:=λx h=>by
  have hn:(bh Γ sc).1.names=sc.names:=rfl;rw[hn]at h;cases hl:sc.names.lookup x with
  |none=>rw[hl]at h;cases h
  |some kk=>
   have q:=aS (env:=X.env) hl;have q':(fZ X sc (bh Γ sc).1.N C s H fp xe).env.scope.names.lookup x=_:=q;rw[hl]at h;cases kk with
   |«local»=>rw[V1 (by simp)]at q';exact#[.inl q',.inr q']
   |cell=>rw[V1 (by simp)]at q';exact#[.inr q',.inl (by show (sc.names.lookup x==U .cell)=B';rw[hl];rfl)]
   |free=>cases h
   |globalExplicit=>cases h
   |globalImplicit=>cases h
 gl:=λx h=>by
  have hn:(bh Γ sc).1.names=sc.names:=rfl;rw[hn]at h;cases hl:sc.names.lookup x with
  |none=>rw[hl]at h;cases h
  |some kk=>
   have q:=aS (env:=X.env) hl;have q':(fZ X sc (bh Γ sc).1.N C s H fp xe).env.scope.names.lookup x=_:=q;rw[hl]at h;cases kk with
   |globalImplicit=>rw[V1 (by simp)]at q';exact q'
   |«local»=>cases h
   |cell=>cases h
   |free=>cases h
   |globalExplicit=>cases h
 fre:=λx h=>by
  have hn:(bh Γ sc).1.names=sc.names:=rfl;rw[hn]at h;rcases h with hl|hl
  ·have q:=aS (env:=X.env) hl;have q':(fZ X sc (bh Γ sc).1.N C s H fp xe).env.scope.names.lookup x=_:=q;rw[V1 (by simp)]at q';exact .inl q'
  ·have q:=aS (env:=X.env) hl;have q':(fZ X sc (bh Γ sc).1.N C s H fp xe).env.scope.names.lookup x=_:=q;by_cases hc:(NameKind.free==NameKind.free&&X.env.scope.kind== .function&&X.env.kindOf x==U .cell)=B'
   ·rw[V2 hc]at q';exact .inl q'
   ·rw[V1 hc]at q';exact .inr q'
 calm:=gx.calm
 un:=gx.un
 con:=gx.con
 bl:=gx.bl
end
theorem join_some{α:Type}{o:Option (Option α)}{a:α}(h:o.join=U a):o=U (U a):=by
 cases o with
 |none=>cases h
 |some x=>cases x with
  |none=>cases h
  |some y=>simp at h;rw[h]
theorem fw{cap:List (Option Nat)}{ρ:aj}{j:Nat}{d:Dt}(h:(j6 cap ρ)[j]?=U (U d)):∃i,cap[j]?=U (U i)/\ρ[i]?=U (U d):=by
 unfold j6 at h;rw[TQ]at h;cases hc:cap[j]? with
 |none=>rw[hc]at h;cases h
 |some o=>
  rw[hc]at h;cases o with
  |none=>cases h
  |some i=>refine#[i,rfl,join_some ?_];simpa using h
theorem dQ{cap:List (Option Nat)}{σ:L2.St}{i j:Nat}{v:V}(hc:cap[j]?=U (U i))(h:σ[i]?=U (U v)):(cL cap σ)[j]?=U (U v):=by unfold cL;rw[TQ,hc];simp[h]
theorem uE{δ:Option Nat}:∀{cap:List (Option Nat)}{j:Nat},Bd δ cap=U j->∃i,δ=U i/\cap[j]?=U (U i)
 |[],j,h=>by simp[Bd]at h
 |o::r,j,h=>by
  unfold Bd at h;split at h
  ·rename_i c;rw[Ti]at c;cases h;cases δ with
   |none=>simp at c
   |some i=>exact#[i,rfl,by simp[TY c.2]]
  ·obtain⟨k,h1,rfl⟩:=TJ.mp h;obtain⟨i,h2,h3⟩:=uE h1;exact#[i,h2,by simpa using h3]
section
variable{X:Cx}{Φ:Fm}{Γ:Gm}{F:FT}{g:G}{k:Nat}{K:Frag}
def Ow.plus(o:Ow)(D:Addr):Ow:=#[o.W,λb=>o.A b\/b=D,o.dr]
theorem jF{sc:Scope}{i j:Nat}(hc:(bh Γ sc).2[j]?=U (U i)):ff (bh Γ sc).1 j=ff Γ i:=by have e:(bh Γ sc).1.M=Ez (bh Γ sc).2 Γ.M:=rfl;unfold ff;rw[e];unfold Ez;rw[TQ,hc];simp
theorem p5{i:Nat}:∀{cap:List (Option Nat)}{j:Nat},cap[j]?=U (U i)->∃j',Bd (U i) cap=U j'/\cap[j']?=U (U i)
 |[],j,h=>by cases h
 |o::r,j,h=>by
  unfold Bd;by_cases e:o=U i
  ·refine#[0,?_,by rw[e];rfl];rw[e];simp
  ·rw[V1 (by simp[e])];cases j with
   |zero=>cases h;exact absurd rfl e
   |succ j=>obtain⟨j',h1,h2⟩:=p5 (cap:=r) (j:=j) h;exact#[j'+1,by rw[h1];rfl,h2]
theorem ER.bh{sc:Scope}{o:Ow}{ρ:aj}{S:Sx}{σ:L2.St}{H:Hp}{D:Addr}(er:ER Φ Γ o ρ S σ H)(B:ft X sc (bh Γ sc).1.N (bh Γ sc).2)(qI:(Rx.bh Γ sc).1.N.Nodup)(hD:H D=y'):
  ER Φ (Rx.bh Γ sc).1 (o.plus D) (j6 (Rx.bh Γ sc).2 ρ) S (cL (Rx.bh Γ sc).2 σ) (upd H D (.lst [])):=by
 have s:=Mx.cP hD (.lst []);have av:∀b,(o.A b\/b=D)->o.A b\/H b=y':=λb z=>z.elim .inl λe=>.inr (by rw[e];exact hD)
 refine#[?_,λa h=>.inl (er.wa a h),λa h=>.inl (er.da a h),λa h=>?_,λj d h=>?_,λj ks vs h=>?_,λj j' a d e hm hm' h1 h2 h3 h4=>?_,λa h=>?_,er.drn,λj a hj ha=>?_,er.dr0,er.ent.trans (aR.of_same s)]
 ·unfold cL j6;rw[Tw,Tw]
 ·rcases h with h|h
  ·obtain⟨x,hx⟩:=er.al a h;exact#[x,s _ _ hx]
  ·subst h;exact#[_,aJ]
 ·obtain⟨i,hc,hr⟩:=fw h;obtain⟨v,h1,h2⟩:=er.val i d hr;refine#[v,dQ hc h1,?_];rw[jF hc];by_cases hm:ff Γ i=B'
  ·rw[V2 hm]at h2 ⊢;cases d with
   |lst ds=>obtain⟨a,xs,e1,e2,e3,e4,e5,e6,e7⟩:=h2;exact#[a,xs,e1,s _ _ e2,.inl e3,e4,e5,e6,(e7.df av).same s]
   |gv=>exact h2.elim
   |_=>exact RV.same (RV.df av h2) s
  ·rw[V1 hm]at h2 ⊢;exact(h2.df av).same s
 ·obtain⟨i,hc,hr⟩:=fw h;have hk:=er.dk i ks vs hr;obtain⟨j',k1,k2⟩:=p5 hc;obtain⟨x,n1,n2,_⟩:=B.vO j i hc;obtain⟨x',J8,FW,_⟩:=B.vO j' i k2;rw[n2]at FW;cases FW;show Bd Γ.κ (Rx.bh Γ sc).2=U j;rw[hk,k1,ir qI n1 J8]
 ·obtain⟨i,hc,hr⟩:=fw h1;obtain⟨i',lN,fP⟩:=fw h2;rw[jF hc]at hm;rw[jF lN]at hm';obtain⟨v,k1,_⟩:=er.val i _ hr;obtain⟨v',Qt,_⟩:=er.val i' _ fP;rw[dQ hc k1]at h3;rw[dQ lN Qt]at h4;cases h3;cases h4;have:=er.inj i i' a d e hm hm' hr fP k1 Qt;subst this;obtain⟨x,n1,n2,_⟩:=B.vO j i hc;obtain⟨x',J8,FW,_⟩:=B.vO j' i lN;rw[n2]at FW;cases FW;exact ir qI n1 J8
 ·obtain⟨ns,e1,e2⟩:=er.drw a h;exact#[ns,e1,s _ _ e2]
 ·obtain⟨i,h1,h2⟩:=uE (show Bd Γ.δ (Rx.bh Γ sc).2=U j from hj);exact dQ h2 (er.drs i a h1 ha)
theorem yb{sc:Scope}{x:Str}{i:Nat}(B:ft X sc (bh Γ sc).1.N (bh Γ sc).2)(h:eh (bh Γ sc).1 x=U i):(bh Γ sc).2[i]?=U y':=by
 obtain⟨a,b,c⟩:=ei h;have cZ:i<(bh Γ sc).2.length:=by rw[B.len];exact(To.mp c).1
 cases hc:(bh Γ sc).2[i]? with
 |none=>rw[List.getElem?_eq_none_iff]at hc;lia
 |some o=>
  cases o with
  |none=>rfl
  |some j=>obtain⟨y,n1,_,n3⟩:=B.vO i j hc;rw[c]at n1;cases n1;have hn:(bh Γ sc).1.names=sc.names:=rfl;rw[hn,n3]at a;cases a
theorem qW{cap:List (Option Nat)}{σ:L2.St}{i:Nat}(h:cap[i]?=U y'):(cL cap σ)[i]?=U y':=by unfold cL;rw[TQ,h];rfl
theorem yN{σ0:L2.St}{t:Tg}{K:Frag}(h:∀i∈bM t,σ0[i]?=U y'):GL σ0 (Im K t):=by
 have many:∀{is:List Nat},(∀i∈is,σ0[i]?=U y')->LD σ0 (qw is):=by
  intro is
  induction is with
  |nil=>intro _;exact BM
  |cons i is ih=>intro hs;exact yO (hs i Tt) (ih λj hj=>hs j (Tp _ hj))
 cases t with
 |nm i=>exact BL (h i (by simp[bM]))
 |tp is=>intro x σ H Q p q;obtain⟨a,xs,e,h1,h2,q⟩:=q;exact#[a,xs,e,h1,h2,many h xs σ H Q p q]
theorem De{sc:Scope}{e:Expr}{t:Tg}{σ:L2.St}(B:ft X sc (bh Γ sc).1.N (bh Γ sc).2)(h:xY (bh Γ sc).1 e=U t):∀i∈bM t,(cL (bh Γ sc).2 σ)[i]?=U y':=λi hi=>by obtain⟨_,x,hx⟩:=iK h i hi;exact qW (yb B hx)
def Ee(Γ:Gm)(ρ:aj)(σ:L2.St)(D:Addr):Prop:=∀(j:Nat)(d:List Dt),ff Γ j=B'->ρ[j]?=U (U (.lst d))->σ[j]?≠U (U (.ref D))
theorem vF{H:Hp}{D:Addr}{acc jY:List V}(hD:H D=U (.lst acc)):aR (λb=>b=D) H (upd H D (.lst jY)):=#[λb o h n=>by rw[aG n];exact h,Mx.qz hD]
theorem ER.emit{o:Ow}{ρ:aj}{S:Sx}{σ:L2.St}{H:Hp}{D:Addr}{acc jY:List V}(er:ER Φ Γ o ρ S σ H)(hD:H D=U (.lst acc))(hn:Ee Γ ρ σ D)(oD:o.A D)(nd:o.dr≠U D)(h0:∀x,Φ.H0 D=U x->Φ.d0=U D):ER Φ Γ o ρ S σ (upd H D (.lst jY)):=by
 have up:aR (λb=>b=D) H (upd H D (.lst jY)):=vF hD;have uA:∀b,b=D->o.A b:=λb z=>by rw[z];exact oD
 refine#[er.len,er.wa,er.da,λa ha=>?_,λj dd h=>?_,er.dk,er.inj,λa ha=>?_,er.drn,er.drs,er.dr0,?_]
 ·obtain⟨x,hx⟩:=er.al a ha;exact up.al hx λz=>#[_,by rw[z];exact aJ]
 ·obtain⟨w,h1,h2⟩:=er.val j dd h;refine#[w,h1,?_];by_cases hm:ff Γ j=B'
  ·rw[V2 hm]at h2 ⊢;cases dd with
   |lst ds=>
    obtain⟨a,xs,e1,e2,e3,e4,e5,e6,e7⟩:=h2;have aD:a≠D:=λz=>hn j ds hm h (by rw[h1,e1,z])
    exact#[a,xs,e1,up.kp _ _ e2 aD,e3,e4,e5,e6,e7.mono up uA λ_ z=>z]
   |gv=>exact h2.elim
   |_=>exact RV.mono up uA (λ_ z=>z) h2
  ·rw[V1 hm]at h2 ⊢;exact h2.mono up uA λ_ z=>z
 ·obtain⟨ns,e1,e2⟩:=er.drw a ha;exact#[ns,e1,up.kp _ _ e2 (λz=>nd (by rw[<-z];exact ha))]
 ·refine#[λb x h n=>up.kp _ _ (er.ent.kp b x h n) λz=>?_,λb xs h=>up.tp _ _ (er.ent.tp b xs h)];subst z;exact n (h0 x h)
theorem Wk.less{A Y Y':Addr->Prop}{J:It}{H:Hp}{ds:List Dt}(w:Wk K A Y J H ds)(h:∀b,Y' b->Y b):Wk K A Y' J H ds:=#[λi H1 hi e=>w.go i H1 hi (e.mono h),λH1 e=>w.stop H1 (e.mono h),λi x H1 H2 hi e y=>w.yld i x H1 H2 hi (e.mono h) y]
theorem IO.SC{Φ:Fm}{Γ:Gm}{o:Ow}{ρ:aj}{S:Sx}{σ:L2.St}{it:oX}{nl:Bool}{H H1:Hp}{ds:List Dt}{J:It}(io:IO Φ.K o it nl H ds J H1)(er:ER Φ Γ o ρ S σ H1)(h:(decide (uK it<=1)||nl)=B'):Wk Φ.K o.A o.d J H1 ds:=by
 rcases UD.mp h with h|h
 ·exact io.w1 (Tn h)
 ·exact(io.w2 h).less er.da
theorem Wk.plus{A Y:Addr->Prop}{J:It}{H:Hp}{ds:List Dt}{D:Addr}(w:Wk K A Y J H ds)(hD:H D=y'):Wk K (λb=>A b\/b=D) (λb=>Y b\/b=D) J (upd H D (.lst [])) ds:=by
 have ex:∀H1,aR (λb=>Y b\/b=D) (upd H D (.lst [])) H1->aR Y H H1:=λH1 e=>#[λb o h n=>by
   have nb:b≠D:=λz=>by rw[z,hD]at h;cases h
   exact e.kp b o (by rw[aG nb];exact h) λz=>z.elim n nb,λb xs h=>by
   have nb:b≠D:=λz=>by rw[z,hD]at h;cases h
   exact e.tp b xs (by rw[aG nb];exact h)]
 refine#[λi H1 hi e=>w.go i H1 hi (ex H1 e),λH1 e=>w.stop H1 (ex H1 e),λi x H1 H2 hi e y=>?_];obtain⟨s,d,hd,hv⟩:=w.yld i x H1 H2 hi (ex H1 e) y;refine#[s,d,hd,λB hB=>hv B λb hb=>?_];rcases hB b hb with (z|z)|z
 ·exact .inl z
 ·exact .inr (by rw[z];exact hD)
 ·by_cases nb:b=D
  ·exact .inr (by rw[nb];exact hD)
  ·rw[aG nb]at z;exact .inr z
structure Bh(Φ:Fm)(Γ:Gm)(o:Ow)(D:Addr)(ρ:aj)(σ:L2.St)(S:Sx)(acc:List V)(es:List Dt)(H:Hp):Prop where
 at':H D=U (.lst acc)
 rv:ar Φ.K o.A H acc es
 er:ER Φ Γ o ρ S σ H
structure LC(Φ:Fm)(o:Ow)(D:Addr):Prop where
 oD:o.A D
 nd:o.dr≠U D
 h0:∀x,Φ.H0 D=U x->Φ.d0=U D
def Yd(o:Ow)(D:Addr):Addr->Prop:=λb=>o.d b\/b=D
theorem ER.back{o:Ow}{ρ ρ':aj}{S S':Sx}{σ σ':L2.St}{H H':Hp}{D:Addr}(fx:LC Φ o D)(hn:Ee Γ ρ σ D)(er:ER Φ Γ o ρ S σ H)(EL:ER Φ Γ o ρ' S' σ' H')(e:aR (Yd o D) H H')(SR:∃acc,H D=U (.lst acc)):ER Φ Γ o ρ S' σ H':=by
 have uA:∀b,Yd o D b->o.A b:=λb z=>z.elim (er.da b) λq=>by rw[q];exact fx.oD
 refine#[er.len,er.wa,er.da,EL.al,λj dd h=>?_,er.dk,er.inj,EL.drw,EL.drn,er.drs,er.dr0,EL.ent];obtain⟨w,h1,h2⟩:=er.val j dd h;refine#[w,h1,?_];by_cases hm:ff Γ j=B'
 ·rw[V2 hm]at h2 ⊢;cases dd with
  |lst ds=>
   obtain⟨a,xs,e1,e2,e3,e4,e5,e6,e7⟩:=h2;have aD:a≠D:=λz=>hn j ds hm h (by rw[h1,e1,z])
   exact#[a,xs,e1,e.kp _ _ e2 (λz=>z.elim e5 aD),e3,e4,e5,e6,e7.mono e uA λ_ z=>z]
  |gv=>exact h2.elim
  |_=>exact RV.mono e uA (λ_ z=>z) h2
 ·rw[V1 hm]at h2 ⊢;exact h2.mono e uA λ_ z=>z
theorem Hx{tg:Tg}{ts:Cs}{o:Ow}{D:Addr}{ρ:aj}{σ:L2.St}{J:It}{ds:List Dt}{H1:Hp}{tb:TB}{fb:aj->Sx->R (List Dt×Sx)}{m a0:Nat}(fx:LC Φ o D)(hp:∀i∈bM tg,plainS Γ i=B')(wk:Wk Φ.K o.A (Yd o D) J H1 ds)(hn:Ee Γ ρ σ D)
  (hb:∀(ρ1:aj)(σ1:L2.St)(S:Sx)(acc:List V)(es:List Dt)(H2:Hp)(P:List Dt×Sx->Prop),Ee Γ ρ1 σ1 D->(∀k,k∉bM tg->σ1[k]?=σ[k]?/\ρ1[k]?=ρ[k]?)->Bh Φ Γ o D ρ1 σ1 S acc es H2->aR (Yd o D) H1 H2->acc.length+m<=a0+ds.length*m->0<ds.length->mR Φ.Ek (fb ρ1 S) P->
   ∀Q:Hp->Prop,(∀H5 r jZ,P r->Bh Φ Γ o D ρ1 σ1 r.2 jZ (es++r.1) H5->aR (Yd o D) H2 H5->jZ.length<=acc.length+m->Q H5)->tb σ1 H2 Q)
  {S:Sx} {acc:List V} {es:List Dt} {P:List Dt×Sx->Prop} (c:Bh Φ Γ o D ρ σ S acc es H1) (ha:acc.length<=a0) (q:mR Φ.Ek (bU (cC tg (dS F ts) fb ρ) ds S) P) {Fn:Hp->Prop}
  (fin:∀H5 r jZ,P r->Bh Φ Γ o D ρ σ r.2 jZ (es++r.1) H5->aR (Yd o D) H1 H5->jZ.length<=a0+ds.length*m->Fn H5):tG J (Im Φ.K tg) (vD Φ Γ F ts) tb σ Fn H1:=by
 refine#[λi mm H2=>mm=ds.length-i/\i<=ds.length/\∃S2 pf A3,Bh Φ Γ o D ρ σ S2 pf (es++A3) H2/\aR (Yd o D) H1 H2/\pf.length<=a0+i*m/\mR Φ.Ek (bU (cC tg (dS F ts) fb ρ) (ds.drop i) S2) λr=>P (A3++r.1,r.2),
  #[_,rfl,VL _,S,acc,[],by rw[Uh];exact c,aR.refl,⋯,q],?_]
 rintro i mm H2 ⟨rfl,hi,S2,pf,A3,c2,A4,b7,q⟩;by_cases cZ:i<ds.length
 ·refine .inr #[wk.go i H2 cZ A4,λx H3 y=>?_];obtain⟨s3,d,hd,hx⟩:=wk.yld i x H2 H3 cZ A4 y;have zb:=hx o.A λb z=>.inl z
  have pH:=c2.er.grow s3;have Nt:ds.drop i=d::ds.drop (i+1):=by rw[UV cZ];congr 1;exact(To.mp hd).2
  rw[Nt]at q;unfold bU at q;rw[aa]at q;unfold cC at q;rw[aa]at q;obtain⟨ρ1,hρ,q⟩:=kL (qt _ _ _) q;refine AE pH hp zb hρ λσ1 Nx hk=>?_
  rw[aa]at q;refine#[o,ρ1,S2,Nx,ag q λb _ q H4 e4 DB=>?_];have PH:aR (Yd o D) H3 H4:=e4.mono λb z=>.inl z
  have Sn:Ee Γ ρ1 σ1 D:=λj dd hm h1 h2=>by
   have nj:j∉bM tg:=λz=>by rw[(iB (hp j z)).1]at hm;cases hm
   obtain⟨k1,k2⟩:=hk j nj;rw[k1]at h2;rw[k2]at h1;exact hn j dd hm h1 h2
  have uA:∀b,Yd o D b->o.A b:=λb z=>z.elim (pH.da b) λq=>by rw[q];exact fx.oD
  have PY:H4 D=U (.lst pf):=e4.kp _ _ (s3 _ _ c2.at') fx.nd;have Qi:ar Φ.K o.A H4 pf (es++A3):=(c2.rv.same s3).mono PH uA λ_ z=>z
  have Jf:aR (Yd o D) H2 H4:=(aR.of_same s3).trans PH;have hmul:ds.length*m=(ds.length-(i+1))*m+(i*m+m):=by
   rw[<-Nat.succ_mul i m,<-Nat.add_mul];congr 1
   lia
  have Qd:(i+1)*m=i*m+m:=Nat.succ_mul i m;have hz:0<=(ds.length-(i+1))*m:=VL _;cases ug:b.1 with
  |false=>rw[ug]at q;refine Fw ?_;refine#[ds.length-(i+1),⋯,rfl,cZ,b.2,pf,A3,#[PY,Qi,c2.er.back fx hn DB Jf #[_,c2.at']],A4.trans Jf,⋯,?_];simp only[UA,V0]at q;have q:mR Φ.Ek ((bU (cC tg (dS F ts) fb ρ) (ds.drop (i+1)) b.2).bind λq=>R.ok (([]:List Dt)++q.1,q.2)) _:=q;rw[aa]at q;exact ag q λr _ q=>q
  |true=>
   rw[ug]at q;refine Fx ?_;simp only[V3]at q;refine hb ρ1 σ1 b.2 pf (es++A3) H4 _ Sn hk #[PY,Qi,DB] (A4.trans Jf) ⋯ ⋯ q _ λH5 r jZ q c5 e5 l5=>?_
   rw[aa]at q;refine#[ds.length-(i+1),⋯,rfl,cZ,r.2,jZ,A3++r.1,#[c5.at',by rw[<-TH];exact c5.rv,c2.er.back fx hn c5.er (Jf.trans e5) #[_,c2.at']],(A4.trans Jf).trans e5,⋯,ag q λr' _ q=>?_];have q:P (A3++(r.1++r'.1),r'.2):=q;rw[TH];exact q
 ·have e:i=ds.length:=⋯
  subst e;refine .inl #[wk.stop H2 A4,?_];rw[List.drop_length]at q;have q:P (A3++[],S2):=q;rw[Uh]at q;exact fin H2 (A3,S2) pf q c2 A4 b7
theorem EK{o:Ow}{D:Addr}{c:C}{ρ:aj}{σ:L2.St}{S:Sx}{acc:List V}{es:List Dt}{H:Hp}{P:List Dt×Sx->Prop}(fx:LC Φ o D)(hn:Ee Γ ρ σ D)(cs:Bh Φ Γ o D ρ σ S acc es H)(hl:acc.length<sizeLine)
  (q:mR Φ.Ek ((ev F c ρ S).bind λy=>af (cJ c y.1) (.ok ([y.1],y.2))) P) (Q:Hp->Prop) (fin:∀H5 r jZ,P r->Bh Φ Γ o D ρ σ r.2 jZ (es++r.1) H5->aR (Yd o D) H H5->jZ.length<=acc.length+1->Q H5):AA D (bj Φ Γ F g.fr c) σ H Q:=by
 rw[aa]at q;refine#[o,ρ,S,cs.er,ag q λy _ q v H5 eo5 er6=>?_];obtain⟨gs,q⟩:=aI q;have e5:aR (Yd o D) H H5:=eo5.ext.mono λb z=>.inl z
 have NL:H5 D=U (.lst acc):=eo5.ext.kp _ _ cs.at' fx.nd;have uA:∀b,Yd o D b->o.A b:=λb z=>z.elim (cs.er.da b) λq=>by rw[q];exact fx.oD
 have hv:RV Φ.K o.A H5 v y.1:=by
  unfold cJ at gs;rw[Ui]at gs;rcases gs with gs|gs
  ·exact eo5.de (Tn gs)
  ·exact eo5.val.uS gs
 have up:aR (λb=>b=D) H5 (upd H5 D (.lst (acc++[v]))):=vF NL;refine#[acc,NL,hl,fin _ ([y.1],y.2) (acc++[v]) q #[aJ,?_,er6.emit NL hn fx.oD fx.nd fx.h0] (e5.trans (up.mono λb z=>.inr z)) (by simp)];exact((cs.rv.mono e5 uA λ_ z=>z).append (ar.cons hv ar.nil)).mono up (λb z=>by rw[z];exact fx.oD) λ_ z=>z
theorem Dh:2*lim<sizeLine:=by rw[Wc];decide
theorem vK{sc:Scope}{o:Ow}{ρ:aj}{S:Sx}{σ:L2.St}{H:Hp}{D:Addr}(er:ER Φ Γ o ρ S σ H)(B:ft X sc (bh Γ sc).1.N (bh Γ sc).2)(qI:(Rx.bh Γ sc).1.N.Nodup)(hD:H D=y'):
  LC Φ (o.plus D) D/\Ee (bh Γ sc).1 (j6 (bh Γ sc).2 ρ) (cL (bh Γ sc).2 σ) D/\Bh Φ (bh Γ sc).1 (o.plus D) D (j6 (bh Γ sc).2 ρ) (cL (bh Γ sc).2 σ) S [] [] (upd H D (.lst [])):=by
 refine#[#[.inr rfl,λz=>?_,λx hx=>?_],λj d hm h1 h2=>?_,#[aJ,ar.nil,er.bh B qI hD]]
 ·obtain⟨y,hy⟩:=er.al D (er.da D z);rw[hD]at hy;cases hy
 ·by_cases hz:Φ.d0=U D
  ·exact hz
  ·have:=er.ent.kp D x hx hz;rw[hD]at this;cases this
 ·obtain⟨ii,hc,R5⟩:=fw h1;obtain⟨w',k1,k2⟩:=er.val ii _ R5;rw[<-jF hc,V2 hm]at k2;obtain⟨a',Bg,Nr,HU,_⟩:=k2;rw[dQ hc k1]at h2;cases h2;cases Nr;rw[hD]at HU;cases HU
theorem Bt{sc:Scope}{o:Ow}{ρ:aj}{S S2:Sx}{σ:L2.St}{H H1 H2:Hp}{D:Addr}{acc:List V}{ds:List Dt}{c:C}(hc:lk c=0)(io:aR o.d H H1)(aC:ER Φ Γ o ρ S σ H1)(hD:H1 D=y'){ρ2:aj}{σ2:L2.St}(cs:Bh Φ (bh Γ sc).1 (o.plus D) D ρ2 σ2 S2 acc ds H2)(ex:aR (Yd (o.plus D) D) (upd H1 D (.lst [])) H2):
  EO Φ.K g.fr o c H (.lst ds) (.ref D) H2/\ER Φ Γ o ρ S2 σ H2:=by
 have A4:aR o.d H1 H2:=#[λb x h n=>by
   have nb:b≠D:=λz=>by rw[z,hD]at h;cases h
   exact ex.kp b x (by rw[aG nb];exact h) λz=>z.elim n nb,λb xs h=>by
   have nb:b≠D:=λz=>by rw[z,hD]at h;cases h
   exact ex.tp b xs (by rw[aG nb];exact h)]
 have nA:¬o.A D:=λz=>by obtain⟨y,hy⟩:=aC.al D z;rw[hD]at hy;cases hy
 have dn:H D=y':=aC.d7 io hD;have v0:RV Φ.K o.A H2 (.ref D) (.lst ds):=RV.eM cs.at' nA (cs.rv.weak λb z=>.inl z);refine#[#[io.trans A4,v0.weak aC.eU,λ_=>v0,λ_=>v0.one,λ_ xi ed=>?_],aC.step A4 (λa ha=>cs.er.drw a ha) cs.er.drn];cases ed;exact#[D,acc,rfl,dn,cs.at',cs.rv.weak λb z=>z.elim (λz=>.inl (aC.eU b z)) .inr,λ_=>cs.rv]
theorem Al{sc:Scope}{tg:Expr}{it:oX}{t:Tg}{ts:Cs}{c:C}(hK:Φ.K=X.K)(B:ft X sc (bh Γ sc).1.N (bh Γ sc).2)(qI:(bh Γ sc).1.N.Nodup)(Mh:xY (bh Γ sc).1 tg=U t){σ:L2.St}{H:Hp}{Q:VK}
  (q:bj Φ Γ F g.fr (.comp (bh Γ sc).2 it t ts c) σ H Q):sU (bh Γ sc).2 (oU Φ Γ F it) (Im X.K t) (vD Φ (bh Γ sc).1 F ts) (λD=>AA D (bj Φ (bh Γ sc).1 F g.fr c)) σ H Q:=by
 obtain⟨o,ρ,S,er,q⟩:=q;rw[qj]at q;rw[aa]at q;refine#[o,ρ,S,er,ag q λp _ q J H1 io aC D hD=>#[yN (De B Mh),?_]];obtain⟨g1,q⟩:=aI q;rw[Ti]at g1;have v7:=Tn g1.1;have wk:=(io.SC aC g1.2).plus hD;rw[aa]at q;have jD:=Dh;obtain⟨fx,hn,cs⟩:=vK (X:=X) aC B qI hD;rw[<-hK];refine Hx (m:=1) (a0:=0) fx (λi hi=>(iK Mh i hi).1) wk hn (λρ1 σ1 S1 acc es H2 P n1 hk c1 e1 hl _ q Q fin=>EK fx n1 c1 ⋯ q Q fin) cs (VL _) q λH5 r jZ q c5 e5 l5=>?_
 obtain⟨k1,k2⟩:=Bt (g:=g) (c:=.comp (bh Γ sc).2 it t ts c) rfl io.ext aC hD c5 e5;exact q _ _ k1 k2
end
def yU:Expr->Bool
 |.Starred ..=>G'
 |.Slice ..=>G'
 |.Set ..=>G'
 |.Call (.Name _ _) [] _ _=>G'
 |_=>B'
theorem bF{e:Expr}(h:yU e=B')(es:List Expr)(env:Env):starEach (e::es) env=(G',eval e env)::starEach es env:=by cases e<;>first|rfl|(cases h)
theorem Jx{e:Expr}(h:yU e=B'):mY e:=by intro o i;cases e<;>first|rfl|(cases h)
theorem uh{e:Expr}(h:yU e=B')(op:CmpOp):behindInMarks op e=G':=by cases e<;>first|rfl|(cases h)
theorem rF{e:Expr}(h:yU e=B')(env:Env):∀x,foldedSetIterable e env x=pure x:=by intro x;cases e<;>first|rfl|(cases h)
theorem BR{e:Expr}(h:yU e=B')(f:Str)(env:Env)(w:Sem Value):attributeBase e f env w=w:=by
 cases e with
 |Call fn args kws pos=>
  cases args with
  |nil=>cases fn<;>first|rfl|(cases h)
  |cons a as=>cases fn<;>rfl
 |_=>rfl
theorem cq{X:Cx}{Φ:Fm}{Γ:Gm}{F:FT}{e:Expr}{c:C}(h:∀ρ S,aQ F c ρ S= .bad):PT X e (ez Φ Γ F c):=λJ' s σ H Q I q=>by obtain⟨o,ρ,S,er,q⟩:=q;rw[h]at q;exact q.elim
section
variable{g:G}{xv:Nat->Value}{CX:lI}{k:Nat}{F:FT}
structure QU(g:G)(F:FT)(n:Nat)(Γ:Gm)(X:Cx)(Φ:Fm):Prop where
 e:∀e c,cE n g Γ e=U c->PE X e (bj Φ Γ F g.fr c)/\PT X e (ez Φ Γ F c)/\yU e=B'
 es:∀es cs,lJ n g Γ es=U cs->PA X es (lR Φ Γ F cs)/\cs.len=es.length/\∀e∈es,yU e=B'
 ts:∀es cs,Ds n g Γ es=U cs->Eh X es (vD Φ Γ F cs)
 b:∀o es c pos,cB n g Γ o es=U c->PE X (.BoolOp o es pos) (bj Φ Γ F g.fr c)/\PW X (.BoolOp o es pos) (ez Φ Γ F c)
 i:∀tg e it,cI n g Γ tg e=U it->PI X tg e (oU Φ Γ F it)/\yU e=B'
 c:∀f a as c p pos,l6 n g Γ f a as=U c->PE X (.Call (.Name f p) (a::as) [] pos) (bj Φ Γ F g.fr c)/\PT X (.Call (.Name f p) (a::as) [] pos) (ez Φ Γ F c)
theorem pj{es:List Expr}{env:Env}{pos:Pos}(h:∀e∈es,yU e=B'):(backTo pos (starEach es env)).any (·.1)=G':=by
 induction es with
 |nil=>rfl
 |cons e es ih=>rw[bF (h e Tt)];show (G'||(backTo pos (starEach es env)).any (·.1))=G';rw[ih λe' z=>h e' (Tp _ z)];rfl
theorem kO{x y:Str}(h:(x==y)=G'):x≠y:=λe=>by subst e;rw[VX]at h;cases h
theorem bz{x:Str}(h:cH x=B'):(x==("__debug__":Str))=G'/\(x==("__classdict__":Str))=G'/\x≠"__name__":=by unfold cH at h;rw[Ti,Ti]at h;have h1:=h.1.1;have h2:=h.1.2;have h3:=h.2;rw[UC]at h1 h2 h3;exact#[h1,h2,kO h3]
def Pg:C->Bool
 |.nt _|.and ..|.or ..|.cmp ..|.ch ..|.var _|.mvr _|.call ..|.callD ..|.bi ..|.idx ..=>B'
 |_=>G'
theorem bE{F:FT}{c:C}{ρ:aj}{S:Sx}(h:Pg c=G'):aQ F c ρ S= .bad:=by cases c<;>first|rfl|cases h
theorem xV:∀t∈xU,GV t.2.2=B'/\bootBuiltins t.1=U (HR t.2.2):=by
 intro t ht;simp only[xU,TC,TF,Wa]at ht;rcases ht with rfl|rfl|rfl|rfl|rfl|rfl|rfl|rfl
 ·exact#[rfl,PySem.boot_len]
 ·exact#[rfl,PyProof.Rows.boot_min]
 ·exact#[rfl,PyProof.Rows.boot_max]
 ·exact#[rfl,PyProof.Rows.boot_sorted]
 ·exact#[rfl,PyProof.Rows.boot_tuple]
 ·exact#[rfl,PyProof.Rows.boot_list]
 ·exact#[rfl,PyProof.Rows.boot_int]
 ·exact#[rfl,PyProof.Rows.boot_str]
theorem Bp{x:Str}{n:Nat}{b:BI}(h:Bo x n=U b):GV b=B'/\bootBuiltins x=U (HR b):=by unfold Bo at h;obtain⟨t,h1,rfl⟩:=TJ.mp h;have hm:=List.mem_of_find?_eq_some h1;have hp:=List.find?_some h1;rw[Ti]at hp;rw[<-TY hp.1];exact xV t hm
theorem Ew{b:BI}(h:GV b=B'):(∃id,HR b= .builtin id)\/∃T,HR b= .type T:=by cases b<;>first|exact .inl #[_,rfl]|exact .inr #[_,rfl]|cases h
theorem gu{x:Str}(h:g.bls.contains x=B'):x∈g.bls:=by simpa using h
theorem OT{X:Cx}{Φ:Fm}{Γ:Gm}{x:Str}{n:Nat}{b:BI}{a:Expr}{as:List Expr}{cs:Cs}{p pos:Pos}(hK:Φ.K=X.K)(gx:GX g Γ X)(hG:Gl X x)(hm:X.mg x=y')(hx:cH x=B')(hb:Bo x n=U b)(hs:starEach (a::as) X.env=(G',eval a X.env)::starEach as X.env)(lG:(backTo pos (starEach as X.env)).any (·.1)=G')
  (ha:PA X (a::as) (lR Φ Γ F cs)):PE X (.Call (.Name x p) (a::as) [] pos) (bj Φ Γ F g.fr (.bi b cs)):=by
 obtain⟨h1,h2⟩:=Bp hb;obtain⟨n1,n2,n3⟩:=bz hx;have hc:=Bq (X:=X) b h1 gx.calm gx.un;rcases Ew h1 with ⟨id,e⟩|⟨T,e⟩
 ·rw[e]at h2 hc;exact a8 (kU hc hG hm h2 ha n3 n1 hs lG) λσ H Q q=>yB hK q
 ·rw[e]at h2 hc;exact a8 (wC hc hG hm h2 ha n3 n1 hs lG) λσ H Q q=>yB hK q
theorem zc{X:Cx}{Φ:Fm}{sc:Scope}{N':List Str}{C:Addr}{s:Shared}{H:Hp}{fp:List Addr}(hX:HX g xv CX k F Φ X):HX g xv CX k F Φ (fZ X sc N' C s H fp (Dl X sc N' (jW Φ xv) C s H fp)) where
 K:=hX.K
 P:=hX.P
 w:=hX.w
 fx:=hX.fx
 room:=hX.room
 cx:=hX.cx
 st:=vy hX.st
 xgx:=λe s' h=>HG h
 xk:=hX.xk
theorem iH(n:Nat):∀(Γ:Gm)(X:Cx)(Φ:Fm),GX g Γ X->HX g xv CX k F Φ X->QU g F n Γ X Φ:=by
 induction n with
 |zero=>intro Γ X Φ gx hX;exact#[λe c h=>by simp[cE]at h,λe c h=>by simp[lJ]at h,λe c h=>by simp[Ds]at h,λo e c p h=>by simp[cB]at h,λo e c h=>by simp[cI]at h,λf a as c p q h=>by simp[l6]at h]
 |succ n ih=>
  intro Γ X Φ gx hX;have I:=ih Γ X Φ gx hX;have hK:=hX.K;have hu:=gx.un;refine#[λe c h=>?_,λes cs h=>?_,λes cs h=>?_,λo es c pos h=>?_,λtg e it h=>?_,λf a as c p pos h=>?_]
  ·
   unfold cE at h;cases e<;>first|(cases h;done)|dsimp only at h
   ·obtain⟨k1,k2⟩:=I.b _ _ _ _ h;exact#[k1,k2.pt,rfl]
   ·refine pB c h λa' h1 b' h2=>?_
    exact#[KD hK (I.e _ _ h1).1 (I.e _ _ h2).1,cq λρ S=>bE rfl,rfl]
   ·refine bx h λa' h1 h9=>?_
    clear h;split at h9
    ·cases h9;exact#[KN (I.e _ _ h1).1,cq λρ S=>bE rfl,rfl]
    ·cases h9;exact#[OW (I.e _ _ h1).1,KP (I.e _ _ h1).2.1,rfl]
    ·cases h9
   ·
    unfold LU at h
    (try dsimp only at h)
    rename_i elt gens sc pos;split at h
    ·rename_i hk;split at h
     ·rename_i tg it ifs;refine bx h λgC h1 h=>?_
      refine bx h λAD h2 h=>?_
      refine bx h λBf h3 h=>?_
      refine bx h λe' h4 h=>?_
      split at h
      ·rename_i hb;cases h;rw[Ti]at hb;have E5:sc.kind= .function:=TY hk;have B:=xX gx E5 hb.1;have qI:(bh Γ sc).1.N.Nodup:=Tn hb.2;have J:=λC s H fp=>ih (bh Γ sc).1 (fZ X sc (bh Γ sc).1.N C s H fp (Dl X sc (bh Γ sc).1.N (jW Φ xv) C s H fp)) Φ (nW gx B qI) (zc hX)
       refine#[a8 (zJ (xb:=Dl X sc (bh Γ sc).1.N (jW Φ xv)) (body:=λacc env=>kh elt acc env) gx.calm B (vI hX.st hX.xgx) (I.i _ _ _ h1).1 (λrM acc env=>qA ..) (λC s H fp=>Hb (nW gx B qI) h2) (λC s H fp=>(J C s H fp).ts _ _ h3) (λC s H fp D=>uX ((J C s H fp).e _ _ h4).1) (rF (I.i _ _ _ h1).2 _)) λσ H Q q=>Al hK B qI h2 q,cq λρ S=>bE rfl,rfl]
      ·cases h
     ·cases h
    ·cases h
   ·unfold IL at h
    (try dsimp only at h)
    split at h
    ·refine pB c h λa' h1 b' h2=>?_
     have hm:=uh (I.e _ _ h2).2.2;exact#[KG hK hu (hm _) (I.e _ _ h1).1 (I.e _ _ h2).1,G3 hK hu (hm _) (I.e _ _ h1).1 (I.e _ _ h2).1,rfl]
    ·refine LS c h λa' h1 b' h2 c' h3=>?_
     have hm:=uh (I.e _ _ h3).2.2;exact#[OU hK hu (hm _) (I.e _ _ h1).1 (I.e _ _ h2).1 (I.e _ _ h3).1,KF hK hu (hm _) (I.e _ _ h1).1 (I.e _ _ h2).1 (I.e _ _ h3).1,rfl]
    ·cases h
   ·unfold Px at h
    (try dsimp only at h)
    split at h
    ·split at h
     ·rename_i hf;obtain rfl:=iU hf rfl;split at h
      ·obtain⟨k1,k2⟩:=I.c _ _ _ _ _ _ h;exact#[k1,k2,rfl]
      ·cases h
     ·rename_i o m ap hf;obtain rfl:=iU hf rfl;unfold Pw at h;split at h
      ·
       split at h
       ·rename_i hj;split at h
        ·rename_i kA;refine pB c h λo' h1 a' h2=>?_
         have ej:=TY hj;subst ej;exact#[G5 hK (bF (I.e _ _ h2).2.2 [] _) kA (BR (I.e _ _ h1).2.2 _ _ _) (I.e _ _ h1).1 (I.e _ _ h2).1,cq λρ S=>bE rfl,rfl]
        ·cases h
       ·cases h
      ·cases h
     ·cases h
    ·cases h
   ·split at h
    ·cases h;exact#[qr rfl Gv,cq λρ S=>bE rfl,rfl]
    ·cases h;exact#[qr rfl Gx,cq λρ S=>bE rfl,rfl]
    ·cases h;exact#[qr rfl DS,cq λρ S=>bE rfl,rfl]
    ·cases h;exact#[qr rfl Gw,cq λρ S=>bE rfl,rfl]
    ·cases h
   ·unfold IU at h
    (try dsimp only at h)
    split at h
    ·refine pB c h λa' h1 b' h2=>?_
     exact#[Ha hK (I.e _ _ h1).1 (I.e _ _ h2).1,cq λρ S=>bE rfl,rfl]
    ·refine pB c h λa' h1 b' h2=>?_
     exact#[G9 hK (I.e _ _ h1).1 (I.e _ _ h2).1,cq λρ S=>bE rfl,rfl]
    ·refine LS c h λa' h1 b' h2 c' h3=>?_
     exact#[G8 hK (I.e _ _ h1).1 (I.e _ _ h2).1 (I.e _ _ h3).1,cq λρ S=>bE rfl,rfl]
    ·refine pB c h λa' h1 b' h2=>?_
     have k1:=λpos=>KH (pos:=pos) hK (Jx (I.e _ _ h2).2.2) (I.e _ _ h1).1 (I.e _ _ h2).1
     refine#[k1 _,jO hK (k1 _) (λ_=>rfl) (λρ S=>?_),rfl];rw[Ad,ve];cases ev F a' ρ S with
     |ok x=>
      simp only[R.ah];cases ev F b' ρ x.2 with
      |ok y=>simp only[R.ah];cases bB x.1 y.1<;>rfl
      |ex k=>rfl
      |bad=>rfl
     |ex k=>rfl
     |bad=>rfl
   ·
    unfold Py at h;rename_i x p;split at h
    ·rename_i i hi;obtain⟨v1,v2,v3⟩:=jS hi;obtain⟨n1,n2,n3⟩:=bz v2;have hv:PE X (.Name x p) (lC i):=sr (by rw[gx.N];exact v3) (gx.vis x v1) n1 n2;split at h
     ·cases h
     rename_i hδκ;split at h
     ·rename_i hm;cases h;have:=KM (Φ:=Φ) (F:=F) (fr:=g.fr) hv hm λz=>hδκ (by simp[z])
      exact#[this,jO hK this (λ_=>rfl) (λρ S=>by rw[qi,oH];cases bJ ρ i<;>rfl),rfl]
     ·rename_i hm;cases h;have:=KW (Φ:=Φ) (F:=F) (fr:=g.fr) hv (by simpa using hm);exact#[this,jO hK this (λ_=>rfl) (λρ S=>by rw[Ae,vf];cases bJ ρ i<;>rfl),rfl]
    ·split at h
     ·rename_i hg;rw[Ti]at hg;obtain⟨d,h1,rfl⟩:=TJ.mp h;obtain⟨u,k1,k2,k3⟩:=gx.con x d h1;exact#[qr k1 (u4 (gx.gl x hg.1) k2 k3 (bz hg.2).1),cq λρ S=>bE rfl,rfl]
     ·cases h
   ·refine xh c h λgi h1=>?_
    exact#[KJ (I.es _ _ h1).1,cq λρ S=>bE rfl,rfl]
   ·refine xh c h λgi h1=>?_
    exact#[KU (I.es _ _ h1).1,cq λρ S=>bE rfl,rfl]
  ·
   unfold lJ at h;split at h
   ·cases h;exact#[KO,rfl,λe z=>by cases z]
   ·refine pB cs h λe' h1 gi h2=>?_
    obtain⟨k1,k2,k3⟩:=I.es _ _ h2;refine#[G4 (bF (I.e _ _ h1).2.2 _ _) (I.e _ _ h1).1 k1,by simp[Cs.len,k2],λe z=>?_];rcases TC.mp z with rfl|z
    ·exact(I.e _ _ h1).2.2
    ·exact k3 e z
  ·
   unfold Ds at h;split at h
   ·cases h;exact λJ' s σ H Q I q=>CM J' s σ H Q I (by obtain⟨o,ρ,S,er,q⟩:=q;rw[mF]at q;exact q _ aR.refl er)
   ·refine xh cs h λe' h1=>?_
    refine λJ' s σ H Q I' q=>CN (I.e _ _ h1).2.1 J' s σ H Q I' ?_
    obtain⟨o,ρ,S,er,q⟩:=q;rw[jl]at q;exact#[o,ρ,S,er,q]
   ·cases h
  ·
   unfold cB at h;split at h
   ·rename_i e;have k1:=(I.e _ _ h).1;have k2:=(I.e _ _ h).2.1;refine#[zN k1,?_];cases o with
    |And=>exact CO k2
    |Or=>exact GK k2
   ·rename_i e es lF;refine pB c h λe' h1 gi h2=>?_
    cases es with
    |nil=>exact(lF rfl).elim
    |cons b rest=>
     obtain⟨k1,k2⟩:=I.b o _ _ pos h2;cases o with
     |And=>exact#[KC (I.e _ _ h1).1 k1,G2 (I.e _ _ h1).2.1 k2]
     |Or=>exact#[OX (I.e _ _ h1).1 k1,KQ (I.e _ _ h1).2.1 k2]
   ·cases h
  ·
   unfold cI at h;have sq:∀{it},((cE n g Γ e).bind λc=>U (oX.seq c))=U it->_:=λ {it} h=>xh (P:=λit=>PI X tg e (oU Φ Γ F it)/\yU e=B') it h λc h1=>#[KR hK (I.e _ _ h1).1,(I.e _ _ h1).2.2]
   split at h
   ·rename_i h0 as q vW;obtain rfl:=yd vW;split at h
    ·rename_i x hx;obtain rfl:=rW hx;obtain⟨f,p⟩:=x;dsimp only at h;unfold IT at h;split at h
     ·split at h
      ·rename_i hf;have ef:=TY hf;subst ef;split at h
       ·rename_i hg;rw[Ti]at hg;refine xh it h λa' h1=>?_
        exact#[G6 (gx.gl _ hg.1) (gx.bl _ (gu hg.2)) (bF (I.e _ _ h1).2.2 [] _) (I.e _ _ h1).1,rfl]
       ·cases h
      ·exact sq h
     ·split at h
      ·rename_i hf;have ef:=TY hf;subst ef;split at h
       ·cases h
       ·cases h
      split at h
      ·rename_i hf;have ef:=TY hf;subst ef;split at h
       ·rename_i hg;rw[Ti,Ti]at hg;obtain⟨⟨RC,hg⟩,RD⟩:=hg;obtain⟨_,_,_,rfl⟩:=B1 RC
        replace hg:=And.intro hg RD
        ·refine pB it h λa' h1 b' h2=>?_
         have e2:=bF (I.e _ _ h2).2.2 [] X.env;exact#[KY hK (gx.gl _ hg.1) (gx.bl _ (gu hg.2)) (by rw[bF (I.e _ _ h1).2.2,e2];rfl) e2 (I.e _ _ h1).1 (I.e _ _ h2).1,rfl]
       ·cases h
      ·exact sq h
     ·rename_i a b d;split at h
      ·rename_i hf;have ef:=TY hf;subst ef;split at h
       ·rename_i hg;rw[Ti]at hg;refine LS it h λa' h1 b' h2 d' h3=>?_
        have e3:=bF (I.e _ _ h3).2.2 [] X.env;have e2:starEach [b,d] X.env=[(G',eval b X.env),(G',eval d X.env)]:=by rw[bF (I.e _ _ h2).2.2,e3];rfl
        exact#[G7 (gx.gl _ hg.1) (gx.bl _ (gu hg.2)) (by rw[bF (I.e _ _ h1).2.2,e2]) e2 e3 (I.e _ _ h1).1 (I.e _ _ h2).1 (I.e _ _ h3).1,rfl]
       ·cases h
      ·exact sq h
     ·exact sq h
    ·exact sq h
   ·exact sq h
  ·
   have tr:∀{c:C},(∀ρ S,aQ F c ρ S=(ev F c ρ S).bind λx=>(cw x.1).bind λb=>.ok (b,x.2))->PE X (.Call (.Name f p) (a::as) [] pos) (bj Φ Γ F g.fr c)->PE X (.Call (.Name f p) (a::as) [] pos) (bj Φ Γ F g.fr c)/\PT X (.Call (.Name f p) (a::as) [] pos) (ez Φ Γ F c):=λhe h=>#[h,jO hK h (λ_=>rfl) he]
   have PK:∀(b:BI)(cs:Cs)ρ S,aQ F (.bi b cs) ρ S=(ev F (.bi b cs) ρ S).bind λx=>(cw x.1).bind λb=>.ok (b,x.2):=λb cs ρ S=>by
    rw[CP,sH];cases fk F cs ρ S with
    |ok x=>simp only[R.ah];cases dw b x.1<;>rfl
    |ex k=>rfl
    |bad=>rfl
   have Q1:∀(f:Nat)(cs:Cs)(ds:List Dt)ρ S,aQ F (.call f cs ds) ρ S=(ev F (.call f cs ds) ρ S).bind λx=>(cw x.1).bind λb=>.ok (b,x.2):=λf cs ds ρ S=>by
    rw[wL,k9];cases fk F cs ρ S with
    |ok x=>simp only[R.ah];cases F f (x.1++ds) y'<;>rfl
    |ex k=>rfl
    |bad=>rfl
   have SL:∀(f:Nat)(cs:Cs)ρ S,aQ F (.callD f cs) ρ S=(ev F (.callD f cs) ρ S).bind λx=>(cw x.1).bind λb=>.ok (b,x.2):=λf cs ρ S=>by
    rw[sG,wM];cases S.isSome with
    |false=>rfl
    |true=>
     simp only[guard_true];cases fk F cs ρ S with
     |ok x=>
      simp only[R.ah];cases x.2 with
      |none=>rfl
      |some s=>rfl
     |ex k=>rfl
     |bad=>rfl
   unfold l6 at h;split at h
   ·rename_i hg;rw[Ti]at hg;have NM:=gx.gl f hg.1;obtain⟨n1,n2,n3⟩:=bz hg.2;split at h
    ·rename_i kk np fy a6 yX;split at h
     ·
      rename_i hdp;have:a6=B':=hdp;subst this;unfold IM at h;refine bx h ?_;clear h;intro y hy h;obtain rfl:=rW hy;refine bx h λi hi h=>?_
      split at h
      ·cases h
      ·cases h
     ·rename_i hdp;have:a6=G':=by simpa using hdp
      subst this;split at h
      ·rename_i hn;rw[Ti]at hn;have a1:=Tn hn.1;have a2:=Tn hn.2;refine xh c h λes h1=>?_
       obtain⟨k1,k2,k3⟩:=I.es _ _ h1;refine tr (Q1 _ _ _) (s_call hX NM n1 yX (Nat.sub_le _ _) ?_ (bF (k3 a Tt) _ _) (pj λe z=>k3 e (Tp _ z)) k1);rw[k2,U7,TN]
       lia
      ·cases h
    ·split at h
     ·rename_i hbl;have hm:=gx.bl f (gu hbl);split at h
      ·cases h
      split at h
      ·rename_i hisi;have ef:=TY hisi;subst ef;unfold IP at h
       (try dsimp only at h)
       split at h
       ·refine bx h ?_;clear h;intro t ht h;obtain rfl:=rW ht;obtain⟨t,tp⟩:=t;dsimp only at h;split at h
        ·rename_i hg2;rw[Ti]at hg2;refine pB c h λT h1 a' h2=>?_
         have tn:t≠"__name__"/\(t==("__debug__":Str))=G':=by
          unfold sZ at h1;split at h1
          ·rename_i e;rw[TY e];exact#[by decide,by decide]
          split at h1
          ·rename_i e;rw[TY e];exact#[by decide,by decide]
          split at h1
          ·rename_i e;rw[TY e];exact#[by decide,by decide]
          split at h1
          ·rename_i e;rw[TY e];exact#[by decide,by decide]
          split at h1
          ·rename_i e;rw[TY e];exact#[by decide,by decide]
          ·cases h1
         exact tr (PK _ _) (KI hK NM hm (gx.gl t hg2.1) (gx.bl t (gu hg2.2)) h1 tn.1 tn.2 (bF (I.e _ _ h2).2.2 _ _) (I.e _ _ h2).1)
        ·cases h
       ·cases h
      ·have regular:∀{c:C},pC (λ_=>lJ n) n g Γ f a as=U c->PE X (.Call (.Name f p) (a::as) [] pos) (bj Φ Γ F g.fr c)/\PT X (.Call (.Name f p) (a::as) [] pos) (ez Φ Γ F c):=λ {c} h=>by
        refine pB c h λb h1 es h2=>?_
        obtain⟨k1,k2,k3⟩:=I.es _ _ h2;exact tr (PK _ _) (OT hK gx NM hm hg.2 h1 (bF (k3 a Tt) _ _) (pj λe z=>k3 e (Tp _ z)) k1)
       unfold IQ at h
       (try dsimp only at h)
       split at h
       ·split at h
        ·rename_i h0 xs ip vW;obtain rfl:=yd vW;split at h
         ·rename_i r rp hf;obtain rfl:=iU hf rfl;split at h
          ·split at h
           ·cases h
           split at h
           ·cases h
           ·exact regular h
          ·split at h
           ·cases h
           ·exact regular h
          ·exact regular h
         ·exact regular h
         ·exact regular h
        ·exact regular h
       ·exact regular h
     ·cases h
   ·cases h
end
structure OI(Φ:Fm)(W:Addr->Prop)(o:Ow):Prop where
 w:o.W=W
 d:∀a,Φ.d0=U a->o.dr=U a
structure SO(Φ:Fm)(Γ:Gm)(W:Addr->Prop)(o:Ow)(H:Hp)(ρ':aj)(S':Sx)(σ':L2.St)(H':Hp):Prop where
 ex:∃o',OI Φ W o'/\ER Φ Γ o' ρ' S' σ' H'/\∀b,o'.A b->o.A b\/H b=y'
 ext:aR o.A H H'
 al:∀b x,H b=U x->∃y,H' b=U y
structure RO(Φ:Fm)(W:Addr->Prop)(fF:Bool)(d:Dt)(S':Sx)(v:V)(H':Hp):Prop where
 val:RV Φ.K W H' v d
 ent:aR (λb=>Φ.d0=U b) Φ.H0 H'
 drw:∀a,Φ.d0=U a->∃ns:List Int,S'=U ns/\H' a=U (.lst (ns.map V.int))
 eD:fF=B'->∀ds,d= .lst ds->∃a xs,v= .ref a/\Φ.H0 a=y'/\H' a=U (.lst xs)/\ar Φ.K (λb=>W b\/b=a) H' xs ds
def bw(Φ:Fm)(Γ:Gm)(W:Addr->Prop)(fF:Bool)(o:Ow)(H:Hp)(D:Ends)(p:Fl×aj×Sx):Prop:=match p.1 with
 |.next=>∀σ' H',SO Φ Γ W o H p.2.1 p.2.2 σ' H'->D.nx σ' H'
 |.brk=>∀σ' H',SO Φ Γ W o H p.2.1 p.2.2 σ' H'->D.bk σ' H'
 |.cnt=>∀σ' H',SO Φ Γ W o H p.2.1 p.2.2 σ' H'->D.ct σ' H'
 |.ret d=>∀v H',RO Φ W fF d p.2.2 v H'->D.rt v H'
inductive iP(Φ:Fm)(Γ:Gm)(F:FT)(W:Addr->Prop)(fF:Bool)(t:T)(D:Ends)(σ:L2.St)(H:Hp):Prop
 |mk (o:Ow) (ρ:aj) (S:Sx) (i:OI Φ W o) (e:ER Φ Γ o ρ S σ H) (m:mR Φ.Ek (ex F t ρ S) (bw Φ Γ W fF o H D)):iP Φ Γ F W fF t D σ H
inductive jd(Φ:Fm)(Γ:Gm)(F:FT)(W:Addr->Prop)(fF:Bool)(t:Ts)(D:Ends)(σ:L2.St)(H:Hp):Prop
 |mk (o:Ow) (ρ:aj) (S:Sx) (i:OI Φ W o) (e:ER Φ Γ o ρ S σ H) (m:mR Φ.Ek (az F t ρ S) (bw Φ Γ W fF o H D)):jd Φ Γ F W fF t D σ H
theorem bq{X:Cx}{e:Stmt}{t t':TS}(h:PS X e t)(hi:∀D σ H,t' D σ H->t D σ H):PS X e t':=λJ' s σ H D I q=>h J' s σ H D I (hi D σ H q)
theorem u7{X:Cx}{e:List Stmt}{t t':TS}(h:oY X e t)(hi:∀D σ H,t' D σ H->t D σ H):oY X e t':=λJ' s σ H D I q=>h J' s σ H D I (hi D σ H q)
section
variable{X:Cx}{Φ:Fm}{Γ:Gm}{F:FT}{g:G}{W:Addr->Prop}{fF:Bool}{o:Ow}{ρ:aj}{S:Sx}{σ:L2.St}{H H':Hp}
theorem ER.dA(er:ER Φ Γ o ρ S σ H){H1:Hp}(e:aR o.d H H1):aR o.A H H1:=e.mono er.da
theorem ER.Dy{S1:Sx}{ρ1:aj}{σ1:L2.St}{H1:Hp}(aC:ER Φ Γ o ρ1 S1 σ1 H1)(e:aR o.d H H1):∀b x,H b=U x->∃y,H1 b=U y:=λb x h=>e.al h λz=>aC.al b (aC.da b z)
theorem SO.eR{S':Sx}{ρ':aj}{σ':L2.St}(oi:OI Φ W o)(er:ER Φ Γ o ρ' S' σ' H')(e:aR o.d H H'):SO Φ Γ W o H ρ' S' σ' H':=#[#[o,oi,er,λb z=>.inl z],e.mono er.da,er.Dy e]
theorem SO.go{o':Ow}{H1 H2:Hp}{ρ2:aj}{S2:Sx}{σ2:L2.St}(e:aR o.A H H1)(hA:∀b,o'.A b->o.A b\/H b=y')(DG:∀b x,H b=U x->∃y,H1 b=U y)(h:SO Φ Γ W o' H1 ρ2 S2 σ2 H2):SO Φ Γ W o H ρ2 S2 σ2 H2:=by
 obtain⟨⟨o2,F7,cY,BN⟩,e2,a2⟩:=h;refine#[#[o2,F7,cY,λb z=>?_],#[λb x h n=>?_,λb xs h=>e2.tp _ _ (e.tp _ _ h)],λb x h=>?_]
 ·rcases BN b z with q|q
  ·exact hA b q
  ·refine .inr ?_;cases hb:H b with
   |none=>rfl
   |some x=>obtain⟨y,hy⟩:=DG b x hb;rw[q]at hy;cases hy
 ·refine e2.kp _ _ (e.kp _ _ h n) λz=>?_
  rcases hA b z with q|q
  ·exact n q
  ·rw[h]at q;cases q
 ·obtain⟨y,hy⟩:=DG b x h;exact a2 b y hy
theorem jT{fr:Nat->Bool}{c:C}{d:Dt}{v:V}{H1:Hp}(h:cJ c d=B')(eo:EO Φ.K fr o c H d v H1):RV Φ.K o.A H1 v d:=by
 unfold cJ at h;rw[Ui]at h;rcases h with h|h
 ·exact eo.de (Tn h)
 ·exact eo.val.uS h
theorem Ea{i:Nat}{c:C}{st:Stmt}(hp:plainS Γ i=B')(h:PS X st (oS (bj Φ Γ F g.fr c) (eY i))):PS X st (iP Φ Γ F W fF (.asg i c)):=bq h λD σ H q=>by obtain⟨o,ρ,S,oi,er,q⟩:=q;rw[jP]at q;rw[aa]at q;refine#[o,ρ,S,er,ag q λp _ q v H1 eo aC=>?_];obtain⟨gs,q⟩:=aI q;exact q _ _ (SO.eR oi (aC.set hp (jT gs eo)) eo.ext)
theorem Lp{i:Nat}{c:C}{st:Stmt}(hp:plainS Γ i=B')(h:PS X st (K7 i (bj Φ Γ F g.fr c) (Qr λi j=>i+j))):PS X st (iP Φ Γ F W fF (.aug i c)):=bq h λD σ H q=>by
 obtain⟨o,ρ,S,oi,er,q⟩:=q;rw[vh,aa]at q;obtain⟨d,hr,q⟩:=jC q;rw[aa]at q;obtain⟨v,h1,h2⟩:=er.val i _ hr;unfold plainS at hp;have pX:ff Γ i=G':=by rw[Ti]at hp;simpa using hp.1
 rw[V1 (by rw[pX];simp)]at h2;refine#[v,h1,o,ρ,S,er,ag q λp _ q y H1 eo aC=>?_];cases d with
 |int a=>
  cases hd:p.1 with
  |int b=>rw[hd]at q;have hv:=eo.val;rw[hd]at hv;exact#[a,b,h2.int_inv,hv.int_inv,q _ _ (SO.eR oi (aC.set (d:=.int (a+b)) hp RV.eL) eo.ext)]
  |_=>rw[hd]at q;exact q.elim
 |_=>exact q.elim
theorem Hz{i:Nat}{c:C}{st:Stmt}(hp:plainS Γ i=B')(hf:fresh g.fr c=B')(h:PS X st (oS (bj Φ Γ F g.fr c) (eY i))):PS X st (iP Φ Γ F W fF (.asgM i c)):=bq h λD σ H q=>by
 obtain⟨o,ρ,S,oi,er,q⟩:=q;rw[lh]at q;rw[aa]at q;refine#[o,ρ,S,er,ag q λp _ q v H1 eo aC=>?_];obtain⟨gs,q⟩:=aI q;have hv:RV Φ.K o.A H1 v p.1:=by
  by_cases hd:∃ds,p.1= .lst ds
  ·obtain⟨ds,hd⟩:=hd;obtain⟨a,xs,rfl,h1,h2,h3,h4⟩:=eo.eD hf ds hd;have na:¬o.A a:=λz=>by obtain⟨x,hx⟩:=er.al a z;rw[h1]at hx;cases hx
   rw[hd]at gs ⊢;refine RV.eM h2 na ?_;unfold jm at gs;rcases UD.mp gs with z|z
   ·exact(h4 (Tn z)).weak λb w=>.inl w
   ·exact h3.oq z
  ·refine jT ?_ eo;unfold jm at gs;unfold cJ;cases hq:p.1 with
   |lst ds=>exact absurd #[ds,hq] hd
   |_=>rw[hq]at gs;exact gs
 exact q _ _ (SO.eR oi (aC.set hp hv) eo.ext)
theorem ER.own{S1:Sx}{H1:Hp}{fr:Nat->Bool}{c:C}{d:Dt}{v:V}{i:Nat}(oi:OI Φ W o)(er:ER Φ Γ o ρ S σ H)(aC:ER Φ Γ o ρ S1 σ H1)(hm:ff Γ i=B')(hδ:Γ.δ≠U i)(hf:fresh fr c=B')(hl:jm c d=B')(eo:EO Φ.K fr o c H d v H1):
  ∃o',OI Φ W o'/\ER Φ Γ o' (ρ.set i (U d)) S1 (σ.set i (U v)) H1/\∀b,o'.A b->o.A b\/H b=y':=by
 by_cases hd:∃ds,d= .lst ds
 ·obtain⟨ds,rfl⟩:=hd;obtain⟨a,xs,rfl,h1,h2,h3,h4⟩:=eo.eD hf ds rfl;have h4:ar Φ.K (λb=>o.A b\/b=a) H1 xs ds:=by
   unfold jm at hl;rcases UD.mp hl with l|l
   ·exact h4 (Tn l)
   ·exact h3.oq l
  have nA:¬o.A a:=λz=>by obtain⟨y,hy⟩:=er.al a z;rw[h1]at hy;cases hy
  have h0:Φ.H0 a=y':=by
   cases q:Φ.H0 a with
   |none=>rfl
   |some x=>
    by_cases xo:Φ.d0=U a
    ·exact absurd (er.da a (oi.d a xo)) nA
    ·rw[er.ent.kp a x q xo]at h1;cases h1
  have av:∀b,(o.A b\/b=a)->o.A b\/H b=y':=λb z=>z.elim .inl λe=>.inr (by rw[e];exact h1)
  have dA:∀b,o.d b->(o.A b\/b=a):=λb z=>.inl (er.da b z)
  refine#[#[o.W,λb=>o.A b\/b=a,o.dr],#[oi.w,oi.d],#[?_,λb z=>.inl (er.wa b z),λb z=>.inl (er.da b z),λb z=>?_,λj e he=>?_,Dk.set er.dk rfl,λj j' b e e' m m' k1 k2 k3 k4=>?_,aC.drw,aC.drn,λj b hj hb=>?_,aC.dr0,aC.ent],av]
  ·rw[Vc,Vc];exact er.len
  ·rcases z with z|z
   ·exact aC.al b z
   ·rw[z];exact#[_,h2]
  ·by_cases hj:j=i
   ·subst hj;rw[U2]at he;simp only[V3]at he;split at he
    ·rename_i cZ;cases he;refine#[.ref a,by rw[Uo (by rw[er.len];exact cZ)],?_];rw[V2 hm];exact#[a,xs,rfl,h2,.inr rfl,λz=>nA (er.wa a z),λz=>nA (er.da a z),h0,h4]
    ·cases he
   ·rw[TL (VM hj)]at he;obtain⟨w,k1,k2⟩:=er.val j e he;refine#[w,by rw[TL (VM hj)];exact k1,?_];by_cases hmj:ff Γ j=B'
    ·rw[V2 hmj]at k2 ⊢;cases e with
     |lst es=>obtain⟨b,ys,e1,e2,e3,e4,e5,e6,e7⟩:=k2;exact#[b,ys,e1,eo.ext.kp _ _ e2 e5,.inl e3,e4,e5,e6,(e7.df av).mono eo.ext dA λ_ z=>z]
     |gv=>exact k2.elim
     |_=>exact(RV.df av k2).mono eo.ext dA λ_ z=>z
    ·rw[V1 hmj]at k2 ⊢;exact(k2.df av).mono eo.ext dA λ_ z=>z
  ·
   have other:∀{j:Nat}{e:List Dt}{b:Addr},j≠i->ff Γ j=B'->(ρ.set i (U (.lst ds)))[j]?=U (U (.lst e))->(σ.set i (U (.ref a)))[j]?=U (U (.ref b))->b≠a/\ρ[j]?=U (U (.lst e))/\σ[j]?=U (U (.ref b)):=λ {j e b} hj m k1 k3=>by rw[TL (VM hj)]at k1 k3;obtain⟨w,n1,n2⟩:=er.val j _ k1;rw[V2 m]at n2;obtain⟨b',ys,e1,e2,_⟩:=n2;rw[k3]at n1;cases n1;cases e1;refine#[λz=>?_,k1,k3];rw[z,h1]at e2;cases e2
   by_cases hj:j=i
   ·by_cases A9:j'=i
    ·rw[hj,A9]
    ·obtain⟨n,_,_⟩:=other A9 m' k2 k4;subst hj;have cZ:j<σ.length:=by have:=(To.mp k3).1;rw[Vc]at this;exact this
     rw[Uo cZ]at k3;cases k3;exact absurd rfl n
   ·obtain⟨n,p1,p2⟩:=other hj m k1 k3;by_cases A9:j'=i
    ·subst A9;have cZ:j'<σ.length:=by have:=(To.mp k4).1;rw[Vc]at this;exact this
     rw[Uo cZ]at k4;cases k4;exact absurd rfl n
    ·obtain⟨_,p3,p4⟩:=other A9 m' k2 k4;exact er.inj j j' b e e' m m' p1 p3 p2 p4
  ·rw[TL (λz=>hδ (by rw[z];exact hj))];exact aC.drs j b hj hb
 ·
  have nl:∀e,d≠ .lst e:=λe z=>hd #[e,z]
  have hv:RV Φ.K o.A H1 v d:=by
   unfold jm at hl;rcases UD.mp hl with l|l
   ·exact eo.de (Tn l)
   ·cases d with
    |lst ds=>exact absurd rfl (nl ds)
    |_=>exact eo.val.uS l
  refine#[o,oi,#[?_,aC.wa,aC.da,aC.al,λj e he=>?_,Dk.set aC.dk hv.nd,λj j' b e e' m m' k1 k2 k3 k4=>?_,aC.drw,aC.drn,λj b hj hb=>?_,aC.dr0,aC.ent],λb z=>.inl z]
  ·rw[Vc,Vc];exact er.len
  ·by_cases hj:j=i
   ·subst hj;rw[U2]at he;simp only[V3]at he;split at he
    ·rename_i cZ;cases he;refine#[v,by rw[Uo (by rw[er.len];exact cZ)],?_];rw[V2 hm];cases d with
     |lst ds=>exact absurd rfl (nl ds)
     |gv=>cases hv.nd
     |_=>exact hv
    ·cases he
   ·rw[TL (VM hj)]at he;obtain⟨w,k1,k2⟩:=aC.val j e he;exact#[w,by rw[TL (VM hj)];exact k1,k2]
  ·have other:∀{j:Nat}{e:List Dt},(ρ.set i (U d))[j]?=U (U (.lst e))->j≠i:=λ {j e} k1 z=>by
    subst z;rw[U2]at k1;simp only[V3]at k1;split at k1
    ·cases k1;exact nl e rfl
    ·cases k1
   have n1:=other k1;have n2:=other k2;rw[TL (VM n1)]at k1 k3;rw[TL (VM n2)]at k2 k4;exact aC.inj j j' b e e' m m' k1 k2 k3 k4
  ·rw[TL (λz=>hδ (by rw[z];exact hj))];exact aC.drs j b hj hb
theorem Hy{i:Nat}{c:C}{st:Stmt}(hm:ff Γ i=B')(hδ:Γ.δ≠U i)(hf:fresh g.fr c=B')(h:PS X st (oS (bj Φ Γ F g.fr c) (eY i))):PS X st (iP Φ Γ F W fF (.asgM i c)):=bq h λD σ H q=>by obtain⟨o,ρ,S,oi,er,q⟩:=q;rw[lh]at q;rw[aa]at q;refine#[o,ρ,S,er,ag q λp _ q v H1 eo aC=>?_];obtain⟨gs,q⟩:=aI q;exact q _ _ #[ER.own oi er aC hm hδ hf gs eo,er.dA eo.ext,aC.Dy eo.ext]
end
section
variable{X:Cx}{Φ:Fm}{Γ:Gm}{F:FT}{g:G}{W:Addr->Prop}{fF:Bool}{o:Ow}{ρ:aj}{S:Sx}{σ:L2.St}{H H':Hp}
theorem n9{Ek:Nat->Prop}{ρ:aj}{i:Nat}{P:List Dt->Prop}(h:mR Ek (kJ ρ i) P):∃ds,ρ[i]?=U (U (.lst ds))/\P ds:=by
 unfold kJ at h;split at h
 ·exact#[_,by assumption,h]
 ·exact h.elim
theorem AI{a:Addr}{u:HO}:∀b x,H b=U x->∃y,upd H a u b=U y:=λb x h=>by
 by_cases z:b=a
 ·subst z;exact#[_,aJ]
 ·exact#[x,by rw[aG z];exact h]
theorem uC{ρ:aj}{i:Nat}(h:isLE ρ i=B'):∃ds,ρ[i]?=U (U (.lst ds)):=by
 unfold isLE at h;split at h
 ·exact#[_,by assumption]
 ·cases h
theorem ER.chg{i:Nat}{a:Addr}{ds es:List Dt}{xs ys:List V}(er:ER Φ Γ o ρ S σ H)(hm:ff Γ i=B')(hr:ρ[i]?=U (U (.lst ds)))(hs:σ[i]?=U (U (.ref a)))(hx:H a=U (.lst xs))(hy:ar Φ.K o.A H ys es):
  ER Φ Γ o (ρ.set i (U (.lst es))) S σ (upd H a (.lst ys))/\aR o.A H (upd H a (.lst ys))/\∀b x,H b=U x->∃y,upd H a (.lst ys) b=U y:=by
 obtain⟨v,h1,h2⟩:=er.val i _ hr;rw[V2 hm]at h2;rw[hs]at h1;cases h1;obtain⟨b,zs,e1,e2,e3,e4,e5,e6,e7⟩:=h2;cases e1;have up:aR (λb=>b=a) H (upd H a (.lst ys)):=#[λb o h n=>by rw[aG n];exact h,Mx.qz hx];have sub:∀b,b=a->o.A b:=λb z=>by rw[z];exact e3
 refine#[#[by rw[Vc];exact er.len,er.wa,er.da,λb hb=>?_,λj d hd=>?_,Dk.set er.dk rfl,λj j' b d d' m m' k1 k2 k3 k4=>?_,λb hb=>?_,er.drn,er.drs,er.dr0,?_],up.mono sub,AI]
 ·obtain⟨x,hx⟩:=er.al b hb;exact AI b x hx
 ·by_cases hj:j=i
  ·subst hj;rw[U2]at hd;simp only[V3]at hd;split at hd
   ·cases hd;refine#[.ref a,hs,?_];rw[V2 hm];exact#[a,ys,rfl,aJ,e3,e4,e5,e6,hy.mono up sub λ_ z=>z]
   ·cases hd
  ·rw[TL (VM hj)]at hd;obtain⟨w,k1,k2⟩:=er.val j d hd;refine#[w,k1,?_];by_cases hmj:ff Γ j=B'
   ·rw[V2 hmj]at k2 ⊢;cases d with
    |lst dl=>obtain⟨b,SE,n1,n2,n3,n4,n5,n6,n7⟩:=k2;refine#[b,SE,n1,up.kp _ _ n2 (λz=>?_),n3,n4,n5,n6,n7.mono up sub λ_ z=>z];subst n1 z;exact hj (er.inj j i b dl ds hmj hm hd hr k1 hs)
    |gv=>exact k2.elim
    |_=>exact RV.mono up sub (λ_ z=>z) k2
   ·rw[V1 hmj]at k2 ⊢;exact k2.mono up sub λ_ z=>z
 ·have same:∀{j:Nat}{d:List Dt},(ρ.set i (U (.lst es)))[j]?=U (U (.lst d))->∃d',ρ[j]?=U (U (.lst d')):=λ {j d} q=>by
   by_cases hj:j=i
   ·subst hj;exact#[ds,hr]
   ·rw[TL (VM hj)]at q;exact#[d,q]
  obtain⟨d1,q1⟩:=same k1;obtain⟨d2,q2⟩:=same k2;exact er.inj j j' b d1 d2 m m' q1 q2 k3 k4
 ·obtain⟨ns,n1,n2⟩:=er.drw b hb;exact#[ns,n1,up.kp _ _ n2 λz=>e5 (by rw[<-z];exact hb)]
 ·refine#[λb x h n=>up.kp _ _ (er.ent.kp b x h n) λz=>?_,λb xs h=>up.tp _ _ (er.ent.tp b xs h)];subst z;rw[h]at e6;cases e6
theorem kT{i:Nat}{ds:List Dt}(er:ER Φ Γ o ρ S σ H)(hm:ff Γ i=B')(hr:ρ[i]?=U (U (.lst ds))):∃a xs,σ[i]?=U (U (.ref a))/\H a=U (.lst xs)/\ar Φ.K o.A H xs ds:=by obtain⟨v,h1,h2⟩:=er.val i _ hr;rw[V2 hm]at h2;obtain⟨a,xs,e1,e2,e3,e4,e5,e6,e7⟩:=h2;subst e1;exact#[a,xs,h1,e2,e7]
theorem Lo{i:Nat}{c:C}{st:Stmt}(hm:ff Γ i=B')(h:PS X st (vC (QH X.K "list" vj (lC i) (D4 (bj Φ Γ F g.fr c) Lc)))):PS X st (iP Φ Γ F W fF (.app i c)):=bq h λD σ H q=>by obtain⟨o,ρ,S,oi,er,q⟩:=q;rw[vg]at q;obtain⟨gl,q⟩:=aI q;obtain⟨ds,hr⟩:=uC gl;obtain⟨a,xs,h1,h2,h3⟩:=kT er hm hr;rw[aa]at q;refine#[.ref a,h1,.inl #[rfl,_,du.of h2],o,ρ,S,er,ag q λp _ q v H1 eo aC=>?_];obtain⟨gs,q⟩:=aI q;rw[aa]at q;obtain⟨xi,e1,q⟩:=n9 q;rw[hr]at e1;cases e1;obtain⟨gl,q⟩:=aI q;obtain⟨a',Bg,yQ,yR,Jl⟩:=kT aC hm hr;rw[h1]at yQ;cases yQ;have jD:=cM;have mh:=Wc;have SY:lim=1000000:=rfl;have Mb:=Tn gl;refine#[a,Bg,v,rfl,rfl,yR,by rw[Jl.length];lia,?_];obtain⟨k1,k2,k3⟩:=aC.chg hm hr h1 yR (Jl.append (ar.cons (jT gs eo) ar.nil));exact q _ _ (SO.go (er.dA eo.ext) (λb z=>.inl z) (aC.Dy eo.ext) #[#[o,oi,k1,λb z=>.inl z],k2,k3])
theorem Lr{i:Nat}{st:Stmt}(hm:ff Γ i=B')(h:PS X st (vC (K8 X.K "list" Aj (lC i)))):PS X st (iP Φ Γ F W fF (.clr i)):=bq h λD σ H q=>by obtain⟨o,ρ,S,oi,er,q⟩:=q;rw[CY]at q;rw[aa]at q;obtain⟨ds,hr,q⟩:=n9 q;obtain⟨a,xs,h1,h2,h3⟩:=kT er hm hr;obtain⟨k1,k2,k3⟩:=er.chg hm hr h1 h2 (ar.nil (K:=Φ.K) (A:=o.A));exact#[.ref a,h1,.inl #[rfl,_,du.of h2],a,xs,rfl,rfl,h2,q _ _ #[#[o,oi,k1,λb z=>.inl z],k2,k3]]
theorem HF{i:Nat}{k v:C}{st:Stmt}(hm:ff Γ i=B')(h:PS X st (oS (bj Φ Γ F g.fr v) (Jh (lC i) (bj Φ Γ F g.fr k) DZ))):PS X st (iP Φ Γ F W fF (.wR i k v)):=bq h λD σ H q=>by
 obtain⟨o,ρ,S,oi,er,q⟩:=q;rw[ql]at q;obtain⟨gl,q⟩:=aI q;obtain⟨ds,hr⟩:=uC gl;obtain⟨a,xs,h1,h2,h3⟩:=kT er hm hr;rw[aa]at q;refine#[o,ρ,S,er,ag q λp _ q x H1 eo aC=>?_];rw[aa]at q;refine#[.ref a,h1,o,ρ,p.2,aC,ag q λp2 _ q y H2 eo2 cY=>?_];obtain⟨gs,q⟩:=aI q;rw[aa]at q;obtain⟨xi,e1,q⟩:=n9 q;rw[hr]at e1;cases e1;obtain⟨a',Bg,yQ,yR,Jl⟩:=kT cY hm hr;rw[h1]at yQ;cases yQ;cases hd:p2.1 with
 |int n=>
  rw[hd]at q eo2;simp only at q;cases hj:o7 ds.length n with
  |none=>rw[hj]at q;exact q.elim
  |some j=>
   rw[hj]at q;have hx:RV Φ.K o.A H2 x p.1:=by
    unfold cJ at gs;rw[Ui]at gs;obtain⟨k1,k2,k3⟩:=eo.keep eo2.ext er.eU;rcases gs with gs|gs
    ·exact k2 (Tn gs)
    ·exact k1.uS gs
   refine#[a,Bg,n,j,rfl,eo2.val.int_inv,yR,by rw[Jl.length];exact hj,?_];obtain⟨k1,k2,k3⟩:=cY.chg hm hr h1 yR (Jl.set j hx);exact q _ _ (SO.go (er.dA (eo.ext.trans eo2.ext)) (λb z=>.inl z) (cY.Dy (eo.ext.trans eo2.ext)) #[#[o,oi,k1,λb z=>.inl z],k2,k3])
 |_=>rw[hd]at q;exact q.elim
theorem Lu{c:C}{st:Stmt}(h:PS X st (vC (bj Φ Γ F g.fr c))):PS X st (iP Φ Γ F W fF (.HS c)):=bq h λD σ H q=>by obtain⟨o,ρ,S,oi,er,q⟩:=q;rw[vi]at q;rw[aa]at q;exact#[o,ρ,S,er,ag q λp _ q v H1 eo aC=>q _ _ (SO.eR oi aC eo.ext)]
theorem HA{is:List Nat}{c:C}{st:Stmt}(hK:Φ.K=X.K)(hp:∀i∈is,plainS Γ i=B')(h:PS X st (oS (bj Φ Γ F g.fr c) (Mx.pO X.K is.length (qw is)))):PS X st (iP Φ Γ F W fF (.asgT is c)):=bq h λD σ H q=>by obtain⟨o,ρ,S,oi,er,q⟩:=q;rw[fH]at q;rw[aa]at q;refine#[o,ρ,S,er,ag q λp _ q v H1 eo aC=>?_];obtain⟨gs,q⟩:=aI q;rw[aa]at q;obtain⟨ρ1,hρ,q⟩:=kL (Ao _ _ _) q;rw[<-hK];exact Dc aC hp (jT gs eo) hρ λσ1 cY _=>q _ _ (SO.eR oi cY eo.ext)
theorem ER.h0{a:Addr}(oi:OI Φ W o)(er:ER Φ Γ o ρ S σ H)(h:H a=y'):Φ.H0 a=y':=by
 cases q:Φ.H0 a with
 |none=>rfl
 |some x=>
  by_cases xo:Φ.d0=U a
  ·obtain⟨y,hy⟩:=er.al a (er.da a (oi.d a xo));rw[h]at hy;cases hy
  ·rw[er.ent.kp a x q xo]at h;cases h
theorem Eb{c:C}{st:Stmt}(hf:fF=B'->fresh g.fr c=B')(h:PS X st (Hl (bj Φ Γ F g.fr c))):PS X st (iP Φ Γ F W fF (.ret c)):=bq h λD σ H q=>by
 obtain⟨o,ρ,S,oi,er,q⟩:=q;rw[jQ]at q;rw[aa]at q;refine#[o,ρ,S,er,ag q λp P7 q v H1 eo aC=>?_];have hw:∀b,W b->o.wd b:=λb z=>.inl (by rw[oi.w];exact z)
 refine q _ _ #[eo.val.weak hw,aC.ent,λa ha=>aC.drw a (oi.d a ha),λhfF ds ed=>?_];obtain⟨a,xs,h1,h2,h3,h4,_⟩:=eo.eD (hf hfF) ds ed;exact#[a,xs,h1,er.h0 oi h2,h3,h4.weak λb z=>z.imp (hw b) id]
theorem HD{i:Nat}{st:Stmt}(hm:ff Γ i=B')(hκ:Γ.κ≠U i)(h:PS X st (Hl (lC i))):PS X st (iP Φ Γ F W fF (.ret (.mvr i))):=bq h λD σ H q=>by
 obtain⟨o,ρ,S,oi,er,q⟩:=q;rw[jQ,oH]at q;rw[aa,aa]at q;obtain⟨d,hd,q⟩:=jC q;obtain⟨v,k1,k2⟩:=er.val i d hd;rw[V2 hm]at k2;have hw:∀b,W b->o.wd b:=λb z=>.inl (by rw[oi.w];exact z)
 have Se:∀b,W b->o.A b:=λb z=>er.wa b (by rw[oi.w];exact z)
 refine#[v,k1,q _ _ #[(k2.val (er.nd hd hκ) er.wa er.da).weak hw,er.ent,λa ha=>er.drw a (oi.d a ha),λhfF ds ed=>?_]];simp only at ed;subst ed;obtain⟨a,xs,e1,e2,e3,e4,e5,e6,e7⟩:=k2;exact#[a,xs,e1,e6,e2,e7.weak λb z=>z.elim (Se b) λy=>by rw[y];exact e3]
theorem HE{st:Stmt}(h:PS X st D6):PS X st (iP Φ Γ F W fF .retN):=bq h λD σ H q=>by obtain⟨o,ρ,S,oi,er,q⟩:=q;exact q _ _ #[RV.oh,er.ent,λa ha=>er.drw a (oi.d a ha),λ_ ds ed=>by cases ed]
theorem HC{st:Stmt}(h:PS X st AB):PS X st (iP Φ Γ F W fF .Gq):=bq h λD σ H q=>by obtain⟨o,ρ,S,oi,er,q⟩:=q;exact q _ _ (SO.eR oi er aR.refl)
theorem Lq{st:Stmt}(h:PS X st Ay):PS X st (iP Φ Γ F W fF .brk):=bq h λD σ H q=>by obtain⟨o,ρ,S,oi,er,q⟩:=q;exact q _ _ (SO.eR oi er aR.refl)
theorem Ls{st:Stmt}(h:PS X st D5):PS X st (iP Φ Γ F W fF .cnt):=bq h λD σ H q=>by obtain⟨o,ρ,S,oi,er,q⟩:=q;exact q _ _ (SO.eR oi er aR.refl)
theorem bw.go{o':Ow}{H1:Hp}{D D':Ends}{p:Fl×aj×Sx}(e:aR o.A H H1)(hA:∀b,o'.A b->o.A b\/H b=y')(DG:∀b x,H b=U x->∃y,H1 b=U y)
  (hn:∀σ' H',D.nx σ' H'->D'.nx σ' H') (hb:∀σ' H',D.bk σ' H'->D'.bk σ' H') (hc:∀σ' H',D.ct σ' H'->D'.ct σ' H') (hr:∀v H',D.rt v H'->D'.rt v H') (h:bw Φ Γ W fF o H D p):bw Φ Γ W fF o' H1 D' p:=by
 unfold bw at h ⊢;cases hp:p.1 with
 |next=>rw[hp]at h;exact λσ' H' so=>hn _ _ (h σ' H' (SO.go e hA DG so))
 |brk=>rw[hp]at h;exact λσ' H' so=>hb _ _ (h σ' H' (SO.go e hA DG so))
 |cnt=>rw[hp]at h;exact λσ' H' so=>hc _ _ (h σ' H' (SO.go e hA DG so))
 |ret d=>rw[hp]at h;exact λv H' ro=>hr _ _ (h v H' ro)
theorem AR:oY X [] (jd Φ Γ F W fF .nil):=u7 CK λD σ H q=>by obtain⟨o,ρ,S,oi,er,q⟩:=q;exact q _ _ (SO.eR oi er aR.refl)
theorem Dm{st:Stmt}{lH:List Stmt}{t:T}{ts:Ts}(h1:PS X st (iP Φ Γ F W fF t))(h2:oY X lH (jd Φ Γ F W fF ts)):oY X (st::lH) (jd Φ Γ F W fF (.cons t ts)):=u7 (qg h1 h2) λD σ H q=>by
 obtain⟨o,ρ,S,oi,er,q⟩:=q;rw[aX]at q;rw[aa]at q;refine#[o,ρ,S,oi,er,ag q λp _ q=>?_];unfold bw;cases hp:p.1 with
 |next=>rw[hp]at q;intro σ1 H1 so;obtain⟨⟨o1,Oz,aC,NJ⟩,e1,a1⟩:=so;exact#[o1,p.2.1,p.2.2,Oz,aC,ag q λp2 _ q=>bw.go e1 NJ a1 (λ_ _ z=>z) (λ_ _ z=>z) (λ_ _ z=>z) (λ_ _ z=>z) q]
 |brk=>rw[hp]at q;exact q
 |cnt=>rw[hp]at q;exact q
 |ret d=>rw[hp]at q;exact q
theorem Lw{t:C}{a b:Ts}{st:Stmt}(h:PS X st (Lb (ez Φ Γ F t) (jd Φ Γ F W fF a) (jd Φ Γ F W fF b))):PS X st (iP Φ Γ F W fF (.ifs t a b)):=bq h λD σ H q=>by
 obtain⟨o,ρ,S,oi,er,q⟩:=q;rw[oI]at q;rw[aa]at q;refine#[o,ρ,S,er,ag q λp _ q H1 e1 aC=>?_];have go:∀{ts:Ts},mR Φ.Ek (az F ts ρ p.2) (bw Φ Γ W fF o H D)->jd Φ Γ F W fF ts D σ H1:=λq=>#[o,ρ,p.2,oi,aC,ag q λp2 _ q=>bw.go (er.dA e1) (λb z=>.inl z) (aC.Dy e1) (λ_ _ z=>z) (λ_ _ z=>z) (λ_ _ z=>z) (λ_ _ z=>z) q]
 cases hp:p.1 with
 |true=>rw[hp]at q;exact Fx (go q)
 |false=>rw[hp]at q;exact Fw (go q)
theorem Lv{tg:Tg}{it:oX}{b:Ts}{st:Stmt}(hK:Φ.K=X.K)(hp:∀i∈bM tg,plainS Γ i=B')(h:PS X st (La (oU Φ Γ F it) (Im X.K tg) (jd Φ Γ F W fF b))):PS X st (iP Φ Γ F W fF (.fr tg it b)):=bq h λD σ H q=>by
 obtain⟨o,ρ,S,oi,er,q⟩:=q;rw[sJ]at q;rw[aa]at q;refine#[o,ρ,S,er,ag q λp _ q J H1 io aC=>?_];obtain⟨gs,q⟩:=aI q;have wk:Wk Φ.K o.A o.A J H1 p.1:=(UD.mp gs).elim (λz=>io.w0 (Tn z)) io.w2;refine#[λi m σ2 H2=>m=p.1.length-i/\i<=p.1.length/\∃o2 ρ2 S2,OI Φ W o2/\ER Φ Γ o2 ρ2 S2 σ2 H2/\aR o.A H1 H2/\(∀b,o2.A b->o.A b\/H1 b=y')/\(∀b x,H1 b=U x->∃y,H2 b=U y)/\mR Φ.Ek (forL tg (az F b) (p.1.drop i) ρ2 S2) (bw Φ Γ W fF o H D),
  #[_,rfl,VL _,o,ρ,p.2,oi,aC,aR.refl,λb z=>.inl z,λb x hx=>#[x,hx],q],?_]
 rintro i m σ2 H2 ⟨rfl,hi,o2,ρ2,S2,F7,cY,e2,BN,LQ,q⟩;have eH:aR o.A H H2:=(er.dA io.ext).trans e2;have aH:∀b x,H b=U x->∃y,H2 b=U y:=λb x hx=>by obtain⟨y,hy⟩:=aC.Dy io.ext b x hx;exact LQ b y hy
 have A1:∀b,o2.A b->o.A b\/H b=y':=λb z=>(BN b z).imp id λq=>by
  cases hb:H b with
  |none=>rfl
  |some x=>obtain⟨y,hy⟩:=aC.Dy io.ext b x hb;rw[q]at hy;cases hy
 by_cases cZ:i<p.1.length
 ·refine .inr #[wk.go i H2 cZ e2,?_];have hd:∃d,p.1[i]?=U d:=#[p.1[i],by simp[cZ]];obtain⟨d0,xo⟩:=hd;have Nt:p.1.drop i=d0::p.1.drop (i+1):=by rw[UV cZ];congr 1;exact(To.mp xo).2
  rw[Nt]at q;unfold forL at q;rw[aa]at q;obtain⟨ρ3,hρ,q⟩:=kL (qt _ _ _) q;rw[aa]at q;refine#[λσ3 H3=>i+1<=p.1.length/\∃o3 ρ3 S3,OI Φ W o3/\ER Φ Γ o3 ρ3 S3 σ3 H3/\aR o.A H1 H3/\(∀b,o3.A b->o.A b\/H1 b=y')/\(∀b x,H1 b=U x->∃y,H3 b=U y)/\mR Φ.Ek (forL tg (az F b) (p.1.drop (i+1)) ρ3 S3) (bw Φ Γ W fF o H D),λσ3 H3 z=>#[p.1.length-(i+1),⋯,rfl,z],λx H3 y=>?_];obtain⟨s3,d,hd,hx⟩:=wk.yld i x H2 H3 cZ e2 y;rw[xo]at hd;cases hd;have zb:=hx o2.A BN;rw[<-hK];refine AE (cY.grow s3) hp zb hρ λσ4 Nx _=>?_
  refine#[o2,ρ3,S2,F7,Nx,ag q λp2 _ q=>?_];have again:∀{σ5:L2.St}{H5:Hp},SO Φ Γ W o2 H3 p2.2.1 p2.2.2 σ5 H5->mR Φ.Ek (forL tg (az F b) (p.1.drop (i+1)) p2.2.1 p2.2.2) (bw Φ Γ W fF o H D)->i+1<=p.1.length/\∃o3 ρ3 S3,OI Φ W o3/\ER Φ Γ o3 ρ3 S3 σ5 H5/\aR o.A H1 H5/\(∀b,o3.A b->o.A b\/H1 b=y')/\(∀b x,H1 b=U x->∃y,H5 b=U y)/\mR Φ.Ek (forL tg (az F b) (p.1.drop (i+1)) ρ3 S3) (bw Φ Γ W fF o H D):=λ {σ5 H5} so q=>by have K2:=SO.go (o:=o) (H:=H1) (e2.trans (aR.of_same s3)) BN (λb x hx=>by obtain⟨y,hy⟩:=LQ b x hx;exact#[y,s3 _ _ hy]) so;obtain⟨⟨o5,Kj,DB,Jm⟩,e5,a5⟩:=K2;exact#[cZ,o5,_,_,Kj,DB,e5,Jm,a5,q]
  unfold bw;cases hJ:p2.1 with
  |next=>rw[hJ]at q;exact λσ5 H5 so=>again so q
  |cnt=>rw[hJ]at q;exact λσ5 H5 so=>again so q
  |brk=>rw[hJ]at q;intro σ5 H5 so;have q:bw Φ Γ W fF o H D (.next,p2.2):=q;unfold bw at q;exact q σ5 H5 (SO.go (eH.trans (aR.of_same s3)) A1 (λb x hx=>by obtain⟨y,hy⟩:=aH b x hx;exact#[y,s3 _ _ hy]) so)
  |ret d=>rw[hJ]at q;have q:bw Φ Γ W fF o H D (.ret d,p2.2):=q;exact q
 ·have e:i=p.1.length:=⋯
  subst e;rw[List.drop_length]at q;have q:bw Φ Γ W fF o H D (.next,ρ2,S2):=q;unfold bw at q;exact .inl #[wk.stop H2 e2,q _ _ #[#[o2,F7,cY,A1],eH,aH]]
theorem Pm{t:C}{b:Ts}{st:Stmt}(h:PS X st (AC (ez Φ Γ F t) (jd Φ Γ F W fF b))):PS X st (iP Φ Γ F W fF (.wh t b)):=bq h λD σ H q=>by
 obtain⟨o,ρ,S,oi,er,q⟩:=q;rw[cX]at q;refine#[λm σ2 H2=>∃o2 ρ2 S2,OI Φ W o2/\ER Φ Γ o2 ρ2 S2 σ2 H2/\aR o.A H H2/\(∀b,o2.A b->o.A b\/H b=y')/\(∀b x,H b=U x->∃y,H2 b=U y)/\mR Φ.Ek (cQ (aQ F t) (az F b) m ρ2 S2) (bw Φ Γ W fF o H D),
  #[_,o,ρ,S,oi,er,aR.refl,λb z=>.inl z,λb x hx=>#[x,hx],q],?_]
 rintro m σ2 H2 ⟨o2,ρ2,S2,F7,cY,e2,BN,LQ,q⟩;cases m with
 |zero=>exact q.elim
 |succ m=>
  unfold cQ at q;rw[aa]at q;refine#[o2,ρ2,S2,cY,ag q λp _ q H3 e3 pH=>?_];have Pp:∀b x,H b=U x->∃y,H3 b=U y:=λb x hx=>by obtain⟨y,hy⟩:=LQ b x hx;exact pH.Dy e3 b y hy
  have PF:aR o.A H H3:=#[λb x hx n=>by
   refine e3.kp _ _ (e2.kp _ _ hx n) λz=>?_
   rcases BN b (cY.da b z)with q|q
   ·exact n q
   ·(rw[hx]at q;cases q),λb xs hx=>e3.tp _ _ (e2.tp _ _ hx)]
  cases hp:p.1 with
  |true=>
   rw[hp]at q;simp only[V3]at q;rw[aa]at q;refine Fx #[λσ4 H4=>∃o2 ρ2 S2,OI Φ W o2/\ER Φ Γ o2 ρ2 S2 σ4 H4/\aR o.A H H4/\(∀b,o2.A b->o.A b\/H b=y')/\(∀b x,H b=U x->∃y,H4 b=U y)/\mR Φ.Ek (cQ (aQ F t) (az F b) m ρ2 S2) (bw Φ Γ W fF o H D),λσ4 H4 z=>#[m,VG _,z],o2,ρ2,p.2,F7,pH,ag q λp2 _ q=>?_];have K2:∀{σ5:L2.St}{H5:Hp},SO Φ Γ W o2 H3 p2.2.1 p2.2.2 σ5 H5->SO Φ Γ W o H p2.2.1 p2.2.2 σ5 H5:=λso=>SO.go PF BN Pp so
   unfold bw;cases hJ:p2.1 with
   |next=>rw[hJ]at q;intro σ5 H5 so;obtain⟨⟨o5,Kj,DB,Jm⟩,e5,a5⟩:=K2 so;exact#[o5,_,_,Kj,DB,e5,Jm,a5,q]
   |cnt=>rw[hJ]at q;intro σ5 H5 so;obtain⟨⟨o5,Kj,DB,Jm⟩,e5,a5⟩:=K2 so;exact#[o5,_,_,Kj,DB,e5,Jm,a5,q]
   |brk=>rw[hJ]at q;intro σ5 H5 so;have q:bw Φ Γ W fF o H D (.next,p2.2):=q;unfold bw at q;exact q σ5 H5 (K2 so)
   |ret d=>rw[hJ]at q;have q:bw Φ Γ W fF o H D (.ret d,p2.2):=q;exact q
  |false=>rw[hp]at q;have q:bw Φ Γ W fF o H D (.next,ρ2,p.2):=q;unfold bw at q;exact Fw (q _ _ #[#[o2,F7,pH,BN],PF,Pp])
end
def mP(g:G)(Γ:Gm):Expr->Option (List Nat)
 |.Constant (.str x) _ _=>if x.length<=1000 then U [] else y'
 |.FormattedValue (.Name x _) (-1) y' _=>if cH x then(match slot Γ x with
  |some i=>U [i]
  |none=>if ue (Γ.names.lookup x) then(match g.cons.lookup x with
   |some (.int n)=>if 0<=n/\n<10^19 then U [] else y'
   |_=>y') else y') else y'
 |_=>y'
def Os(g:G)(Γ:Gm):List Expr->Option (List Nat)
 |[]=>U []
 |e::es=>(mP g Γ e).bind λa=>(Os g Γ es).bind λb=>U (a++b)
def mS(g:G)(Γ:Gm):Expr->Option (List Nat)
 |.Constant (.str _) _ _=>U []
 |.JoinedStr (e1::e2::es) _=>if (e1::e2::es).length<=100 then Os g Γ (e1::e2::es) else y'
 |_=>y'
def pV(vs:List Nat)(σ:L2.St):Prop:=∀i∈vs,∃n:Nat,σ[i]?=U (U (.int n))/\n<10^19
section
variable{g:G}{xv:Nat->Value}{CX:lI}{k:Nat}{F:FT}{X:Cx}{Φ:Fm}{Γ:Gm}{W:Addr->Prop}{fF:Bool}
theorem B9{e:Expr}{vs:List Nat}(h:mS g Γ e=U vs)(env:Env):starEach [e] env=[(G',eval e env)]:=by unfold mS at h;split at h<;>first|rfl|cases h
theorem GD(gx:GX g Γ X){e:Expr}{vs us:List Nat}(h:mP g Γ e=U vs)(hs:∀i∈vs,i∈us):Ir X e (pV us):=by
 unfold mP at h;split at h
 ·split at h
  ·rename_i hl;exact CD hl
  ·cases h
 ·split at h
  ·rename_i ho;obtain⟨n1,n2,n3⟩:=bz ho;split at h
   ·rename_i i hi;cases h;obtain⟨v1,v2,v3⟩:=jS hi;intro J' s σ H Q I hp q;exact CF (by rw[gx.N];exact v3) (gx.vis _ v1) n1 n2 J' s σ H Q I (hp i (hs i (by simp))) q
   ·split at h
    ·rename_i hg;split at h
     ·rename_i n hc;split at h
      ·rename_i hn;obtain⟨u,_,h2,h3⟩:=gx.con _ _ hc;obtain⟨m,rfl⟩:=Int.eq_ofNat_of_zero_le hn.1;exact zR (gx.gl _ hg) h2 h3 ⋯ n1
      ·cases h
     ·cases h
    ·cases h
  ·cases h
 ·cases h
theorem zT(gx:GX g Γ X){us:List Nat}:∀{es:List Expr}{vs:List Nat},Os g Γ es=U vs->(∀i∈vs,i∈us)->Iu X es (pV us)
 |[],vs,_,_=>CG
 |e::es,vs,h,hs=>by obtain⟨a,h1,h⟩:=Te.mp h;obtain⟨b,h2,h⟩:=Te.mp h;cases h;refine zS (GD gx h1 λi hi=>hs i (Vi _ hi)) (zT gx h2 λi hi=>hs i (T8 _ hi)) ?_;unfold mP at h1;split at h1<;>first|rfl|cases h1
theorem Ks(gx:GX g Γ X){e:Expr}{vs:List Nat}(h:mS g Γ e=U vs):PM X e (pV vs):=by
 unfold mS at h;split at h
 ·exact GC
 ·split at h
  ·rename_i hl;exact wG (zT gx h λi hi=>hi) hl
  ·cases h
 ·cases h
theorem HJ{c:Str}{k0:Nat}(h:ze c (g.xs.map (·.1))=U k0):∃ts,g.xs[k0]?=U (c,ts):=by have:=jG h;rw[TQ]at this;obtain⟨⟨a,ts⟩,h1,h2⟩:=TJ.mp this;cases h2;exact#[ts,h1]
theorem Pk{k0:Nat}{vs:List Nat}{ts:List (Str×Bool)}{c:Str}{arg:Expr}{np dR pos:Pos}(hX:HX g xv CX k F Φ X)(gx:GX g Γ X)(hx:g.xs[k0]?=U (c,ts))(hg:Gl X c)(pU:(c==("__debug__":Str))=G')(he:PM X arg (pV vs))(kC:starEach [arg] X.env=[(G',eval arg X.env)]):
  PS X (.Raise (U (.Call (.Name c np) [arg] [] dR)) y' pos) (iP Φ Γ F W fF (.rs k0 vs)):=by
 intro J' s σ H D I q;obtain⟨o,ρ,S,oi,er,q⟩:=q;rw[Ah]at q;obtain⟨hm,q⟩:=aI q;obtain⟨C,e1,e2,e3,_⟩:=hX.xk _ _ _ hx;refine zX (E:=jW Φ xv) (I.ok.hd gx.calm) hX.st.pn hg e2 e3 hX.xgx he kC pU J' s σ H D I #[λi hi=>?_,k0,e1.symm,q,er.ent];have:=Uc.mp hm i hi;unfold wx at this;split at this
 ·rename_i n hn;rw[Ti]at this;obtain⟨m,rfl⟩:=Int.eq_ofNat_of_zero_le (Tn this.1);obtain⟨v,h1,h2⟩:=er.val i _ hn;have h3:RV Φ.K o.A H v (.int (m:Int)):=by split at h2<;>exact h2
  rw[h3.int_inv]at h1;exact#[m,h1,by have:=Tn this.2;lia]
 ·cases this
end
def Fs:Expr->Bool
 |.Tuple ..=>B'
 |.List ..=>B'
 |_=>G'
def kE:Expr->Bool
 |.ListComp ..=>B'
 |.SetComp ..=>B'
 |.DictComp ..=>B'
 |_=>G'
def EC(n:Nat)(g:G)(Γ:Gm)(i:Nat)(e:Expr):Option T:=match e with
 |.Name y p=>match slot Γ y with
  |some j=>if ff Γ j then y' else(cE n g Γ (.Name y p)).bind λc=>U (.asg i c)
  |none=>(cE n g Γ (.Name y p)).bind λc=>U (.asg i c)
 |e=>(cE n g Γ e).bind λc=>U (if fresh g.fr c&&lk c != 0 then .asgM i c else .asg i c)
def EF(n:Nat)(g:G)(Γ:Gm)(fF:Bool)(e:Expr):Option T:=match e with
 |.Name y p=>match slot Γ y with
  |some j=>if ff Γ j then(if Γ.δ==U j||Γ.κ==U j then y' else U (.ret (.mvr j))) else(cE n g Γ (.Name y p)).bind λc=>if fF then y' else U (.ret c)
  |none=>(cE n g Γ (.Name y p)).bind λc=>if fF then y' else U (.ret c)
 |e=>(cE n g Γ e).bind λc=>if !fF||fresh g.fr c then U (.ret c) else y'
def Ky(n:Nat)(g:G)(Γ:Gm)(dp:Bool)(Pf:List Expr)(e:Expr):Option T:=match Pf with
   |[.Name x _]=>(eh Γ x).bind λi=>
     if Γ.δ==U i then y'
     else if ff Γ i then(if Γ.κ==U i then y' else(cE n g Γ e).bind λc=>if fresh g.fr c then U (.asgM i c) else y')
     else EC n g Γ i e
   |[.Tuple es _ _]=>if Fs e then y' else(fB Γ es).bind λis=>(cE n g Γ e).bind λc=>U (.asgT is c)
   |[.Subscript (.Name x _) k _]=>(slot Γ x).bind λi=>if ff Γ i then(cE n g Γ e).bind λv'=>(cE n g Γ k).bind λk'=>if Γ.κ==U i then y' else U (.wR i k' v') else y'
   |_=>y'
def Kz(n:Nat)(g:G)(Γ:Gm)(t:Expr)(o:Operator)(e:Expr):Option T:=match t,o with
   |.Name x _,.Add=>if kE e then y' else(eh Γ x).bind λi=>if plainS Γ i then(cE n g Γ e).bind λc=>U (.aug i c) else y'
   |_,_=>y'
def KA(n:Nat)(g:G)(Γ:Gm)(ex:Expr):Option T:=match ex with
   |.Call (.Attribute (.Name x _) m ap) [a] [] cp=>(slot Γ x).bind λi=>if ff Γ i&&ap.endLine==cp.line then(cE n g Γ a).bind λa'=>
     (if m==("append":Str) then U (.app i a') else y') else y'
   |.Call (.Attribute (.Name x _) m ap) [] [] cp=>(slot Γ x).bind λi=>if ff Γ i&&ap.endLine==cp.line&&m==("clear":Str) then U (.clr i) else y'
   |e=>if kE e then y' else(cE n g Γ e).bind λc=>U (.HS c)
inductive LN where
 |ret (v:Option Expr) (p:Pos)|asg (ts:List Expr) (e:Expr) (p:Pos)|aug (t:Expr) (o:Operator) (e:Expr) (p:Pos)
 |fr (tg it:Expr) (b oZ:List Stmt) (p:Pos)|wh (t:Expr) (b oZ:List Stmt) (p:Pos)|ifs (t:Expr) (a b:List Stmt) (p:Pos)
 |rs (a b:Option Expr) (p:Pos)|tr (b:List Stmt) (hs:List ExceptHandler) (oZ fin:List Stmt) (p:Pos)|ex (e:Expr) (p:Pos)
 |Gq (p:Pos)|brk (p:Pos)|cnt (p:Pos)|oth
def LN.st:LN->Option Stmt
 |.ret v p=>U (.Return v p)
 |.asg ts e p=>U (.Assign ts e p)
 |.aug t o e p=>U (.AugAssign t o e p)
 |.fr tg it b oZ p=>U (.For tg it b oZ p)
 |.wh t b oZ p=>U (.While t b oZ p)
 |.ifs t a b p=>U (.If t a b p)
 |.rs a b p=>U (.Raise a b p)
 |.tr b hs oZ fin p=>U (.Try b hs oZ fin p)
 |.ex e p=>U (.Expr e p)
 |.Gq p=>U (.Pass p)
 |.brk p=>U (.Break p)
 |.cnt p=>U (.Continue p)
 |.oth=>y'
def C6:Stmt->LN
 |.Return v p=>.ret v p
 |.Assign ts e p=>.asg ts e p
 |.AugAssign t o e p=>.aug t o e p
 |.For tg it b oZ p=>.fr tg it b oZ p
 |.While t b oZ p=>.wh t b oZ p
 |.If t a b p=>.ifs t a b p
 |.Raise a b p=>.rs a b p
 |.Try b hs oZ fin p=>.tr b hs oZ fin p
 |.Expr e p=>.ex e p
 |.Pass p=>.Gq p
 |.Break p=>.brk p
 |.Continue p=>.cnt p
 |_=>.oth
theorem Hi(st:Stmt):(C6 st).st=y'\/(C6 st).st=U st:=by cases st<;>first|exact .inr rfl|exact .inl rfl
theorem lq{st s:Stmt}{v:LN}(h:C6 st=v)(e:v.st=U s):st=s:=by rw[<-h]at e;exact(Hi st).elim (λk=>by rw[k]at e;cases e) λk=>VN (k.symm.trans e)
mutual
noncomputable def cS:Nat->G->Gm->Bool->Bool->Stmt->Option T
 |0,_,_,_,_,_=>y'
 |n+1,g,Γ,dp,fF,st=>match C6 st with
  |.asg Pf e _=>Ky n g Γ dp Pf e
  |.aug t o e _=>Kz n g Γ t o e
  |.ex ex _=>KA n g Γ ex
  |.ret v _=>match v with
   |some e=>EF n g Γ fF e
   |none=>U .retN
  |.ifs t a b _=>(cE n g Γ t).bind λt'=>(By n g Γ dp fF a).bind λa'=>(By n g Γ dp fF b).bind λb'=>U (.ifs t' a' b')
  |.fr tg it b oZ _=>match oZ with
   |[]=>(cI n g Γ tg it).bind λgC=>(xY Γ tg).bind λAD=>(By n g Γ dp fF b).bind λb'=>U (.fr AD gC b')
   |_=>y'
  |.wh t b oZ _=>match oZ with
   |[]=>(cE n g Γ t).bind λt'=>(By n g Γ dp fF b).bind λb'=>U (.wh t' b')
   |_=>y'
  |.rs ra rb _=>match ra,rb with
   |some (.Call (.Name c _) [arg] [] _),y'=>if ue (Γ.names.lookup c)&&cH c then(ze c (g.xs.map (·.1))).bind λk=>(mS g Γ arg).bind λvs=>U (.rs k vs) else y'
   |_,_=>y'
  |.brk _=>U .brk
  |.cnt _=>U .cnt
  |.Gq _=>U .Gq
  |.tr _ _ _ _ _=>y'
  |.oth=>y'
noncomputable def By:Nat->G->Gm->Bool->Bool->List Stmt->Option Ts
 |0,_,_,_,_,_=>y'
 |n+1,g,Γ,dp,fF,lH=>match lH with
  |[]=>U .nil
  |st::lH=>(cS n g Γ dp fF st).bind λt=>(By n g Γ dp fF lH).bind λts=>U (.cons t ts)
end
section
variable{g:G}{xv:Nat->Value}{CX:lI}{k:Nat}{F:FT}{X:Cx}{Φ:Fm}{Γ:Gm}{W:Addr->Prop}
theorem lB{e:Expr}(h:kE e=G')(t:Option Expr)(l:Nat)(env:Env):swapsWith e t l env=pure G':=by cases e<;>first|rfl|(cases h)
theorem mL{e:Expr}{t:Expr}(ht:∀x p,t≠ .Name x p)(l:Nat)(env:Env):swapsWith e (U t) l env=pure G':=by cases e<;>first|rfl|(cases t<;>first|rfl|exact absurd rfl (ht _ _))
theorem yf{n:Nat}{elt:Expr}{gens:List Comprehension}{sc:Scope}{dR:Pos}{c:C}(h:cE (n+1) g Γ (.ListComp elt gens sc dR)=U c):sc.kind= .function/\Br sc.names Γ.names (bh Γ sc).1.N Γ.N (bh Γ sc).2=B'/\(bh Γ sc).1.N.Nodup/\
  ((∃tg it ifs gC AD Bf e',gens=[#[tg,it,ifs,0]]/\cI n g Γ tg it=U gC/\xY (bh Γ sc).1 tg=U AD/\Ds n g (bh Γ sc).1 ifs=U Bf/\cE n g (bh Γ sc).1 elt=U e'/\c= .comp (bh Γ sc).2 gC AD Bf e')):=by
 replace h:LU (λ_=>cE n) (λ_=>cI n) (λ_=>Ds n) n g Γ elt gens sc=U c:=h
 unfold LU at h
 (try dsimp only at h)
 split at h
 ·rename_i hk;split at h
  ·rename_i tg it ifs;refine bx h λgC h1 h=>?_
   refine bx h λAD h2 h=>?_
   refine bx h λBf h3 h=>?_
   refine bx h λe' h4 h=>?_
   split at h
   ·rename_i hb;cases h;rw[Ti]at hb;exact#[TY hk,hb.1,Tn hb.2,#[tg,it,ifs,gC,AD,Bf,e',rfl,h1,h2,h3,h4,rfl]]
   ·cases h
  ·cases h
 ·cases h
theorem iC{n i:Nat}{x:Str}{e:Expr}{c:C}{pos' pos:Pos}(gx:GX g Γ X)(hX:HX g xv CX k F Φ X)(hs:eh Γ x=U i)(h:cE n g Γ e=U c):PS X (.Assign [.Name x pos'] e pos) (oS (bj Φ Γ F g.fr c) (eY i)):=by
 have S:=iH (F:=F) n Γ X Φ gx hX;obtain⟨a1,a2,a3⟩:=ei hs;obtain⟨l1,l2⟩:=gx.loc x a1;have hN:X.N.Nodup:=gx.N▸gx.nd;have hi:X.N[i]?=U x:=by rw[gx.N];exact a3
 by_cases hc:kE e=B'
 ·cases n with
  |zero=>simp[cE]at h
  |succ n=>
   cases e with
   |ListComp elt gens sc dR=>
    have Rk:=(S.e _ _ h).1;obtain⟨hk,hb,qI,Jv⟩:=yf h;cases Ig:(X.env.blockKind== .function&&X.env.kindOf x==U .local&&pos'.line==(Expr.ListComp elt gens sc dR).pos.line&& !(sc.names.any λ(n,k)=>n==x&&(k== .local||k== .cell))) with
    |false=>exact sD hN hi l1 Rk (by show pure (X.env.blockKind== .function&&X.env.kindOf x==U .local&&pos'.line==(Expr.ListComp elt gens sc dR).pos.line&& !(sc.names.any λ(n,k)=>n==x&&(k== .local||k== .cell)))=_;rw[Ig]) l2
    |true=>
     have hl:X.env.kindOf x=U .local:=by rw[Ti,Ti,Ti]at Ig;exact TY Ig.1.1.2
     have B:=xX gx hk hb;have S1:=iH (F:=F) n Γ X Φ gx hX;have J:=λC s H fp=>iH (F:=F) n (bh Γ sc).1 (fZ X sc (bh Γ sc).1.N C s H fp (Dl X sc (bh Γ sc).1.N (jW Φ xv) C s H fp)) Φ (nW gx B qI) (zc hX)
     obtain⟨tg,it,ifs,gC,AD,Bf,e',rfl,h1,h2,h3,h4,rfl⟩:=Jv
     ·refine bq (qe (xb:=Dl X sc (bh Γ sc).1.N (jW Φ xv)) (body:=λacc env=>kh elt acc env) (i:=i) gx.calm hN hi hl B (vI hX.st hX.xgx) (S1.i _ _ _ h1).1 (λrM acc env=>qA ..) (λC s H fp=>Hb (nW gx B qI) h2) (λC s H fp=>(J C s H fp).ts _ _ h3) (λC s H fp D=>uX ((J C s H fp).e _ _ h4).1) (rF (S1.i _ _ _ h1).2 _) ?_) λD σ H q=>Al hX.K B qI h2 q
      show pure (X.env.blockKind== .function&&X.env.kindOf x==U .local&&pos'.line==(Expr.ListComp elt [#[tg,it,ifs,0]] sc dR).pos.line&& !(sc.names.any λ(n,k)=>n==x&&(k== .local||k== .cell)))=_;rw[Ig]
   |SetComp=>cases n<;>cases h
   |DictComp=>cases n<;>cases h
   |_=>cases hc
 ·exact sD hN hi l1 (S.e _ _ h).1 (lB (by simpa using hc) _ _ _) l2
structure MQ(g:G)(F:FT)(n:Nat)(Γ:Gm)(X:Cx)(Φ:Fm)(W:Addr->Prop)(dp fF:Bool):Prop where
 s:∀st t,cS n g Γ dp fF st=U t->PS X st (iP Φ Γ F W fF t)
 ss:∀lH ts,By n g Γ dp fF lH=U ts->oY X lH (jd Φ Γ F W fF ts)
theorem oV{x:Str}{i:Nat}{p:Pos}(gx:GX g Γ X)(h:slot Γ x=U i):PE X (.Name x p) (lC i):=by obtain⟨v1,v2,v3⟩:=jS h;obtain⟨n1,n2,n3⟩:=bz v2;exact sr (by rw[gx.N];exact v3) (gx.vis x v1) n1 n2
theorem Er{n i:Nat}{x:Str}{e:Expr}{t:T}{pos' pos:Pos}{fF:Bool}(gx:GX g Γ X)(hX:HX g xv CX k F Φ X)(hs:eh Γ x=U i)(hp:plainS Γ i=B')(h:EC n g Γ i e=U t):PS X (.Assign [.Name x pos'] e pos) (iP Φ Γ F W fF t):=by
 have GV:∀{e:Expr}{t:T},((cE n g Γ e).bind λc=>U (T.asg i c))=U t->PS X (.Assign [.Name x pos'] e pos) (iP Φ Γ F W fF t):=λ {e t} h=>by
  refine xh t h λc h1=>?_
  exact Ea hp (iC gx hX hs h1)
 unfold EC at h;split at h
 ·rename_i y p;split at h
  ·rename_i j hj;split at h
   ·cases h
   ·exact GV h
  ·exact GV h
 ·refine xh t h λc h1=>?_
  split
  ·rename_i hf;rw[Ti]at hf;exact Hz hp hf.1 (iC gx hX hs h1)
  ·exact Ea hp (iC gx hX hs h1)
theorem GW{n:Nat}{e:Expr}{t:T}{pos:Pos}{fF:Bool}(gx:GX g Γ X)(hX:HX g xv CX k F Φ X)(h:EF n g Γ fF e=U t):PS X (.Return (U e) pos) (iP Φ Γ F W fF t):=by
 have S:=iH (F:=F) n Γ X Φ gx hX;have plain:∀{e:Expr}{t:T},((cE n g Γ e).bind λc=>if fF then y' else U (T.ret c))=U t->PS X (.Return (U e) pos) (iP Φ Γ F W fF t):=λ {e t} h=>by
  refine bx h λc h1 h=>?_
  split at h
  ·cases h
  ·rename_i hf;cases h;exact Eb (λz=>absurd z hf) (k7 (S.e _ _ h1).1)
 unfold EF at h;split at h
 ·rename_i y p;split at h
  ·rename_i j hj;split at h
   ·rename_i hm;split at h
    ·cases h
    ·rename_i hk;cases h;exact HD hm (λz=>hk (by simp[z])) (k7 (oV gx hj))
   ·exact plain h
  ·exact plain h
 ·refine bx h λc h1 h=>?_
  split at h
  ·rename_i hf;cases h;refine Eb (λz=>?_) (k7 (S.e _ _ h1).1);rw[z]at hf;simpa using hf
  ·cases h
theorem qu{dp fF:Bool}(n:Nat):∀(Γ:Gm)(X:Cx)(Φ:Fm),GX g Γ X->HX g xv CX k F Φ X->(dp=G'->Φ.d0=y')->PassesOwn (model X.prog X.w) X.A X.env X.xe->MQ g F n Γ X Φ W dp fF:=by
 induction n with
 |zero=>intro Γ X Φ gx hX hd ho;exact#[λst t h=>by simp[cS]at h,λst t h=>by simp[By]at h]
 |succ n ih=>
  intro Γ X Φ gx hX hd ho;have I:=ih Γ X Φ gx hX hd ho;have S:=iH (F:=F) n Γ X Φ gx hX;have hK:=hX.K;refine#[λst t h=>?_,λlH ts h=>?_]
  ·unfold cS at h;generalize hv:C6 st=v at h;cases v<;>first|(cases h;done)|(obtain rfl:=lq hv rfl;clear hv;dsimp only at h)
   ·split at h
    ·exact GW gx hX h
    ·cases h;exact HE CI
   ·unfold Ky at h;split at h
    ·rename_i e pos x xp;refine bx h λi hs h=>?_
     split at h
     ·cases h
     ·rename_i hδ;have hδ':Γ.δ≠U i:=λz=>hδ (by rw[z];exact VX _)
      split at h
      ·rename_i hm;split at h
       ·cases h
       refine bx h λc h1 h=>?_
       split at h
       ·rename_i hf;cases h;exact Hy hm hδ' hf (iC gx hX hs h1)
       ·cases h
      ·rename_i hm;refine Er gx hX hs ?_ h;unfold plainS;rw[Ti];exact#[by simpa using hm,by simpa using hδ']
    ·rename_i e pos tg0 es kk tp;split at h
     ·cases h
     ·rename_i hdisp;refine pB t h λis h1 c h2=>?_
      have Mh:xY Γ (.Tuple es kk tp)=U (.tp is):=by rw[xY,h1];rfl
      refine HA hK (λi hi=>(iK Mh i hi).1) (zU (S.e _ _ h2).1 (KS gx h1) (show swapsWithSole [Expr.Tuple es kk tp] e pos.line X.env=pure G' from mL (e:=e) (t:=Expr.Tuple es kk tp) (λx p z=>by cases z) pos.line X.env) ?_);cases e<;>first|rfl|(exact absurd rfl hdisp)
    ·rename_i v pos tg0 x xp kx sp;refine bx h λi hs h=>?_
     split at h
     ·rename_i hm;refine bx h λv' h1 h=>?_
      refine bx h λk' h2 h=>?_
      have RJ:=(S.e _ _ h2).2.2;split at h
      ·cases h
      ·cases h;refine HF hm (zU (S.e _ _ h1).1 (Gz (oV gx hs) (S.e _ _ h2).1 set_list (by intro _;cases kx<;>first|rfl|(cases RJ))) (show swapsWithSole [Expr.Subscript (Expr.Name x xp) kx sp] v pos.line X.env=pure G' from mL (e:=v) (t:=Expr.Subscript (Expr.Name x xp) kx sp) (λx p z=>by cases z) pos.line X.env) ?_);cases v<;>rfl
     ·cases h
    ·cases h
   ·rename_i t o e pos;unfold Kz at h;split at h
    ·rename_i x xp;split at h
     ·cases h
     ·rename_i hc;refine bx h λi hs h=>?_
      split at h
      ·rename_i hp;refine xh t h λc h1=>?_
       obtain⟨a1,a2,a3⟩:=ei hs;obtain⟨l1,l2⟩:=gx.loc x a1;exact Lp hp (GF (gx.N▸gx.nd) (by rw[gx.N];exact a3) l1 (S.e _ _ h1).1 Fq l2)
      ·cases h
    ·cases h
   ·split at h
    ·refine bx h λgC h1 h=>?_
     refine bx h λAD h2 h=>?_
     refine xh t h λb' h3=>?_
     exact Lv hK (λi hi=>(iK h2 i hi).1) (GG ho gx.calm (S.i _ _ _ h1).1 (Hb gx h2) (I.ss _ _ h3) (rF (S.i _ _ _ h1).2 _))
    ·cases h
   ·split at h
    ·refine pB t h λt' h1 b' h3=>?_
     exact Pm (zY ho (S.e _ _ h1).2.1 (I.ss _ _ h3))
    ·cases h
   ·refine LS t h λt' h1 a' h2 b' h3=>?_
    exact Lw (Kt (S.e _ _ h1).2.1 (I.ss _ _ h2) (I.ss _ _ h3))
   ·split at h
    ·split at h
     ·rename_i hg;rw[Ti]at hg;refine pB t h λk0 h1 vs h2=>?_
      obtain⟨ts,h3⟩:=HJ h1;obtain⟨n1,n2,n3⟩:=bz hg.2;exact Pk hX gx h3 (gx.gl _ hg.1) n1 (Ks gx h2) (B9 h2 _)
     ·cases h
    ·cases h
   ·unfold KA at h;split at h
    ·rename_i pos x xp m ap a cp;refine bx h λi hs h=>?_
     split at h
     ·rename_i hm;rw[Ti]at hm;refine bx h λa' h1 h9=>?_
      clear h;have kC:=bF (S.e _ _ h1).2.2 [] X.env;split at h9
      ·rename_i hma;have em:=TY hma;subst em;cases h9;exact Lo hm.1 (oF (DT PySem.F.plainAttrs_list PySem.F.slot_list_append PySem.F.type_list_append mB (oV gx hs) (bG (S.e _ _ h1).1 eN kC) rfl (by rw[kC];rfl) hm.2 kC rfl))
      ·cases h9
     ·cases h
    ·rename_i pos x xp m ap cp;refine bx h λi hs h9=>?_
     clear h;split at h9
     ·rename_i hm;rw[Ti,Ti]at hm;have em:=TY hm.2;subst em;cases h9;exact Lr hm.1.1 (oF (Gu PySem.F.plainAttrs_list PySem.F.slot_list_clear PySem.F.type_list_clear zu (oV gx hs) rfl hm.1.2))
     ·cases h9
    ·split at h
     ·cases h
     ·rename_i hc;refine xh t h λc h1=>?_
      exact Lu (oF (S.e _ _ h1).1 (lB (by simpa using hc) _ _ _))
   ·cases h;exact HC CH
   ·cases h;exact Lq zV
   ·cases h;exact Ls qd
  ·unfold By at h;split at h
   ·cases h;exact AR
   ·refine pB ts h λt h1 Bf h2=>?_
    exact Dm (I.s _ _ h1) (I.ss _ _ h2)
end
inductive HV where
 |b (x:Bool)|l (xs:List Bool)
def HV.Hq:HV->Option Bool
 |.b x=>U x
 |.l _=>y'
def HV.JX:HV->Option (List Bool)
 |.l x=>U x
 |.b _=>y'
mutual
noncomputable def hE:Nat->G->Gm->Nat->List (Str×Bool)->Option (Nat×HV)->Expr->Option HV
 |0,_,_,_,_,_,_=>y'
 |n+1,g,Γ,i,ts,vb,e=>match e with
  |.Call fe as ks _=>match fe,as,ks with
   |.Name f _,[.Name x _,.Name t _],[]=>if f==("isinstance":Str)&&ue (Γ.names.lookup f)&&g.bls.contains f&&slot Γ x==U i&&ue (Γ.names.lookup t)&&cH t then(ts.lookup t).map .b else y'
   |_,_,_=>y'
  |.Name x _=>vb.bind λv=>if slot Γ x==U v.1 then U v.2 else y'
  |.Constant c _ _=>match c with
   |.bool b=>U (.b b)
   |_=>y'
  |.List es _=>if es.length<=1000 then(Jo n g Γ i ts vb es).map .l else y'
  |.BinOp a o b _=>match o with
   |.Add=>((hE n g Γ i ts vb a).bind HV.JX).bind λx=>((hE n g Γ i ts vb b).bind HV.JX).bind λy=>if x.length+y.length<=1000 then U (.l (x++y)) else y'
   |_=>y'
  |.Compare a os bs _=>match os,bs with
   |[.Eq],[b]=>((hE n g Γ i ts vb a).bind HV.JX).bind λx=>((hE n g Γ i ts vb b).bind HV.JX).bind λy=>match bT .Eq (.lst (x.map Dt.bl)) (.lst (y.map Dt.bl)) with
    |.ok z=>U (.b z)
    |_=>y'
   |_,_=>y'
  |.UnaryOp o a _=>match o with
   |.Not=>((hE n g Γ i ts vb a).bind HV.Hq).bind λb=>U (.b !b)
   |_=>y'
  |.BoolOp o es p=>match es with
   |[a]=>hE n g Γ i ts vb a
   |a::b::es=>((hE n g Γ i ts vb a).bind HV.Hq).bind λx=>((hE n g Γ i ts vb (.BoolOp o (b::es) p)).bind HV.Hq).bind λy=>U (.b (match o with|.And=>x&&y|.Or=>x||y))
   |[]=>y'
  |_=>y'
noncomputable def Jo:Nat->G->Gm->Nat->List (Str×Bool)->Option (Nat×HV)->List Expr->Option (List Bool)
 |0,_,_,_,_,_,_=>y'
 |n+1,g,Γ,i,ts,vb,es=>match es with
  |[]=>U []
  |e::es=>if yU e then((hE n g Γ i ts vb e).bind HV.Hq).bind λx=>(Jo n g Γ i ts vb es).map (x:: ·) else y'
end
def FZ:Expr->Option Str
 |.Name x _=>U x
 |_=>y'
theorem uR{e:Expr}{x:Str}(h:FZ e=U x):∃p,e= .Name x p:=by cases e<;>first|(cases h;done)|(cases h;exact#[_,rfl])
def hS(n:Nat)(g:G)(Γ:Gm)(i:Nat)(ts:List (Str×Bool)):List Stmt->Option Bool
 |[st]=>match C6 st with
  |.ret (U e) _=>(hE n g Γ i ts y' e).bind HV.Hq
  |_=>y'
 |[s1,s2]=>match C6 s1,C6 s2 with
  |.asg [t] e _,.ret (U r) _=>(FZ t).bind λx=>if Γ.names.lookup x==U .local&& !kE e then(eh Γ x).bind λj=>if j==i then y' else(hE n g Γ i ts y' e).bind λb=>(hE n g Γ i ts (U (j,b)) r).bind HV.Hq else y'
  |_,_=>y'
 |_=>y'
def Bz(n:Nat)(g:G)(Γ:Gm)(dp fF:Bool)(st:Stmt):Option T:=match C6 st with
 |.tr body [.ExceptHandler (U ty) (U e) (b0::iJ) _] [] [] _=>(FZ ty).bind λt=>
  if Γ.names.lookup e==U .local&&ue (Γ.names.lookup t)&&cH t&& !(t==("ValueError":Str))&&g.xs.any (λx=>x.2.lookup t==U B') then(eh Γ e).bind λi=>(By n g Γ dp fF body).bind λb=>
   U (.tr b (g.xs.map λx=>if x.2.lookup t==U B' then hS n g Γ i x.2 (b0::iJ) else y'))
  else y'
 |_=>y'
def ED(n:Nat)(g:G)(Γ:Gm)(dp fF:Bool):List Stmt->Option Ts
 |[]=>U .nil
 |st::lH=>((Bz n g Γ dp fF st).or (cS n g Γ dp fF st)).bind λt=>(ED n g Γ dp fF lH).bind λts=>U (.cons t ts)
section
variable{g:G}{xv:Nat->Value}{CX:lI}{k:Nat}{F:FT}{X:Cx}{Φ:Fm}{Γ:Gm}{W:Addr->Prop}
theorem Bw:bootBuiltins "ValueError"=U (.type "ValueError"):=by decide +kernel
def hV(H:Hp)(v:V):HV->Prop
 |.b x=>v= .bl x
 |.l xs=>∃p,v= .ref p/\H p=U (.lst (xs.map V.bl))
theorem hV.same{H H':Hp}{v:V}{x:HV}(h:hV H v x)(s:bI H H'):hV H' v x:=by
 cases x with
 |b x=>exact h
 |l xs=>obtain⟨p,e,h⟩:=h;exact#[p,e,s _ _ h]
def hG(i:Nat)(a:Addr)(vb:Option (Nat×HV))(σ:L2.St)(H:Hp):Prop:=σ[i]?=U (U (.ref a))/\∀j x,vb=U (j,x)->∃v,σ[j]?=U (U v)/\hV H v x
theorem hG.same{i:Nat}{a:Addr}{vb:Option (Nat×HV)}{σ:L2.St}{H H':Hp}(h:hG i a vb σ H)(s:bI H H'):hG i a vb σ H':=#[h.1,λj x e=>by
 obtain⟨v,h1,h2⟩:=h.2 j x e;exact#[v,h1,h2.same s]]
def tH(i:Nat)(a:Addr)(vb:Option (Nat×HV))(x:HV):TE:=λσ H Q=>hG i a vb σ H/\∀v H',bI H H'->hV H' v x->Q v H'
theorem eS{o:Option HV}{x:Bool}(h:o.bind HV.Hq=U x):o=U (.b x):=by
 cases o with
 |none=>cases h
 |some v=>
  cases v with
  |b y=>cases h;rfl
  |l y=>cases h
theorem n8{o:Option HV}{x:List Bool}(h:o.bind HV.JX=U x):o=U (.l x):=by
 cases o with
 |none=>cases h
 |some v=>
  cases v with
  |b y=>cases h
  |l y=>cases h;rfl
theorem sM{K:Frag}{A:Addr->Prop}{H:Hp}:∀xs:List Bool,ar K A H (xs.map V.bl) (xs.map Dt.bl)
 |[]=>ar.nil
 |_::xs=>ar.cons RV.uN (sM xs)
theorem Ll(n:Nat)(h:n<=1000):n<=sizeLine:=by have:=Wc;lia
mutual
theorem pQ{C a:Addr}{o:Obj}{i:Nat}{ts:List (Str×Bool)}(gx:GX g Γ X)(xr:m9 X C a o)(xk:HQ X.K X.mg C ts):∀(n:Nat)(vb:Option (Nat×HV))(e:Expr)(b:HV),hE n g Γ i ts vb e=U b->PE (X.hand a o) e (tH i a vb b)
 |0,vb,e,b,h=>by simp[hE]at h
 |n+1,vb,e,b,h=>by
  have ih:=pQ (i:=i) gx xr xk n vb;have var:∀{x:Str}{j:Nat}{p:Pos},slot Γ x=U j->PE (X.hand a o) (.Name x p) (lC j):=λ {x j p} hs=>by obtain⟨v1,v2,v3⟩:=jS hs;obtain⟨n1,n2,n3⟩:=bz v2;exact sr (X:=X.hand a o) (by rw[gx.N];exact v3) (gx.vis x v1) n1 n2
  unfold hE at h;split at h
  ·split at h
   ·split at h
    ·rename_i hc;simp only[Ti]at hc;obtain⟨⟨⟨⟨⟨h1,h2⟩,h3⟩,h4⟩,h5⟩,h6⟩:=hc;have e1:=TY h1;subst e1;obtain⟨n1,n2,n3⟩:=bz h6;obtain⟨z,hz,rfl⟩:=TJ.mp h;obtain⟨c,hc,k1,_⟩:=xk.2.2 _ _ hz;rcases hc with ⟨m1,D,rfl⟩|⟨m1,rfl,rfl⟩
     ·intro J' s σ H Q I q;exact zK xr xk.1 xk.2.1 (gx.gl _ h2) (gx.bl _ (gu h3)) (var (TY h4)) (u4 (X:=X.hand a o) (v:=.ref D) (gx.gl _ h5) m1 rfl n1) (λu r=>r) k1 J' s σ H Q I #[q.1.1,q.2 _ _ (bI.refl _) rfl]
     ·intro J' s σ H Q I q;exact zK xr xk.1 xk.2.1 (gx.gl _ h2) (gx.bl _ (gu h3)) (var (TY h4)) (uY (X:=X.hand a o) (v:=.ty "ValueError") (gx.gl _ h5) m1 Bw rfl (by decide) n1) (λu r=>r) k1 J' s σ H Q I #[q.1.1,q.2 _ _ (bI.refl _) rfl]
    ·cases h
   ·cases h
  ·refine bx h λv h1 h=>?_
   split at h
   ·rename_i hs;cases h;intro J' s σ H Q I q;obtain⟨u,k1,k2⟩:=q.1.2 v.1 v.2 h1;exact var (TY hs) J' s σ H Q I #[_,k1,q.2 _ _ (bI.refl _) k2]
   ·cases h
  ·split at h
   ·cases h;intro J' s σ H Q I q;exact DS J' s σ H Q I (q.2 _ _ (bI.refl _) rfl)
   ·cases h
  ·split at h
   ·rename_i es _ hl;obtain⟨xs,h1,rfl⟩:=TJ.mp h;have he:=yS (i:=i) gx xr xk n vb es xs h1;intro J' s σ H Q I q;refine zL he.1 J' s σ H Q I #[q.1,λvs H' sm ev=>#[?_,λp hp=>?_]]
    ·rw[ev,Tw,he.2];exact Ll _ hl
    ·exact q.2 _ _ (sm.trans (Mx.cP hp _)) #[p,rfl,by rw[aJ,ev]]
   ·cases h
  ·split at h
   ·refine bx h λx h1 h=>?_
    refine bx h λy h2 h=>?_
    split at h
    ·rename_i hl;cases h;intro J' s σ H Q I q;refine DU dI (ih _ _ (n8 h1)) (ih _ _ (n8 h2)) J' s σ H Q I #[q.1,λv H1 s1#[p,e1,k1]=>#[q.1.same s1,λv2 H2 s2#[p2,e2,k2]=>?_]];refine#[p,p2,_,_,e1,e2,s2 _ _ k1,k2,by rw[Tw,Tw];exact Ll _ hl,λr hr=>?_];exact q.2 _ _ ((s1.trans s2).trans (Mx.cP hr _)) #[r,rfl,by rw[aJ,Um]]
    ·cases h
   ·cases h
  ·split at h
   ·refine bx h λx h1 h=>?_
    refine bx h λy h2 h=>?_
    split at h
    ·rename_i z hz;cases h;intro J' s σ H Q I q;refine uZ (gH .Eq (show (X.hand a o).A.units+150<cLine from gx.un)) (ih _ _ (n8 h1)) (ih _ _ (n8 h2)) (zx _ (by decide) (by decide)) J' s σ H Q I #[q.1,λv H1 s1#[p,e1,k1]=>#[q.1.same s1,λv2 H2 s2#[p2,e2,k2]=>?_]];subst e1 e2;exact#[_,_,z,RV.eM (s2 _ _ k1) (λz=>z) (sM x),RV.eM k2 (λz=>z) (sM y),hz,q.2 _ _ (s1.trans s2) rfl]
    ·cases h
   ·cases h
  ·split at h
   ·refine xh b h λx h1=>?_
    intro J' s σ H Q I q;exact zM (ih _ _ (eS h1)) J' s σ H Q I #[q.1,λv H' sm hv=>#[_,hv,q.2 _ _ sm rfl]]
   ·cases h
  ·split at h
   ·intro J' s σ H Q I q;exact zN (ih _ _ h) J' s σ H Q I q
   ·rename_i op p es0 a1 b1 es;refine pB b h λx h1 y h2=>?_
    have g2:=ih _ _ (eS h2);intro J' s σ H Q I q;cases op with
    |And=>
     refine zH (ih _ _ (eS h1)) g2 J' s σ H Q I #[q.1,λv H' sm hv=>#[_,hv,?_]];cases x with
     |true=>exact#[q.1.same sm,λv2 H2 s2 h2=>q.2 _ _ (sm.trans s2) h2]
     |false=>exact q.2 _ _ sm rfl
    |Or=>
     refine DW (ih _ _ (eS h1)) g2 J' s σ H Q I #[q.1,λv H' sm hv=>#[_,hv,?_]];cases x with
     |true=>exact q.2 _ _ sm rfl
     |false=>exact#[q.1.same sm,λv2 H2 s2 h2=>q.2 _ _ (sm.trans s2) h2]
   ·cases h
  ·cases h
theorem yS{C a:Addr}{o:Obj}{i:Nat}{ts:List (Str×Bool)}(gx:GX g Γ X)(xr:m9 X C a o)(xk:HQ X.K X.mg C ts):∀(n:Nat)(vb:Option (Nat×HV))(es:List Expr)(xs:List Bool),Jo n g Γ i ts vb es=U xs->PA (X.hand a o) es (λσ H Q=>hG i a vb σ H/\∀vs H',bI H H'->vs=xs.map V.bl->Q vs H')/\xs.length=es.length
 |0,vb,es,xs,h=>by simp[Jo]at h
 |n+1,vb,es,xs,h=>by
  unfold Jo at h;split at h
  ·cases h;exact#[λpos J' s σ H Q I q=>eN pos J' s σ H Q I (q.2 _ _ (bI.refl _) rfl),rfl]
  ·rename_i e es;split at h
   ·rename_i hd;refine bx h λx h1 h=>?_
    obtain⟨ys,h2,rfl⟩:=TJ.mp h;obtain⟨k1,k2⟩:=yS (i:=i) gx xr xk n vb es ys h2;refine#[λpos J' s σ H Q I q=>bG (pQ gx xr xk n vb e _ (eS h1)) k1 (bF hd _ _) pos J' s σ H Q I #[q.1,λv H1 s1 hv=>#[q.1.same s1,λvs H2 s2 ev=>q.2 _ _ (s1.trans s2) (by rw[ev,show v= .bl x from hv];rfl)]],by rw[TN,TN,k2]]
   ·cases h
end
theorem Jp{C a:Addr}{o:Obj}{i n:Nat}{ts:List (Str×Bool)}{lH:List Stmt}{b:Bool}(gx:GX g Γ X)(xr:m9 X C a o)(xk:HQ X.K X.mg C ts)(h:hS n g Γ i ts lH=U b):
  oY (X.hand a o) lH (λD σ H=>σ[i]?=U (U (.ref a))/\σ.length=X.N.length/\∀H',bI H H'->D.rt (.bl b) H'):=by
 unfold hS at h;split at h
 ·split at h
  ·rename_i st e p hv;obtain rfl:=lq hv rfl;intro J' s σ H D I q;exact u9 (k7 (pQ gx xr xk n y' _ _ (eS h))) J' s σ H D I #[#[q.1,λj b z=>by cases z],λv H' sm hv=>by rw[show v= .bl b from hv];exact q.2.2 _ sm]
  ·cases h
 ·split at h
  ·rename_i s1 s2 t e ap r rp JJ Fp;obtain rfl:=lq JJ rfl;obtain rfl:=lq Fp rfl;obtain⟨x,hx,h9⟩:=Te.mp h;clear h;obtain⟨xp,rfl⟩:=uR hx;clear hx;have h:=h9;clear h9;split at h
   ·rename_i hx;rw[Ti]at hx;refine bx h λj h1 h=>?_
    split at h
    ·cases h
    ·rename_i hj;obtain⟨v,h2,h3⟩:=Te.mp h;obtain⟨a1,a2,a3⟩:=ei h1;obtain⟨l1,l2⟩:=gx.loc x a1;have RH:j≠i:=λz=>hj (by rw[z];exact VX _)
     have hN:(X.hand a o).N[j]?=U x:=by show X.N[j]?=_;rw[gx.N];exact a3
     have Ri:(X.hand a o).N.Nodup:=by show X.N.Nodup;rw[gx.N];exact gx.nd
     intro J' s σ H D I q;refine qg (sD (X:=X.hand a o) Ri hN l1 (pQ gx xr xk n y' _ v h2) (lB (by simpa using hx.2) _ _ _) l2) (u9 (k7 (pQ gx xr xk n (U (j,v)) _ _ (eS h3)))) J' s σ H D I #[#[q.1,λj b z=>by cases z],λu H1 s1 hu=>#[#[?_,λj' b' z=>?_],λw H2 s2 hw=>by rw[show w= .bl b from hw];exact q.2.2 _ (s1.trans s2)]]
     ·rw[TL RH];exact q.1
     ·cases z;have:j<σ.length:=by rw[q.2.1];exact(To.mp hN).1
      exact#[u,by simp[this],hu]
   ·cases h
  ·cases h
 ·cases h
theorem GX.cy{Γ:Gm}{X:Cx}{E:Value->Shared->Prop}(gx:GX g Γ X):GX g Γ (X.cy E):=#[gx.N,gx.nd,gx.vis,gx.loc,gx.gl,gx.fre,gx.calm,gx.un,gx.con,gx.bl]
theorem eV{X:Cx}{E:Value->Shared->Prop}{E':XK}{e:Value}{s':Shared}(h:iO (X.cy E) E' e s'):iO X E' e s':=by obtain⟨σ,H',a,cls,e1,I,f,q⟩:=h;exact#[σ,H',a,cls,e1,I.dM,f,q]
theorem qF{X:Cx}{E:Value->Shared->Prop}{E':XK}{e:Value}{s':Shared}(h:iO X E' e s'):iO (X.cy E) E' e s':=by obtain⟨σ,H',a,cls,e1,I,f,q⟩:=h;exact#[σ,H',a,cls,e1,I.cy E,f,q]
theorem Pl{dp fF:Bool}{n:Nat}{st:Stmt}{t:T}(rH:X.env.scope.names=Γ.names)(gx:GX g Γ X)(hX:HX g xv CX k F Φ X)(hd:dp=G'->Φ.d0=y')(h:Bz n g Γ dp fF st=U t):LL X st (iP Φ Γ F W fF t):=by
 unfold Bz at h;split at h
 ·rename_i body ty e b0 iJ hp pos hv;obtain rfl:=lq hv rfl;obtain⟨t,hx,h9⟩:=Te.mp h;clear h;obtain⟨tp,rfl⟩:=uR hx;clear hx;have h:=h9;clear h9;split at h
  ·rename_i hc;simp only[Ti]at hc;obtain⟨⟨⟨⟨c1,c2⟩,c3⟩,c4⟩,c5⟩:=hc;obtain⟨i,h1,h⟩:=Te.mp h;obtain⟨b,h2,h⟩:=Te.mp h;cases h;obtain⟨a1,a2,a3⟩:=ei h1;obtain⟨l1,l2⟩:=gx.loc e a1;obtain⟨n1,n2,n3⟩:=bz c3;intro s σ H D I q;obtain⟨o,ρ,S,oi,er,q⟩:=q;rw[Ai]at q;obtain⟨hS,q⟩:=aI q;have Rm:S=y':=by simpa using hS
   have xo:∀z,Φ.d0≠U z:=λz hz=>by obtain⟨ns,e1,_⟩:=er.drw z (oi.d z hz);rw[Rm]at e1;cases e1
   generalize htbl:(g.xs.map λx=>if x.2.lookup t==U B' then Rx.hS n g Γ i x.2 (b0::iJ) else y')=sV at q
   let Φ':Fm:=#[Φ.K,Φ.H0,Φ.d0,λkk=>∃v,sV[kk]?=U (U v)/\∀H',aR (λb=>Φ.d0=U b) Φ.H0 H'->D.rt (.bl v) H',Φ.P,Φ.w]
   have X1:HX g xv CX k F Φ' (X.cy (iO X (jW Φ' xv))):=#[hX.K,hX.P,hX.w,hX.fx,hX.room,hX.cx,#[hX.st.pn,hX.st.st],λe s' z=>eV z,hX.xk];have own:PassesOwn (model X.prog X.w) X.A X.env (iO X (jW Φ' xv)):=vJ (X:=X.cy (iO X (jW Φ' xv))) (E:=jW Φ' xv) #[hX.st.pn,hX.st.st] (λe s' z=>eV z) λe s' z=>qF z
   have B:=(qu (dp:=dp) (fF:=fF) (W:=W) n Γ _ Φ' gx.cy X1 hd own).ss _ _ h2;have lF:t≠"ValueError":=kO (by simpa using c4);obtain⟨y,Sg,JL⟩:=Ud.mp c5;obtain⟨ky,RM⟩:=Vk.mp Sg;obtain⟨Cy,_,_,yk⟩:=hX.xk ky y.1 y.2 RM;obtain⟨c,hc,_⟩:=yk.2.2 t B' (TY JL);have xm:X.mg t=U c:=hc.elim (λz=>z.1) λz=>absurd z.2.1 lF
   have hle:X.env.scope.names.lookup e=U .local:=by rw[rH];exact TY c1
   refine Dg (X:=X) (E:=jW Φ' xv) (c:=c) (tp:=tp) (hpos:=hp) (pos:=pos) hX.st (λz=>I.ok.hd z) (gx.gl _ c2) xm n1 (gx.N▸gx.nd) (by rw[gx.N];exact a3) hle B (λcls H' z=>?_) I #[o,ρ,S,#[oi.w,oi.d],er.re rfl,?_]
   ·obtain⟨kk,rfl,⟨v,hv,R6⟩,E4⟩:=z;rw[<-htbl,TQ]at hv;obtain⟨⟨x,ts⟩,hx,hv⟩:=TJ.mp hv;split at hv
    ·rename_i hl;obtain⟨C,e1,e2,xk⟩:=hX.xk kk x ts hx;obtain⟨c',lN,_,kx⟩:=xk.2.2 t B' (TY hl);have:c'=c:=by
      have h9:X.mg t=U c':=lN.elim (λz=>z.1) λz=>absurd z.2.1 lF
      rw[xm]at h9;exact(VN h9).symm
     subst this;exact#[C,e1,kx rfl,λa o xr=>#[_,Jp gx xr xk hv,λσ s1 s2=>#[s1,s2,λH2 sm=>R6 H2 (E4.trans (aR.of_same sm))]]]
    ·cases hv
   ·cases he:az F b ρ S with
    |ok p=>
     rw[he]at q;have q:bw Φ Γ W fF o H D p:=q;show bw Φ' Γ W fF o H D p;unfold bw at q ⊢;cases jh:p.1 with
     |next=>rw[jh]at q;intro σ' H' so;exact q σ' H' #[so.ex.imp λo' z=>#[#[z.1.w,z.1.d],ER.re (Φ:=Φ') (Φ':=Φ) rfl z.2.1,z.2.2],so.ext,so.al]
     |brk=>rw[jh]at q;intro σ' H' so;exact q σ' H' #[so.ex.imp λo' z=>#[#[z.1.w,z.1.d],ER.re (Φ:=Φ') (Φ':=Φ) rfl z.2.1,z.2.2],so.ext,so.al]
     |cnt=>rw[jh]at q;intro σ' H' so;exact q σ' H' #[so.ex.imp λo' z=>#[#[z.1.w,z.1.d],ER.re (Φ:=Φ') (Φ':=Φ) rfl z.2.1,z.2.2],so.ext,so.al]
     |ret d=>rw[jh]at q;intro v H' ro;exact q v H' #[ro.val,ro.ent,ro.drw,ro.eD]
    |ex kk=>
     rw[he]at q;simp only at q;split at q
     ·rename_i v hv;exact#[v,hv,λH' E4=>q _ _ #[RV.uN,E4,λa ha=>absurd ha (xo a),λ_ ds z=>by cases z]]
     ·exact q.elim
    |bad=>rw[he]at q;exact q.elim
  ·cases h
 ·cases h
theorem AQ{st:Stmt}{lH:List Stmt}{t:T}{ts:Ts}{fF:Bool}(h1:LL X st (iP Φ Γ F W fF t))(h2:mX X lH (jd Φ Γ F W fF ts)):mX X (st::lH) (jd Φ Γ F W fF (.cons t ts)):=λs σ H D I q=>wI h1 h2 s σ H D I (by
 obtain⟨o,ρ,S,oi,er,q⟩:=q;rw[aX]at q;rw[aa]at q;refine#[o,ρ,S,oi,er,ag q λp _ q=>?_];unfold bw;cases hp:p.1 with
 |next=>rw[hp]at q;intro σ1 H1 so;obtain⟨⟨o1,Oz,aC,NJ⟩,e1,a1⟩:=so;exact#[o1,p.2.1,p.2.2,Oz,aC,ag q λp2 _ q=>bw.go e1 NJ a1 (λ_ _ z=>z) (λ_ _ z=>z) (λ_ _ z=>z) (λ_ _ z=>z) q]
 |brk=>rw[hp]at q;unfold mR bw at q;exact q
 |cnt=>rw[hp]at q;unfold mR bw at q;exact q
 |ret d=>rw[hp]at q;unfold mR bw at q;exact q)
theorem xT{dp fF:Bool}{n:Nat}(rH:X.env.scope.names=Γ.names)(gx:GX g Γ X)(hX:HX g xv CX k F Φ X)(hd:dp=G'->Φ.d0=y')(own:PassesOwn (model X.prog X.w) X.A X.env X.xe):∀{lH:List Stmt}{ts:Ts},ED n g Γ dp fF lH=U ts->mX X lH (jd Φ Γ F W fF ts)
 |[],ts,h=>by cases h;exact CJ AR
 |st::lH,ts,h=>by
  refine pB ts h λt h1 Bf h2=>?_
  refine AQ ?_ (xT rH gx hX hd own h2);cases ht:Bz n g Γ dp fF st with
  |none=>rw[ht]at h1;exact GE ((qu (dp:=dp) (fF:=fF) (W:=W) n Γ X Φ gx hX hd own).s _ _ h1)
  |some t'=>rw[ht]at h1;cases h1;exact Pl rH gx hX hd ht
theorem qf{X:Cx}{E:Value->Shared->Prop}{st:List Stmt}{t:TS}(h:mX (X.cy E) st t)(hx:∀e s',E e s'->X.xe e s'):mX X st t:=λs σ H D I hw=>
 Wi (h s σ H D (I.cy _) hw) (λ_ _ q=>q.dM) λe s' z=>hx e s' z
end
section
variable{P:Program}{w:World}{K:Frag}{mg:Str->Option Value}{base:Heap}{g:G}{xv:Nat->Value}{F:FT}{k:Nat}
structure MG(g:G)(mg:Str->Option Value):Prop where
 con:∀x d,g.cons.lookup x=U d->∃u,o8 d=B'/\mg x=U u/\RelV (qL d) u
 bl:∀x∈g.bls,mg x=y'
def XG(g:G)(K:Frag)(mg:Str->Option Value)(xv:Nat->Value):Prop:=∀k x ts,g.xs[k]?=U (x,ts)->∃C,xv k= .ref C/\mg x=U (.ref C)/\HQ K mg C ts
def wN(a6:Bool)(args:List Dt)(n ps:Nat):aj:=(if a6 then[y'] else[])++args.map U++List.replicate (n-ps) y'
theorem lj{a6:Bool}{args:List Dt}{n ps i:Nat}{d:Dt}(h:(wN a6 args n ps)[i]?=U (U d)):∃j,args[j]?=U d/\i=j+(if a6 then 1 else 0):=by
 unfold wN at h;have tail:∀{i:Nat},(args.map U++List.replicate (n-ps) (y':Option Dt))[i]?=U (U d)->args[i]?=U d:=λ {i} h=>by
  by_cases hi:i<args.length
  ·rw[Uj (by simpa using hi),TQ]at h;cases e:args[i]? with
   |none=>rw[e]at h;cases h
   |some a=>rw[e]at h;cases h;rfl
  ·rw[Uk (by simpa using hi),U1]at h;split at h<;>cases h
 cases a6 with
 |false=>simp only[UA,V0,Vn]at h;exact#[i,tail h,rfl]
 |true=>
  simp only[V3,TH]at h;cases i with
  |zero=>cases h
  |succ i=>have h:(args.map U++List.replicate (n-ps) (y':Option Dt))[i]?=U (U d):=h;exact#[i,tail h,rfl]
theorem mJ{N:List Str}{vs:List V}{i:Nat}{v:V}(h:vs[i]?=U v):(start N vs)[i]?=U (U v):=by unfold L2.start;have hi:=(To.mp h).1;rw[Uj (by simpa using hi),TQ,h];rfl
theorem yx{M:List Bool}{δ:Option Nat}{names:List (Str×NameKind)}{N:List Str}{np:Nat}{a6:Bool}{vs xy:List V}{H:Hp}{W:Addr->Prop}{dr:Option Addr}{args:List Dt}{S:Sx}{Ek:Nat->Prop}{κ:Option Nat}{P:Program}{w:World}
  (hM:∀i,i<np->M[i]?≠U B') (hδ:a6=B'->δ=U 0) (S6:np<=N.length) (hl:vs.length=np)
  (hd:if a6=B' then∃(a:Addr)(ns:List Int),vs= .ref a::xy/\dr=U a/\W a/\S=U ns/\H a=U (.lst (ns.map V.int)) else vs=xy/\dr=y'/\S=y')
  (ha:ar K W H xy args) (hw:∀a,W a->∃x,H a=U x):ER #[K,H,dr,Ek,P,w] #[names,N,M,δ,κ] #[W,W,dr] (wN a6 args N.length np) S (start N vs) H/\args.length+(if a6 then 1 else 0)=np:=by
 have v5:=ha.length;have Jr:args.length+(if a6 then 1 else 0)=np:=by
  cases a6 with
  |false=>
   simp only[UA,V0]at hd ⊢;obtain⟨e,_,_⟩:=hd;subst e
   lia
  |true=>
   simp only[V3]at hd ⊢;obtain⟨a,ns,e,_⟩:=hd;rw[e]at hl;simp at hl
   lia
 refine#[#[?_,λa z=>z,λa z=>?_,hw,λi d h=>?_,λi ks vs h=>?_,λi j a d e hm hm' h1 h2 _ _=>?_,λa z=>?_,λz=>?_,λi a hi z=>?_,λa z=>.inl z,aR.refl],Jr]
 ·unfold L2.start wN;simp only[TK,Tw,Vb];cases a6<;>simp at Jr ⊢<;>lia
 ·cases a6 with
  |false=>simp only[UA,V0]at hd;rw[hd.2.1]at z;cases z
  |true=>simp only[V3]at hd;obtain⟨b,ns,_,e,hb,_⟩:=hd;rw[e]at z;cases z;exact hb
 ·obtain⟨j,hj,rfl⟩:=lj h;obtain⟨v,h1,h2⟩:=ha.getD hj;have RI:=(To.mp hj).1;have hm:ff #[names,N,M,δ,κ] (j+if a6=B' then 1 else 0)=G':=by unfold ff;have:=hM (j+if a6=B' then 1 else 0) ⋯;simpa using this
  refine#[v,mJ ?_,?_]
  ·cases a6 with
   |false=>simp only[UA,V0]at hd ⊢;rw[hd.1];exact h1
   |true=>simp only[V3]at hd ⊢;obtain⟨b,ns,e,_⟩:=hd;rw[e];simpa using h1
  ·rw[hm,V1 (by simp)];exact h2
 ·obtain⟨j,hj,rfl⟩:=lj h;obtain⟨v,h1,h2⟩:=ha.getD hj;cases h2.nd
 ·obtain⟨j1,hj,rfl⟩:=lj h1;have RI:=(To.mp hj).1;exfalso;unfold ff at hm;exact hM (j1+if a6=B' then 1 else 0) ⋯ (TY hm)
 ·cases a6 with
  |false=>simp only[UA,V0]at hd;rw[hd.2.1]at z;cases z
  |true=>simp only[V3]at hd;obtain⟨b,ns,_,e,_,e2,e3⟩:=hd;rw[e]at z;cases z;exact#[ns,e2,e3]
 ·cases a6 with
  |false=>simp only[UA,V0]at hd;exact hd.2.2
  |true=>simp only[V3]at hd;obtain⟨b,ns,_,e,_⟩:=hd;rw[e]at z;cases z
 ·cases a6 with
  |false=>simp only[UA,V0]at hd;rw[hd.2.1]at z;cases z
  |true=>simp only[V3]at hd;obtain⟨b,ns,e1,e,_⟩:=hd;rw[e]at z;cases z;have hi:δ=U i:=hi;rw[hδ rfl]at hi;cases hi;exact mJ (by rw[e1];rfl)
theorem Jk{CX:lI}{N ps:List Str}{sc:Scope}{M:List Bool}{δ κ:Option Nat}{qual:Str}{f:Addr}{fq:Value}{A:Around}{outer:List Env}{s:Shared}{H:Hp}{E:XK}(m:MG g mg)(S:eE N ps sc)(hr:gQ k (A.deeper (envOfC qual sc s.heap.objs.size f fq))):
  GX g #[sc.names,N,M,δ,κ] (kf CX P w K mg base N qual sc f fq A outer s H E) where
 N:=rfl
 nd:=S.nd
 vis:=λx h=>by
  have h:AJ (sc.names.lookup x)=B':=h;show En sc x;unfold En;cases hl:sc.names.lookup x with
  |none=>rw[hl]at h;cases h
  |some kk=>
   rw[hl]at h;cases kk with
   |«local»=>exact .inl rfl
   |cell=>exact .inr (.inl rfl)
   |free=>exact .inr (.inr rfl)
   |globalExplicit=>cases h
   |globalImplicit=>cases h
 loc:=λx h=>by
  have h:zr (sc.names.lookup x)=B':=h;refine#[?_,.inl rfl];show L2.Loc sc x;unfold L2.Loc;cases hl:sc.names.lookup x with
  |none=>rw[hl]at h;cases h
  |some kk=>
   rw[hl]at h;cases kk with
   |«local»=>exact .inl rfl
   |cell=>exact .inr rfl
   |free=>cases h
   |globalExplicit=>cases h
   |globalImplicit=>cases h
 gl:=λx h=>by
  have h:ue (sc.names.lookup x)=B':=h;show sc.names.lookup x=_;cases hl:sc.names.lookup x with
  |none=>rw[hl]at h;cases h
  |some kk=>
   rw[hl]at h;cases kk with
   |globalImplicit=>rfl
   |«local»=>cases h
   |cell=>cases h
   |free=>cases h
   |globalExplicit=>cases h
 fre:=λx h=>h
 calm:=rfl
 un:=by have:=hr.un;show (A.deeper (envOfC qual sc s.heap.objs.size f fq)).units+150<cLine;lia
 con:=m.con
 bl:=m.bl
theorem l9{name qual:Str}{params:Arguments}{body:List Stmt}{scope:Scope}{dV kV doc pm fq ct oc:Value}{an od:Option Addr}{uW:Array (Option Value)}{f:Addr}{N ps:List Str}{M:List Bool}{δ κ:Option Nat}{a6 fF:Bool}{n m:Nat}{ts:Ts}
  (lk:K.lookup f=U #[oc,od,.func (PySem.W.fnOf name qual params body scope dV kV doc pm an fq ct),uW]) (xl:PySem.W.codeIn K fq qual=B') (S:eE N ps scope) (hm:MG g mg) (BY:XG g K mg xv) (fx:FX g xv (oW P w) P w K mg base m k F)
  (hM:∀i,i<ps.length->M[i]?≠U B') (hδ:a6=B'->δ=U 0) (hc:ED n g #[scope.names,N,M,δ,κ] a6 fF body=U ts):
  iQ P w K mg base (oW P w) (k+1) f (PySem.W.fnOf name qual params body scope dV kV doc pm an fq ct) ps (QE K xv (gk F #[ps.length,N.length,a6,ts]) ps.length fF a6):=by
 have lG:ps.length<=N.length:=by have:=VY List.length S.pre;rw[Ve]at this;lia
 refine EU lk xl S (λvs H Q E h=>h.1) λA outer s H vs Q E hr h=>?_
 obtain⟨hl,W,dr,args,S0,xy,hd,ha,hw,h⟩:=h;have er:=yx (K:=K) (names:=scope.names) (N:=N) (κ:=κ) (P:=P) (w:=w) (Ek:=λkk=>∀H',aR (λb=>dr=U b) H H'->E (xv kk) y' H') hM hδ lG hl hd ha hw;obtain⟨er,DG⟩:=er;generalize hXX:kf (oW P w) P w K mg base N qual scope f fq A outer s H E=X;generalize hΦ:(#[K,H,dr,λkk=>∀H',aR (λb=>dr=U b) H H'->E (xv kk) y' H',P,w]:Fm)=Φ at er;have hΦE:∀v a H',jW Φ xv v a H'->E v y' H':=λv a H' z=>by obtain⟨kk,rfl,z1,z2⟩:=z;subst hΦ;exact z1 H' z2
 have Sz:∀e s',iO X (jW Φ xv) e s'->X.xe e s':=λe s' z=>by subst hXX;obtain⟨σ,H',a,cls,e1,I,fl,q⟩:=z;exact HH #[σ,H',a,cls,e1,I,fl,hΦE _ _ _ q]
 have st:eW X:=by subst hXX;exact Au
 have gx:GX g #[scope.names,N,M,δ,κ] X:=by subst hXX;exact Jk (P:=P) (w:=w) (K:=K) (base:=base) (CX:=oW P w) (M:=M) (δ:=δ) (outer:=outer) (H:=H) (E:=E) hm S hr
 have QG:eW (X.cy (iO X (jW Φ xv))):=#[st.pn,st.st];have hX:HX g xv (oW P w) k F Φ (X.cy (iO X (jW Φ xv))):=by
  refine#[?_,?_,?_,#[m,?_],?_,?_,QG,λe s' z=>eV z,?_]
  ·subst hΦ hXX;rfl
  ·subst hΦ hXX;rfl
  ·subst hΦ hXX;rfl
  ·subst hXX;exact fx
  ·subst hXX;exact hr
  ·subst hXX;rfl
  ·subst hXX;exact BY
 have own:PassesOwn (model (X.cy (iO X (jW Φ xv))).prog (X.cy (iO X (jW Φ xv))).w) (X.cy (iO X (jW Φ xv))).A (X.cy (iO X (jW Φ xv))).env (X.cy (iO X (jW Φ xv))).xe:=vJ (E:=jW Φ xv) QG (λe s' z=>eV z) λe s' z=>qF z
 have d0:Φ.d0=dr:=by subst hΦ;rfl
 have SS:=xT (dp:=a6) (fF:=fF) (W:=W) (n:=n) (Γ:=#[scope.names,N,M,δ,κ]) (by subst hXX;rfl) gx.cy hX (λz=>by
  rw[d0];subst z;simp only[UA,V0]at hd;exact hd.2.1) own hc
 refine#[_,qf SS Sz,#[W,W,dr],_,S0,#[rfl,λa z=>by rw[d0]at z;exact z],er,?_];subst hΦ;unfold gk at h;simp only at h;rw[V2 DG]at h;have h:(match (az F ts (wN a6 args N.length ps.length) S0).bind (λp=>match p.1 with
   |.next=>R.ok (Dt.aE,p.2.2)
   |.ret d=>R.ok (d,p.2.2)
   |_=>R.bad) with
  |.ok p=>∀v H',FO K W dr fF H p.1 p.2 v H'->Q v H'
  |.ex kk=>∀H',aR (λb=>dr=U b) H H'->E (xv kk) y' H'
  |.bad=>False):=h
 cases he:az F ts (wN a6 args N.length ps.length) S0 with
 |ok p=>
  rw[he]at h;simp only[R.ah]at h;show bw _ _ _ _ _ _ _ p;unfold bw;cases hp:p.1 with
  |next=>rw[hp]at h;intro σ' H' so;obtain⟨o',oi,EL,_⟩:=so.ex;exact h _ _ #[EL.ent,RV.oh,λa z=>EL.drw a (oi.d a z),λ_ ds e=>by cases e]
  |ret d=>rw[hp]at h;intro v H' ro;exact h _ _ #[ro.ent,ro.val,ro.drw,ro.eD]
  |brk=>rw[hp]at h;exact h.elim
  |cnt=>rw[hp]at h;exact h.elim
 |ex kk=>rw[he]at h;exact h
 |bad=>rw[he]at h;exact h.elim
end
structure xC(g:G)(K:Frag)(mg:Str->Option Value)(e:Str×Nat×List Dt×Bool)(idx:Nat)(fn:Fn):Prop where
 ex:∃(fa:Addr)(ps N:List Str)(M:List Bool)(δ κ:Option Nat)(n:Nat)(oc:Value)(od an:Option Addr)(uW:Array (Option Value))(params:Arguments)(body:List Stmt)(scope:Scope)(dV kV doc pm fq ct:Value),
  K.lookup fa=U #[oc,od,.func (PySem.W.fnOf e.1 e.1 params body scope dV kV doc pm an fq ct),uW]/\PySem.W.codeIn K fq e.1=B'/\PySem.W.keepIn K (.ref fa)=B'/\mg e.1=U (.ref fa)/\eE N ps scope/\(∀i,i<ps.length->M[i]?≠U B')/\
  (e.2.2.2=B'->δ=U 0)/\ps.length=e.2.1/\ED n g #[scope.names,N,M,δ,κ] e.2.2.2 (g.fr idx) body=U fn.body/\fn.ps=ps.length/\fn.n=N.length/\fn.a6=e.2.2.2/\
  (∀j,j<=e.2.2.1.length->∃ds,ay ((e.2.2.1.drop j).map qL) ds/\Binds K (PySem.W.fnOf e.1 e.1 params body scope dV kV doc pm an fq ct) ps ds)/\e.2.2.1.all o8=B'
def o9(g:G)(K:Frag)(mg:Str->Option Value):Nat->List (Str×Nat×List Dt×Bool)->List Fn->Prop
 |_,[],[]=>True
 |i,e::es,f::fs=>xC g K mg e i f/\o9 g K mg (i+1) es fs
 |_,_,_=>False
section
variable{g:G}{K:Frag}{mg:Str->Option Value}
theorem nR{x:Str}:∀{es:List (Str×Nat×List Dt×Bool)}{fs:List Fn}{i j:Nat}{r:Nat×List Dt×Bool},o9 g K mg i es fs->rA x es=U (j,r)->∃f,xC g K mg (x,r) (i+j) f/\fs[j]?=U f
 |[],fs,i,j,r,_,h=>by simp[rA]at h
 |e::es,[],i,j,r,h,_=>h.elim
 |e::es,f::fs,i,j,r,ok,h=>by
  obtain⟨o1,o2⟩:=ok;unfold rA at h;split at h
  ·rename_i hx;cases h;have ex:x=e.1:=TY hx;subst ex;exact#[f,o1,rfl]
  ·obtain⟨p,h1,h2⟩:=TJ.mp h;obtain⟨j',r'⟩:=p;cases h2;obtain⟨f',k1,k2⟩:=nR o2 h1;refine#[f',?_,k2];have:i+(j'+1)=i+1+j':=⋯
   rw[this];exact k1
variable{P:Program}{w:World}{base:Heap}{xv:Nat->Value}{fs:List Fn}
theorem kZ(hm:MG g mg)(BY:XG g K mg xv)(ok:o9 g K mg 0 g.fns fs):∀n,FX g xv (oW P w) P w K mg base n n (ai fs n)
 |0=>⟨λx f np fy a6 h=>by
   obtain⟨fn,⟨fa,ps,N,M,δ,κ,n,oc,od,an,uW,params,body,scope,dV,kV,doc,pm,fq,ct,h1,h2,h3,h4,h5,h6,h7,h8,h9,ND,NF,NG,NH,NI⟩,hf⟩:=nR ok h;refine#[fa,_,ps,h8,h4,h3,#[λvs H Q E q=>q.1.trans h8.symm,λA outer s H args us vs Q E _ _ _ _ q=>?_],NH,NI];obtain⟨_,W,dr,as,S,xy,_,_,_,q⟩:=q;exact q.elim⟩
 |n+1=>⟨λx f np fy a6 h=>by
   have ih:=kZ hm BY ok n;obtain⟨fn,⟨fa,ps,N,M,δ,κ,m,oc,od,an,uW,params,body,scope,dV,kV,doc,pm,fq,ct,h1,h2,h3,h4,h5,h6,h7,h8,h9,ND,NF,NG,NH,NI⟩,hf⟩:=nR ok h;rw[VJ]at h9;refine#[fa,_,ps,h8,h4,h3,?_,NH,NI];have:=l9 (xv:=xv) (P:=P) (w:=w) (base:=base) h1 h2 h5 hm BY ih h6 h7 h9;have e:(ai fs (n+1)) f=gk (ai fs n) #[ps.length,N.length,a6,fn.body]:=by funext args S;show (match fs[f]? with|some g=>gk (ai fs n) g args S|none=>R.bad)=_;rw[hf];obtain⟨a1,a2,a3,a4⟩:=fn;simp only at ND NF NG;subst ND NF NG;rfl
   have Rb:ps.length=np:=h8;rw[e,<-Rb];exact this⟩
def vx(K:Frag):Sp:=λvs H Q _=>∃(a:Addr)(ns:List Int),vs=[.ref a]/\du K H a (ns.map V.int)/\ns.length<=63/\∀H',Q (.bl B') H'
theorem len0{P:List Value->Prop}(h:P []):∀us:List Value,us.length=0->P us:=λus e=>List.eq_nil_of_length_eq_zero e▸h
theorem lenS{n:Nat}{P:List Value->Prop}(h:∀a(us:List Value),us.length=n->P (a::us)):∀us:List Value,us.length=n+1->P us:=λus e=>by
 cases us with
 |nil=>cases e
 |cons a t=>exact h a t (Nat.succ.inj e)
theorem binds0{fd:FuncData}{ps:List Str}(h:∀us:List Value,us.length=ps.length->bindArgs fd #[us,[]]=pure (ps.zip us)):∀j,j<=([]:List Dt).length->∃ds,ay ((([]:List Dt).drop j).map qL) ds/\Binds K fd ps ds:=λj hj=>by
 have:j=0:=by simpa using hj
 subst this;exact#[[],.nil,Binds.all h]
def Sm(names:List (Str×NameKind))(ps:List Str):List Str:=ps++names.filterMap λp=>if zr (U p.2)&& !ps.contains p.1 then U p.1 else y'
def Ii(N ms:List Str):List Bool:=N.map λx=>ms.contains x
theorem J4{N ms ps:List Str}(h:((Ii N ms).take ps.length).all (λb=> !b)=B'):∀i,i<ps.length->(Ii N ms)[i]?≠U B':=λi hi e=>by have hm:B'∈(Ii N ms).take ps.length:=Vk.mpr #[i,by rw[U3 hi];exact e];have:=Uc.mp h B' hm;cases this
end
end Rx
end
section
namespace Rx
open PySem PySem.W PySem.Spec PyProof.Rows L2
section
variable{S:Sx}{ρ:aj}
theorem dW{tg:Tg}{body:aj->Sx->RS}{ds:List Dt}(P:List Dt->aj->Prop)(h0:P [] ρ)
  (step:∀pre x post ρ,ds=pre++x::post->P pre ρ->∃ρ1 ρ2,fg tg x ρ= .ok ρ1/\body ρ1 S= .ok (.next,ρ2,S)/\P (pre++[x]) ρ2):∃ρ',forL tg body ds ρ S= .ok (.next,ρ',S)/\P ds ρ':=by
 have key:∀(post pre:List Dt)(ρ:aj),ds=pre++post->P pre ρ->∃ρ',forL tg body post ρ S= .ok (.next,ρ',S)/\P ds ρ':=by
  intro post
  induction post with
  |nil=>intro pre ρ e h;rw[Uh]at e;subst e;exact#[ρ,rfl,h]
  |cons x post ih=>intro pre ρ e h;obtain⟨ρ1,ρ2,h1,h2,h3⟩:=step pre x post ρ e h;obtain⟨ρ',h4,h5⟩:=ih (pre++[x]) ρ2 (by rw[e];simp) h3;refine#[ρ',?_,h5];rw[forL,h1,R.ah,h2,R.ah];exact h4
 exact key ds [] ρ rfl h0
end
theorem C1{fs:List Fn}{n k:Nat}{g:Fn}{args:List Dt}{S:Sx}(h:fs[k]?=U g):ai fs (n+1) k args S=gk (ai fs n) g args S:=by show (match fs[k]? with|some g=>gk (ai fs n) g args S|none=>R.bad)=_;rw[h]
def Ka(d:Dt)(S:Sx):R (Dt×Sx):=match d with|.int i=>.ok (.int (-i),S)|_=>.bad
def QB(d:Dt)(S:Sx):R (Dt×Sx):=match d with|.bl b=>.ok (.bl !b,S)|_=>.bad
def IF(d:Dt)(S:Sx):R (Dt×Sx):=match d with|.bl c=>.ok (.bl c,S)|_=>.bad
def Eo(f:Sx->R (Dt×Sx))(d:Dt)(S:Sx):R (Dt×Sx):=match d with|.bl B'=>(f S).bind (λy=>IF y.1 y.2)|.bl G'=>.ok (.bl G',S)|_=>.bad
def OB(f:Sx->R (Dt×Sx))(d:Dt)(S:Sx):R (Dt×Sx):=match d with|.bl G'=>(f S).bind (λy=>IF y.1 y.2)|.bl B'=>.ok (.bl B',S)|_=>.bad
def FQ(k:List Dt->Dt)(ds:List Dt)(S:Sx):R (Dt×Sx):=af (decide (ds.length<=lim)) (.ok (k ds,S))
def Qs(o:Option (List Dt))(S:Sx):R (List Dt×Sx):=match o with|some ds=>.ok (ds,S)|none=>.bad
def K1(d e:Dt)(S:Sx):R (Dt×Sx):=match e with|.int i=>(fm d (U i) y').bind λd=>.ok (d,S)|_=>.bad
def K0(d e:Dt)(S:Sx):R (Dt×Sx):=match e with|.int i=>(fm d y' (U i)).bind λd=>.ok (d,S)|_=>.bad
theorem RX:
  (∀{F:FT}{S:Sx}{ρ:aj}{d:Dt},ev F (.con d) ρ S= .ok (d,S))/\
  (∀{F:FT}{S:Sx}{ρ:aj}{i:Nat},ev F (.var i) ρ S=(bJ ρ i).bind λd=>.ok (d,S))/\
  (∀{F:FT}{S:Sx}{ρ:aj}{i:Nat},ev F (.mvr i) ρ S=(bJ ρ i).bind λd=>.ok (d,S))/\
  (∀{F:FT}{S:Sx}{ρ:aj}{o:Operator}{a b:C},ev F (.bin o a b) ρ S=(ev F a ρ S).bind λx=>(ev F b ρ x.2).bind λy=>(oz o x.1 y.1).bind λd=>.ok (d,y.2))/\
  (∀{F:FT}{S:Sx}{ρ:aj}{o:CmpOp}{a b:C},ev F (.cmp o a b) ρ S=(ev F a ρ S).bind λx=>(ev F b ρ x.2).bind λy=>(bT o x.1 y.1).bind λd=>.ok (.bl d,y.2))/\
  (∀{F:FT}{S:Sx}{ρ:aj}{a:C},ev F (.neg a) ρ S=(ev F a ρ S).bind λx=>Ka x.1 x.2)/\
  (∀{F:FT}{S:Sx}{ρ:aj}{a:C},ev F (.nt a) ρ S=(ev F a ρ S).bind λx=>QB x.1 x.2)/\
  (∀{F:FT}{S:Sx}{ρ:aj}{a b:C},ev F (.and a b) ρ S=(ev F a ρ S).bind λx=>Eo (ev F b ρ) x.1 x.2)/\
  (∀{F:FT}{S:Sx}{ρ:aj}{a b:C},ev F (.or a b) ρ S=(ev F a ρ S).bind λx=>OB (ev F b ρ) x.1 x.2)/\
  (∀{F:FT}{S:Sx}{ρ:aj}{a b:C},ev F (.idx a b) ρ S=(ev F a ρ S).bind λx=>(ev F b ρ x.2).bind λy=>(bB x.1 y.1).bind λd=>.ok (d,y.2))/\
  (∀{F:FT}{S:Sx}{ρ:aj}{a b:C},ev F (.sliL a b) ρ S=(ev F a ρ S).bind λx=>(ev F b ρ x.2).bind λy=>K1 x.1 y.1 y.2)/\
  (∀{F:FT}{S:Sx}{ρ:aj}{a b:C},ev F (.sliH a b) ρ S=(ev F a ρ S).bind λx=>(ev F b ρ x.2).bind λy=>K0 x.1 y.1 y.2)/\
  (∀{F:FT}{S:Sx}{ρ:aj}{f:Nat}{es:Cs}{ds:List Dt},ev F (.call f es ds) ρ S=(fk F es ρ S).bind λx=>(F f (x.1++ds) y').bind λy=>.ok (y.1,x.2))/\
  (∀{F:FT}{S:Sx}{ρ:aj}{u:BI}{es:Cs},ev F (.bi u es) ρ S=(fk F es ρ S).bind λx=>(dw u x.1).bind λd=>.ok (d,x.2))/\
  (∀{F:FT}{S:Sx}{ρ:aj}{es:Cs},ev F (.tup es) ρ S=(fk F es ρ S).bind λx=>FQ .tup x.1 x.2)/\
  (∀{F:FT}{S:Sx}{ρ:aj}{es:Cs},ev F (.lst es) ρ S=(fk F es ρ S).bind λx=>FQ .lst x.1 x.2)/\
  (∀{F:FT}{S:Sx}{ρ:aj},fk F .nil ρ S= .ok ([],S))/\
  (∀{F:FT}{S:Sx}{ρ:aj}{a:C}{es:Cs},fk F (.cons a es) ρ S=(ev F a ρ S).bind λx=>(fk F es ρ x.2).bind λy=>.ok (x.1::y.1,y.2))/\
  (∀{F:FT}{S:Sx}{ρ:aj}{o:CmpOp}{a b:C},aQ F (.cmp o a b) ρ S=(ev F a ρ S).bind λx=>(ev F b ρ x.2).bind λy=>(bT o x.1 y.1).bind λd=>.ok (d,y.2))/\
  (∀{F:FT}{S:Sx}{ρ:aj}{a b:C},aQ F (.and a b) ρ S=(aQ F a ρ S).bind λx=>if x.1=B' then aQ F b ρ x.2 else .ok (G',x.2))/\
  (∀{F:FT}{S:Sx}{ρ:aj}{a b:C},aQ F (.or a b) ρ S=(aQ F a ρ S).bind λx=>if x.1=B' then .ok (B',x.2) else aQ F b ρ x.2)/\
  (∀{F:FT}{S:Sx}{ρ:aj}{a:C},aQ F (.nt a) ρ S=(aQ F a ρ S).bind λx=>.ok (!x.1,x.2))/\
  (∀{F:FT}{S:Sx}{ρ:aj}{f:Nat}{es:Cs}{ds:List Dt},aQ F (.call f es ds) ρ S=(fk F es ρ S).bind λx=>(F f (x.1++ds) y').bind λy=>(cw y.1).bind λb=>.ok (b,x.2))/\
  (∀{F:FT}{S:Sx}{ρ:aj}{u:BI}{es:Cs},aQ F (.bi u es) ρ S=(fk F es ρ S).bind λx=>(dw u x.1).bind λd=>(cw d).bind λb=>.ok (b,x.2))/\
  (∀{F:FT}{S:Sx}{ρ:aj}{i:Nat},aQ F (.var i) ρ S=(bJ ρ i).bind λd=>(cw d).bind λb=>.ok (b,S))/\
  (∀{F:FT}{S:Sx}{ρ:aj}{i:Nat},aQ F (.mvr i) ρ S=(bJ ρ i).bind λd=>(cw d).bind λb=>.ok (b,S))/\
  (∀{F:FT}{S:Sx}{ρ:aj}{a b:C},aQ F (.idx a b) ρ S=(ev F a ρ S).bind λx=>(ev F b ρ x.2).bind λy=>(bB x.1 y.1).bind λd=>(cw d).bind λb=>.ok (b,y.2))/\
  (∀{F:FT}{S:Sx}{ρ:aj},dS F .nil ρ S= .ok (B',S))/\
  (∀{F:FT}{S:Sx}{ρ:aj}{a:C},dS F (.cons a .nil) ρ S=aQ F a ρ S)/\
  (∀{F:FT}{S:Sx}{ρ:aj}{a:C},eI F (.seq a) ρ S=(ev F a ρ S).bind λx=>Qs (je x.1) x.2)/\
  (∀{d:Dt}{ρ:aj},bJ (U d::ρ) 0= .ok d)/\
  (∀{e:Option Dt}{ρ:aj}{i:Nat},bJ (e::ρ) (i+1)=bJ ρ i)/\
  (∀{S:Sx}{i:Int},Ka (.int i) S= .ok (.int (-i),S))/\
  (∀{S:Sx}{b:Bool},QB (.bl b) S= .ok (.bl !b,S))/\
  (∀{S:Sx}{f:Sx->R (Dt×Sx)},Eo f (.bl G') S= .ok (.bl G',S))/\
  (∀{S:Sx}{f:Sx->R (Dt×Sx)},Eo f (.bl B') S=(f S).bind λy=>IF y.1 y.2)/\
  (∀{S:Sx}{f:Sx->R (Dt×Sx)},OB f (.bl B') S= .ok (.bl B',S))/\
  (∀{S:Sx}{f:Sx->R (Dt×Sx)},OB f (.bl G') S=(f S).bind λy=>IF y.1 y.2)/\
  (∀{S:Sx}{b:Bool},IF (.bl b) S= .ok (.bl b,S))/\
  (∀{S:Sx}{ds:List Dt},Qs (U ds) S= .ok (ds,S))/\
  (∀{S:Sx}{k:List Dt->Dt},FQ k [] S= .ok (k [],S))/\
  (∀{S:Sx}{k:List Dt->Dt}{a:Dt},FQ k [a] S= .ok (k [a],S))/\
  (∀{S:Sx}{k:List Dt->Dt}{a b:Dt},FQ k [a,b] S= .ok (k [a,b],S))/\
  (∀{S:Sx}{k:List Dt->Dt}{a b c:Dt},FQ k [a,b,c] S= .ok (k [a,b,c],S))/\
  (∀{S:Sx}{k:List Dt->Dt}{a b c d:Dt},FQ k [a,b,c,d] S= .ok (k [a,b,c,d],S))/\
  (∀{S:Sx}{d:Dt}{i:Int},K1 d (.int i) S=(fm d (U i) y').bind λd=>.ok (d,S))/\
  (∀{S:Sx}{d:Dt}{i:Int},K0 d (.int i) S=(fm d y' (U i)).bind λd=>.ok (d,S))/\
  (∀{m n:Int},oz .Add (.int m) (.int n)= .ok (.int (m+n)))/\
  (∀{m n:Int},oz .Sub (.int m) (.int n)= .ok (.int (m-n)))/\
  (∀{m n:Int},bT .Lt (.int m) (.int n)= .ok (decide (m<n)))/\
  (∀{m n:Int},bT .LtE (.int m) (.int n)= .ok (decide (m<=n)))/\
  (∀{m n:Int},bT .Gt (.int m) (.int n)= .ok (decide (n<m)))/\
  (∀{m n:Int},bT .Eq (.int m) (.int n)= .ok (m==n))/\
  (∀{m n:Int},bT .NotEq (.int m) (.int n)= .ok (!(m==n)))/\
  (∀{m n:Str},bT .Eq (.str m) (.str n)= .ok (m==n))/\
  (∀{m n:Str},bT .NotEq (.str m) (.str n)= .ok (!(m==n)))/\
  (∀{ns:List Int},dw .len [.aW ns]= .ok (.int ns.length))/\
  (∀{ds:List Dt},dw .len [.lst ds]= .ok (.int ds.length))/\
  (∀{ds:List Dt},dw .len [.tup ds]= .ok (.int ds.length))/\
  (∀{ds:List Dt},dw .tuple [.lst ds]= .ok (.tup ds))/\
  (∀{ds:List Dt},dw .tuple [.tup ds]= .ok (.tup ds))/\
  (∀{ds:List Dt},dw .list [.lst ds]= .ok (.lst ds))/\
  (∀{ds:List Dt},dw .list [.tup ds]= .ok (.lst ds))/\
  (∀{m n:Int},dw .min2 [.int m,.int n]= .ok (.int (if n<m then n else m)))/\
  (∀{m n:Int},dw .max2 [.int m,.int n]= .ok (.int (if n>m then n else m)))/\
  (∀{t:Bool},cw (.bl t)= .ok t)/\
  (∀{ds:List Dt},cw (.lst ds)= .ok !ds.isEmpty)/\
  (∀{ds:List Dt},cw (.tup ds)= .ok !ds.isEmpty)/\
  (∀{ds:List Dt},itemsOf (.lst ds)=U ds)/\
  (∀{ds:List Dt},itemsOf (.tup ds)=U ds)/\
  (∀{ds:List Dt},je (.lst ds)=U ds)/\
  (∀{ds:List Dt},je (.tup ds)=U ds)/\
  (∀{z:Str},je (.str z)=U (z.cps.toList.map λc=>.str ⟨#[c]⟩))/\
  (∀{x y:Str},bT .In (.str x) (.str y)= .ok (BP y x))/\
  (∀{ds:List Dt},cA (.lst ds)=U ds)/\
  (∀{ds:List Dt},cA (.tup ds)=U ds)/\
  (∀{α β:Type}{x:α}{f:α->R β},(R.ok x).bind f=f x)/\
  (∀{α:Type}{r:R α},af B' r=r)/\
  (∀{ds:List Dt},(ds++[]:List Dt)=ds)/\
  (∀{e v:Option Dt}{ρ:aj},(e::ρ).set 0 v=v::ρ)/\
  (∀{e v:Option Dt}{ρ:aj}{i:Nat},(e::ρ).set (i+1) v=e::ρ.set i v)/\
  (∀{d:Dt}{ρ:aj}{i:Nat},fg (.nm i) d ρ= .ok (ρ.set i (U d)))/\
  (∀{is:List Nat}{ds:List Dt}{ρ:aj},fg (.tp is) (.tup ds) ρ=fh is ds ρ)/\
  (∀{is:List Nat}{ds:List Dt}{ρ:aj},fg (.tp is) (.lst ds) ρ=fh is ds ρ)/\
  (∀{ρ:aj},fh [] [] ρ= .ok ρ)/\
  (∀{i:Nat}{is:List Nat}{d:Dt}{ds:List Dt}{ρ:aj},fh (i::is) (d::ds) ρ=fh is ds (ρ.set i (U d)))/\
  (∀{d:Dt},bB (.tup [d]) (.int 0)= .ok d)/\
  (∀{d d2:Dt},bB (.tup [d,d2]) (.int 0)= .ok d)/\
  (∀{d d2:Dt},bB (.tup [d,d2]) (.int 1)= .ok d2)/\
  (∀{d d2 d3:Dt},bB (.tup [d,d2,d3]) (.int 0)= .ok d)/\
  (∀{d d2 d3:Dt},bB (.tup [d,d2,d3]) (.int 1)= .ok d2)/\
  (∀{d d2 d3:Dt},bB (.tup [d,d2,d3]) (.int 2)= .ok d3):=by
 repeat' apply And.intro
 all_goals
  intros
  first
  |rfl
  |exact Uh _
  |(rename_i F S ρ a;rw[qevIt_enum];cases ev F a ρ S with|ok x=>(simp only[R.ah];cases cA x.1<;>rfl)|ex k=>rfl|bad=>rfl)
section
variable{F:FT}{S:Sx}{ρ:aj}
theorem bp{i j:Int}(h:i.natAbs<2^64\/j.natAbs<2^64):oz .Mult (.int i) (.int j)= .ok (.int (i*j)):=by show af (decide (i.natAbs<2^64)||decide (j.natAbs<2^64)) _=_;rw[show (decide (i.natAbs<2^64)||decide (j.natAbs<2^64))=B' by simpa using h];rfl
theorem zC{i j:Int}(h:j≠0):oz .Mod (.int i) (.int j)= .ok (.int (i.fmod j)):=by show af (decide (j≠0)) _=_;rw[T5 h];rfl
theorem ck{i j:Int}(h:0<j):oz .Mod (.int i) (.int j)= .ok (.int (i % j)):=by rw[zC ⋯,Int.fmod_eq_emod_of_nonneg i ⋯]
theorem Cp{i j:Int}(h:j≠0)(h2:j.natAbs.log2<9000):oz .FloorDiv (.int i) (.int j)= .ok (.int (i.fdiv j)):=by show af (decide (j≠0)&&decide (j.natAbs.log2<9000)) _=_;rw[T5 h,T5 h2];rfl
theorem Gc{i j:Int}(h:0<j)(h2:j.natAbs.log2<9000):oz .FloorDiv (.int i) (.int j)= .ok (.int (i/j)):=by rw[Cp ⋯ h2,Int.fdiv_eq_ediv_of_nonneg i ⋯]
def fin(r:RS):R (Dt×Sx):=r.bind λp=>match p.1 with
 |.next=>.ok (.aE,p.2.2)
 |.ret d=>.ok (d,p.2.2)
 |_=>.bad
def Ts.app:Ts->Ts->Ts
 |.nil,b=>b
 |.cons t a,b=>.cons t (a.app b)
theorem nM:∀{a b:Ts}{ρ:aj}{S:Sx},az F (a.app b) ρ S=(az F a ρ S).bind λp=>match p.1 with
  |.next=>az F b p.2.1 p.2.2
  |f=>.ok (f,p.2)
 |.nil,b,ρ,S=>rfl
 |.cons t a,b,ρ,S=>by
  show az F (.cons t (a.app b)) ρ S=_;rw[aX,aX];cases ex F t ρ S with
  |ok p=>
   obtain⟨f,ρ1,none⟩:=p;cases f with
   |next=>exact nM
   |brk=>rfl
   |cnt=>rfl
   |ret d=>rfl
  |ex k=>rfl
  |bad=>rfl
section
variable{r:R (Dt×Sx)}{ts:Ts}
theorem aN{t:T}{ρ1:aj}(h:ex F t ρ S= .ok (.next,ρ1,y'))(k:fin (az F ts ρ1 y')=r):fin (az F (.cons t ts) ρ S)=r:=by rw[aX,h];exact k
theorem g6{t:T}{ρ1:aj}{d:Dt}(h:ex F t ρ S= .ok (.ret d,ρ1,y')):fin (az F (.cons t ts) ρ S)= .ok (d,y'):=by rw[aX,h];rfl
theorem ao{i:Nat}{c:C}{d:Dt}(h:ev F c ρ S= .ok (d,y'))(hs:cJ c d=B')(k:fin (az F ts (ρ.set i (U d)) y')=r):fin (az F (.cons (.asg i c) ts) ρ S)=r:=by refine aN ?_ k;rw[jP,h,R.ah,hs];rfl
theorem gZ{i:Nat}{c:C}{d:Dt}(h:ev F c ρ S= .ok (d,y'))(hs:jm c d=B')(k:fin (az F ts (ρ.set i (U d)) y')=r):fin (az F (.cons (.asgM i c) ts) ρ S)=r:=by refine aN ?_ k;rw[lh,h,R.ah,hs];rfl
theorem ae{c:C}{d:Dt}(h:ev F c ρ S= .ok (d,y')):fin (az F (.cons (.ret c) ts) ρ S)= .ok (d,y'):=by refine g6 (ρ1:=ρ) ?_;rw[jQ,h];rfl
theorem yC{t:C}{a b:Ts}{x:Bool}(h:aQ F t ρ S= .ok (x,y'))(k:fin (az F ((if x=B' then a else b).app ts) ρ y')=r):fin (az F (.cons (.ifs t a b) ts) ρ S)=r:=by rw[<-k,nM,aX,oI,h,R.ah];cases x<;>rfl
theorem aA{t:C}{a b:Ts}(h:aQ F t ρ S= .ok (B',y'))(k:fin (az F (a.app ts) ρ y')=r):fin (az F (.cons (.ifs t a b) ts) ρ S)=r:=yC h (by rw[V2 rfl];exact k)
theorem au{t:C}{a b:Ts}(h:aQ F t ρ S= .ok (G',y'))(k:fin (az F (b.app ts) ρ y')=r):fin (az F (.cons (.ifs t a b) ts) ρ S)=r:=yC h (by rw[V1 (by simp)];exact k)
theorem dB{tg:Tg}{it:oX}{b:Ts}{ds:List Dt}{ρ1:aj}(h:eI F it ρ S= .ok (ds,y'))(hl:uK it=0)(hf:forL tg (az F b) ds ρ y'= .ok (.next,ρ1,y'))(k:fin (az F ts ρ1 y')=r):fin (az F (.cons (.fr tg it b) ts) ρ S)=r:=by refine aN ?_ k;rw[sJ,h,R.ah,T5 hl,Bool.true_or];exact hf
end
end
theorem ax{fs:List Fn}{n k ps m:Nat}{body:Ts}{args:List Dt}{r:R (Dt×Sx)}{S:Sx}(h:fs[k]?=U #[ps,m,G',body])(hn:1<=n)(hl:args.length=ps)(q:fin (az (ai fs (n-1)) body (args.map U++List.replicate (m-ps) y') S)=r):ai fs n k args S=r:=by obtain⟨n,rfl⟩:∃m,n=m+1:=#[n-1,⋯];rw[C1 h];unfold gk;simp only[UA,V0,Nat.add_zero,hl,V3,Vn];exact q
def tJ:Ts:=(.cons (.ifs (.cmp .Lt (.var 1) (.bi .len (.cons (.var 0) .nil))) (.cons (.ret (.idx (.var 0) (.var 1))) .nil) .nil) (.cons (.asg 2 (.bin .Add (.bin .Mult (.var 1) (.con (.int 7919))) (.con (.int 5)))) (.cons (.ifs (.cmp .Gt (.bi .len (.cons (.var 0) .nil)) (.con (.int 0))) (.cons (.asg 2 (.bin .Add (.bin .Add (.bin .Mult (.bin .Mod (.idx (.var 0) (.bin .Mod (.var 1) (.bi .len (.cons (.var 0) .nil)))) (.con (.int 2147483647))) (.con (.int 48271))) (.bin .Mult (.bin .Mult (.var 1) (.var 1)) (.con (.int 7919)))) (.con (.int 11)))) .nil) .nil) (.cons (.ret (.bin .Mod (.bin .Mult (.var 2) (.var 2)) (.con (.int 2147483629)))) .nil))))
theorem uw{ns:List Int}{k:Nat}(h:k<ns.length):bB (.aW ns) (.int k)= .ok (.int ns[k]):=by show xM (ns.map Dt.int) k=_;unfold xM;rw[L2.nk (v:=.int ns[k]) (by simp[h])]
def gU(ns:List Int)(k:Nat):Int:=if h:k<ns.length then ns[k] else
 let m:Int:=if h:0<ns.length then ns[k % ns.length]'(Nat.mod_lt _ h) % 2147483647*48271+k*k*7919+11 else k*7919+5
 m*m % 2147483629
theorem tP{fs:List Fn}{ic:Nat}(hc:fs[ic]?=U #[2,3,G',tJ]){n:Nat}(hn:1<=n){ns:List Int}{k:Nat}(hk:k<1000000):ai fs n ic [.aW ns,.int k] y'= .ok (.int (gU ns k),y'):=by
 refine ax hc hn rfl ?_;show fin (az (ai fs (n-1)) tJ [U (.aW ns),U (.int k),y'] y')=_;by_cases h:k<ns.length
 ·refine aA (by simp only[RX];simp[h]) ?_;exact(ae (d:=.int ns[k]) (by simp only[RX,uw h])).trans (by simp[gU,h])
 ·have b1:(k:Int)*k<=1000000*1000000:=by
   have:k*k<=1000000*1000000:=Nat.mul_le_mul ⋯ ⋯;rw[<-Int.natCast_mul]
   lia
  have b0:(0:Int)<=(k:Int)*k:=Int.mul_nonneg ⋯ ⋯;have m1:=bp (i:=k) (j:=7919) (.inl ⋯);refine au (by simp only[RX];simp;lia) (ao (d:=.int (k*7919+5)) (by simp only[RX,m1]) rfl ?_);by_cases h2:0<ns.length
  ·have hm:=Nat.mod_lt k h2;have e1:((k:Int) % (ns.length:Int))=((k % ns.length:Nat):Int):=by simp
   generalize hx:ns[k % ns.length]=x;have r1:=Ue x (b:=2147483647) (by decide);have r2:=Ug x (b:=2147483647) (by decide);have m2:=ck (i:=k) (j:=ns.length) ⋯;rw[e1]at m2;have m3:=ck (i:=x) (j:=2147483647) (by decide);have m4:=bp (i:=x % 2147483647) (j:=48271) (.inl ⋯);have m5:=bp (i:=k) (j:=k) (.inl ⋯);have m6:=bp (i:=(k:Int)*k) (j:=7919) (.inl ⋯);have m7:=bp (i:=x % 2147483647*48271+k*k*7919+11) (j:=x % 2147483647*48271+k*k*7919+11) (.inl ⋯);have m8:=ck (i:=(x % 2147483647*48271+k*k*7919+11)*(x % 2147483647*48271+k*k*7919+11)) (j:=2147483629) (by decide);refine aA (by simp only[RX];simp;lia) (ao (d:=.int (x % 2147483647*48271+k*k*7919+11)) ?_ rfl ?_)
   ·simp only[RX,m2,m3,m4,m5,m6,uw hm,hx]
   ·refine(ae (d:=_) (by simp only[RX,m7,m8];rfl)).trans ?_;simp[gU,h,h2,hx]
  ·have z0:decide ((0:Int)<ns.length)=G':=T1 ⋯;have m7:=bp (i:=k*7919+5) (j:=k*7919+5) (.inl ⋯);have m8:=ck (i:=((k:Int)*7919+5)*(k*7919+5)) (j:=2147483629) (by decide);refine au (by simp only[RX,z0]) ((ae (d:=_) (by simp only[RX,m7,m8];rfl)).trans ?_);simp[gU,h,h2]
section
variable{F:FT}{S:Sx}{ρ ρ1:aj}{ts:Ts}{r:RS}{d:Dt}{ds:List Dt}
theorem nx{t:T}(h:ex F t ρ S= .ok (.next,ρ1,y'))(k:az F ts ρ1 y'=r):az F (.cons t ts) ρ S=r:=by rw[aX,h];exact k
theorem cW{i:Nat}{c:C}(h:ev F c ρ S= .ok (d,y'))(hs:cJ c d=B')(k:az F ts (ρ.set i (U d)) y'=r):az F (.cons (.asg i c) ts) ρ S=r:=by refine nx ?_ k;rw[jP,h,R.ah,hs];rfl
theorem rZ{c:C}(h:ev F c ρ S= .ok (d,y')):az F (.cons (.ret c) ts) ρ S= .ok (.ret d,ρ,y'):=by rw[aX,jQ,h];rfl
theorem DQ{t:C}{a b:Ts}{x:Bool}(h:aQ F t ρ S= .ok (x,y'))(k:az F ((if x=B' then a else b).app ts) ρ y'=r):az F (.cons (.ifs t a b) ts) ρ S=r:=by rw[<-k,nM,aX,oI,h,R.ah];cases x<;>rfl
theorem Cj{t:C}{a b:Ts}(h:aQ F t ρ S= .ok (B',y'))(k:az F (a.app ts) ρ y'=r):az F (.cons (.ifs t a b) ts) ρ S=r:=DQ h (by rw[V2 rfl];exact k)
theorem rY{t:C}{a b:Ts}(h:aQ F t ρ S= .ok (G',y'))(k:az F (b.app ts) ρ y'=r):az F (.cons (.ifs t a b) ts) ρ S=r:=DQ h (by rw[V1 (by simp)];exact k)
theorem uB{i:Nat}(hl:ρ[i]?=U (U (.lst ds))):isLE ρ i=B':=by unfold isLE;rw[hl]
theorem uM{i:Nat}(hl:ρ[i]?=U (U (.lst ds))):kJ ρ i= .ok ds:=by unfold kJ;rw[hl]
theorem ES{i:Nat}{c:C}(hl:ρ[i]?=U (U (.lst ds)))(h:ev F c ρ S= .ok (d,y'))(hs:cJ c d=B')(hz:ds.length<=lim):ex F (.app i c) ρ S= .ok (.next,ρ.set i (U (.lst (ds++[d]))),y'):=by rw[vg,uB hl,guard_true,h,R.ah,hs,guard_true,uM hl,R.ah,T5 hz];rfl
theorem BE{i:Nat}{k v:C}{n:Int}{j:Nat}(hl:ρ[i]?=U (U (.lst ds)))(h:ev F v ρ S= .ok (d,y'))(h2:ev F k ρ y'= .ok (.int n,y'))(hs:cJ v d=B')(hz:o7 ds.length n=U j):ex F (.wR i k v) ρ S= .ok (.next,ρ.set i (U (.lst (ds.set j d))),y'):=by rw[ql,uB hl,guard_true,h,R.ah,h2,R.ah,hs,guard_true,uM hl,R.ah];show (match o7 ds.length n with|some j=>R.ok (Fl.next,ρ.set i (U (.lst (ds.set j d))),y')|none=>.bad)=_;rw[hz]
theorem kR{i:Nat}{c:C}(hl:ρ[i]?=U (U (.lst ds)))(h:ev F c ρ S= .ok (d,y'))(hs:cJ c d=B')(hz:ds.length<=lim)(k:az F ts (ρ.set i (U (.lst (ds++[d])))) y'=r):az F (.cons (.app i c) ts) ρ S=r:=nx (ES hl h hs hz) k
theorem kG{c:C}{n:Nat}(h:ev F c ρ S= .ok (.int n,y'))(hn:n<=lim):eI F (.rng1 c) ρ S= .ok (bL 0 n,y'):=by show (ev F c ρ S).bind (λx=>match x.1 with|.int j=>af (decide (j<=lim)&&decide (-lim<=j)) (.ok (bL 0 j.toNat,x.2))|_=>.bad)=_;rw[h,R.ah];show af (decide ((n:Int)<=lim)&&decide (-lim<=(n:Int))) (R.ok (bL 0 (n:Int).toNat,y'))=_;rw[show (decide ((n:Int)<=lim)&&decide (-lim<=(n:Int)))=B' by have:lim=1000000:=rfl;simp;lia];simp
theorem Fv{a b:C}{da db:Dt}{xs ys:List Dt}(ha:ev F a ρ S= .ok (da,y'))(hb:ev F b ρ y'= .ok (db,y'))(h1:cA da=U xs)(h2:cA db=U ys):eI F (.zip a b) ρ S= .ok (gM xs ys,y'):=by show (ev F a ρ S).bind (λx=>(ev F b ρ x.2).bind λy=>match cA x.1,cA y.1 with|some xs,U ys=>R.ok (gM xs ys,y.2)|_,_=>.bad)=_;rw[ha,R.ah,hb,R.ah];show (match cA da,cA db with|some xs,U ys=>R.ok (gM xs ys,y')|_,_=>.bad)=_;rw[h1,h2]
def f7(F:FT)(e:C):aj->Sx->R (List Dt×Sx):=λρ1 y'=>(ev F e ρ1 y').bind λy=>af (cJ e y.1) (.ok ([y.1],y.2))
theorem gY{cap:List (Option Nat)}{it:oX}{tg:Tg}{cs:Cs}{e:C}{out:List Dt}(h:eI F it ρ S= .ok (ds,y'))(hl:ds.length<=lim)(hk:(decide (uK it<=1)||jr F it ρ S)=B')(hc:bU (cC tg (dS F cs) (f7 F e) (j6 cap ρ)) ds y'= .ok (out,y')):
  ev F (.comp cap it tg cs e) ρ S= .ok (.lst out,y'):=by
 rw[qj,h,R.ah,T5 hl,hk,Uy,guard_true];show (bU (cC tg (dS F cs) (f7 F e) (j6 cap ρ)) ds y').bind _=_;rw[hc];rfl
theorem iM{tg:Tg}{e:C}{y:Dt}(hs:fg tg d ρ= .ok ρ1)(he:ev F e ρ1 S= .ok (y,y'))(hb:cJ e y=B'):cC tg (dS F .nil) (f7 F e) ρ d S= .ok ([y],y'):=by unfold cC f7;rw[hs,R.ah,mF,R.ah];simp only[V3,he,R.ah,hb,guard_true]
theorem turn_if{tg:Tg}{c e:C}{b:Bool}{y:Dt}(hs:fg tg d ρ= .ok ρ1)(hc:aQ F c ρ1 S= .ok (b,S))(he:b=B'->ev F e ρ1 S= .ok (y,S)/\cJ e y=B'):cC tg (dS F (.cons c .nil)) (f7 F e) ρ d S= .ok (if b=B' then[y] else[],S):=by
 unfold cC f7;rw[hs,R.ah,jl,hc,R.ah];cases b with
 |false=>rfl
 |true=>simp only[V3,(he rfl).1,R.ah,(he rfl).2,guard_true]
end
mutual
theorem DX:∀m:Mx.D,pl (ofD m)=B'
 |.int _=>by simp[ofD,pl]
 |.str _=>by simp[ofD,pl]
 |.tup ms=>by simp[ofD,pl,sC ms]
theorem sC:∀ms:List Mx.D,oE (aq ms)=B'
 |[]=>by simp[aq,oE]
 |m::ms=>by simp[aq,oE,DX m,sC ms]
end
mutual
theorem yq:∀m:Mx.D,dp (ofD m)=Mx.D.dep m
 |.int _=>by simp[ofD,dp,Mx.D.dep]
 |.str _=>by simp[ofD,dp,Mx.D.dep]
 |.tup ms=>by simp[ofD,dp,Mx.D.dep,rh ms]
theorem rh:∀ms:List Mx.D,rf (aq ms)=Mx.D.cF ms
 |[]=>by simp[aq,rf,Mx.D.cF]
 |m::ms=>by simp[aq,rf,Mx.D.cF,yq m,rh ms]
end
mutual
theorem DA:∀a b:Mx.D,cu (ofD a) (ofD b)=Mx.D.gh a b
 |.int i,.int j=>by simp[ofD,cu,Mx.D.gh]
 |.str i,.str j=>by simp[ofD,cu,Mx.D.gh]
 |.tup i,.tup j=>by simp[ofD,cu,Mx.D.gh,yv i j]
 |.int _,.str _=>by simp[ofD,cu,Mx.D.gh]
 |.int _,.tup _=>by simp[ofD,cu,Mx.D.gh]
 |.str _,.int _=>by simp[ofD,cu,Mx.D.gh]
 |.str _,.tup _=>by simp[ofD,cu,Mx.D.gh]
 |.tup _,.int _=>by simp[ofD,cu,Mx.D.gh]
 |.tup _,.str _=>by simp[ofD,cu,Mx.D.gh]
theorem yv:∀a b:List Mx.D,bY (aq a) (aq b)=Mx.D.eqs a b
 |[],[]=>by simp[aq,bY,Mx.D.eqs]
 |[],_::_=>by simp[aq,bY,Mx.D.eqs]
 |_::_,[]=>by simp[aq,bY,Mx.D.eqs]
 |a::as,b::bs=>by simp[aq,bY,Mx.D.eqs,DA a b,yv as bs]
end
theorem BC{a b:Mx.D}(h:Mx.D.dep a<=100):bT .Eq (ofD a) (ofD b)= .ok (decide (a=b)):=by show af (lL (ofD a) (ofD b)) (.ok (cu (ofD a) (ofD b)))=_;rw[show lL (ofD a) (ofD b)=B' by simp[lL,DX,yq,h],guard_true,DA,Mx.D.jA]
theorem bH(a b:List Mx.D):aq (a++b)=aq a++aq b:=by simp[cg]
theorem ba(a:List Mx.D):(aq a).length=a.length:=by simp[cg]
theorem sP{pre post:List Dt}{x:Dt}{a:List Mx.D}(h:aq a=pre++x::post):∃p y q,a=p++y::q/\pre=aq p/\x=ofD y/\post=aq q:=by rw[cg]at h;obtain⟨p,r,e1,e2,e3⟩:=List.map_eq_append_iff.mp h;obtain⟨y,q,e4,e5,e6⟩:=List.map_eq_cons_iff.mp e3;exact#[p,y,q,by rw[e1,e4],by rw[cg,e2],e5.symm,by rw[cg,e6]]
theorem lW{ms:List Mx.D}(h:jq ms=B'):dw .sorted [.lst (aq ms)]= .ok (.lst (aq (bN ms)))/\dw .sorted [.tup (aq ms)]= .ok (.lst (aq (bN ms))):=by
 constructor
 ·show (match fK (aq ms)with|some ms=>af (jq ms) (R.ok (Dt.lst (aq (bN ms))))|none=>.bad)=_;rw[dE];show af (jq ms) _=_;rw[h];rfl
 ·show (match fK (aq ms)with|some ms=>af (jq ms) (R.ok (Dt.lst (aq (bN ms))))|none=>.bad)=_;rw[dE];show af (jq ms) _=_;rw[h];rfl
theorem EG{ms:List Mx.D}(k:Mx.SK)(hl:ms.length<1000000)(hd:Mx.D.cF ms<=100)(hk:∀d∈ms,JT k d=B')(hp:∀d∈ms,∀e∈ms,kI d e=B'):jq ms=B':=by
 have Bb:([Mx.SK.tt,.ts,.ti,.s,.i].any λk=>ms.all (JT k))=B':=by rw[Ud];exact#[k,by cases k<;>simp,Uc.mpr hk]
 unfold jq;rw[Bb,T5 hl,T5 hd];simp only[Bool.true_and,Ui,Ti];exact .inr (Uc.mpr λd h=>Uc.mpr λe h2=>hp d h e h2)
theorem gW{n:Nat}:∀{ms:List Mx.D},(∀d∈ms,Mx.D.dep d<=n)->Mx.D.cF ms<=n
 |[],_=>by simp[Mx.D.cF]
 |m::ms,h=>by
  have h1:=h m Tt;have h2:=gW λd hd=>h d (Tp _ hd)
  simp only[Mx.D.cF]
  lia
theorem gJ(ms:List Mx.D):(bN ms).Perm ms:=List.mergeSort_perm ..
theorem mI{d:Mx.D}{ms:List Mx.D}:d∈bN ms↔d∈ms:=(gJ ms).mem_iff
def uq:Option Mx.D->List Mx.D->List Mx.D
 |_,[]=>[]
 |p,x::r=>if p=U x then uq (U x) r else x::uq (U x) r
theorem td{x:Mx.D}:∀{a:List Mx.D}{p:Option Mx.D},x∈uq p a->x∈a
 |[],p,h=>by simp[uq]at h
 |y::a,p,h=>by
  rw[uq]at h;split at h
  ·exact Tp _ (td h)
  ·rcases TC.mp h with h|h
   ·rw[h];exact Tt
   ·exact Tp _ (td h)
variable{fs:List Fn}
def xQ(ic:Nat):Ts:=(.cons (.asg 3 (.bin .Add (.bin .Mult (.bin .Mod (.call ic (.cons (.var 0) (.cons (.var 1) .nil)) []) (.con (.int 2147483647))) (.bin .Add (.con (.int 48271)) (.bin .Mult (.con (.int 2)) (.var 1)))) (.bin .Mult (.con (.int 31)) (.var 1)))) (.cons (.ret (.bin .Mod (.bin .FloorDiv (.bin .Mod (.var 3) (.con (.int 2147483629))) (.con (.int 7))) (.var 2))) .nil))
def bg(ns:List Int)(k many:Nat):Nat:=((((gU ns k % 2147483647)*(48271+2*k)+31*k) % 2147483629/7) % many).toNat
theorem aZ{ns:List Int}{k many:Nat}(h:0<many):bg ns k many<many:=by
 unfold bg;have h1:=Ue (((gU ns k % 2147483647)*(48271+2*k)+31*k) % 2147483629/7) (b:=many) ⋯;have h2:=Ug (((gU ns k % 2147483647)*(48271+2*k)+31*k) % 2147483629/7) (b:=many) ⋯
 lia
structure mV(fs:List Fn)(ip:Nat):Prop where
 ex:∃ic,fs[ic]?=U #[2,3,G',tJ]/\fs[ip]?=U #[3,4,G',xQ ic]
theorem bW{ip:Nat}(hp:mV fs ip){n:Nat}(hn:2<=n){ns:List Int}{k many:Nat}(hk:k<1000000)(hm:0<many):ai fs n ip [.aW ns,.int k,.int many] y'= .ok (.int (bg ns k many),y'):=by
 obtain⟨ic,h1,h2⟩:=hp.ex;refine ax h2 ⋯ rfl ?_;show fin (az (ai fs (n-1)) (xQ ic) [U (.aW ns),U (.int k),U (.int many),y'] y')=_;have hc:=tP h1 (n:=n-1) ⋯ (ns:=ns) hk;generalize hx:gU ns k=x at hc;have r1:=Ue x (b:=2147483647) (by decide);have r2:=Ug x (b:=2147483647) (by decide);have m1:=ck (i:=x) (j:=2147483647) (by decide);have m2:=bp (i:=2) (j:=k) (.inl (by decide));have m3:=bp (i:=x % 2147483647) (j:=48271+2*k) (.inl ⋯);have m4:=bp (i:=31) (j:=k) (.inl (by decide));have m5:=ck (i:=x % 2147483647*(48271+2*k)+31*k) (j:=2147483629) (by decide);have m6:=Gc (i:=(x % 2147483647*(48271+2*k)+31*k) % 2147483629) (j:=7) (by decide) (by decide);have m7:=ck (i:=(x % 2147483647*(48271+2*k)+31*k) % 2147483629/7) (j:=many) ⋯;refine ao (d:=.int (x % 2147483647*(48271+2*k)+31*k)) (by simp only[RX,hc,m1,m2,m3,m4]) rfl ?_;refine(ae (d:=_) (by simp only[RX,m5,m6,m7];rfl)).trans ?_;have h1:=Ue (((x % 2147483647)*(48271+2*k)+31*k) % 2147483629/7) (b:=many) ⋯;have e:((bg ns k many:Nat):Int)=((x % 2147483647)*(48271+2*k)+31*k) % 2147483629/7 % many:=by unfold bg;rw[hx];omega
 rw[e]
def xO:Ts:=(.cons (.ret (.bin .Mod (.bin .Add (.bin .Add (.bin .Mult (.var 0) (.con (.int 31))) (.bin .Mult (.var 1) (.con (.int 7)))) (.con (.int 13))) (.con (.int 9973)))) .nil)
def kP(k j:Nat):Nat:=(k*31+j*7+13) % 9973
theorem kQ{k j:Nat}:kP k j<9973:=Nat.mod_lt _ (by decide)
theorem om{i:Nat}(hp:fs[i]?=U #[2,2,G',xO]){n:Nat}(hn:1<=n){k j:Nat}:ai fs n i [.int k,.int j] y'= .ok (.int (kP k j),y'):=by
 refine ax hp hn rfl ?_;show fin (az (ai fs (n-1)) xO [U (.int k),U (.int j)] y')=_;have m1:=bp (i:=k) (j:=31) (.inr (by decide));have m2:=bp (i:=j) (j:=7) (.inr (by decide));have m3:=ck (i:=(k:Int)*31+j*7+13) (j:=9973) (by decide);refine(ae (d:=_) (by simp only[RX,m1,m2,m3];rfl)).trans ?_;have e:((kP k j:Nat):Int)=((k:Int)*31+j*7+13) % 9973:=by unfold kP;lia
 rw[e]
theorem ux{z:Str}{k:Nat}(hz:z.length<=lim)(h:k<z.length):∃c,bB (.str z) (.int k)= .ok (.str ⟨#[c]⟩):=by
 have dC:z.cps.toList.length=z.length:=by simp[Str.length]
 refine#[z.cps.toList[k],?_];show af (decide (z.length<=lim)) (match nh z.cps.toList k with|some c=>R.ok (Dt.str ⟨#[c]⟩)|none=>.bad)=_;rw[T5 hz,guard_true,L2.nk (v:=z.cps.toList[k]) (TZ _)]
theorem dI{a b:Str}(h:a.length+b.length<=lim):oz .Add (.str a) (.str b)= .ok (.str (a++b)):=by show af (decide (a.length+b.length<=lim)) _=_;rw[T5 h];rfl
theorem len_str{z:Str}(h:z.length<=lim):dw .len [.str z]= .ok (.int z.length):=by show af (decide (z.length<=lim)) _=_;rw[T5 h];rfl
theorem iG{z:Str}{lo hi:Option Int}(h:z.length<=lim):fm (.str z) lo hi= .ok (.str (PySem.Txt.slice z lo hi)):=by show af (decide (z.length<=lim)) _=_;rw[T5 h];rfl
theorem len_cat(a b:Str):(a++b).length=a.length+b.length:=Str.length_append ..
theorem fz{z:Str}{k:Nat}{d}(hz:z.length<=lim)(h:k<z.length):bB (.str z) (.int k)= .ok (.str ⟨#[z.cps.toList.getD k d]⟩):=by
 have dC:k<z.cps.toList.length:=by simpa [Str.length]using h
 show af (decide (z.length<=lim)) (match nh z.cps.toList k with|some c=>R.ok (Dt.str ⟨#[c]⟩)|none=>.bad)=_;rw[T5 hz,guard_true,L2.nk (v:=z.cps.toList[k]) (TZ _)];rw[List.getD,TZ dC];rfl
def tK:Ts:=(.cons (.asg 8 (.idx (.var 2) (.bin .Mod (.bin .Add (.var 6) (.bin .Mult (.con (.int 7)) (.var 4))) (.con (.int 26))))) (.cons (.app 7 (.bin .Add (.bin .Add (.sliH (.var 3) (.var 5)) (.var 8)) (.sliL (.var 3) (.var 5)))) .nil))
def qU(ip:Nat):Ts:=(.cons (.asg 3 (.con (.str ""))) (.cons (.fr (.nm 4) (.rng1 (.call ip (.cons (.var 0) (.cons (.var 1) (.cons (.con (.int 6)) .nil))) [])) (.cons (.asg 3 (.bin .Add (.var 3) (.idx (.var 2) (.call ip (.cons (.var 0) (.cons (.bin .Add (.bin .Add (.var 1) (.bin .Mult (.con (.int 11)) (.var 4))) (.con (.int 1))) (.cons (.con (.int 26)) .nil))) [])))) .nil)) (.cons (.asg 5 (.call ip (.cons (.var 0) (.cons (.bin .Add (.var 1) (.con (.int 2))) (.cons (.bin .Add (.bi .len (.cons (.var 3) .nil)) (.con (.int 1))) .nil))) [])) (.cons (.asg 6 (.call ip (.cons (.var 0) (.cons (.bin .Add (.var 1) (.con (.int 3))) (.cons (.con (.int 26)) .nil))) [])) (.cons (.ifs (.cmp .Eq (.call ip (.cons (.var 0) (.cons (.bin .Add (.var 1) (.con (.int 4))) (.cons (.con (.int 3)) .nil))) []) (.con (.int 0))) (.cons (.asg 3 (.bin .Add (.sliH (.var 3) (.con (.int 3))) (.idx (.var 2) (.var 6)))) (.cons (.ret (.lst (.cons (.var 3) (.cons (.bin .Add (.var 3) (.idx (.var 2) (.var 5))) (.cons (.bin .Add (.bin .Add (.var 3) (.idx (.var 2) (.var 5))) (.idx (.var 2) (.var 6))) .nil))))) .nil)) .nil) (.cons (.asgM 7 (.lst .nil)) (.cons (.fr (.nm 4) (.rng1 (.con (.int 3))) tK) (.cons (.ret (.mvr 7)) .nil))))))))
theorem mH{n:Nat}{pre post:List Dt}{x:Dt}(h:bL 0 n=pre++x::post):pre.length<n/\x= .int pre.length:=by
 have hl:(bL 0 n).length=n:=by simp[bL]
 have h1:pre.length<n:=by rw[<-hl,h];simp
 refine#[h1,?_];have e:(bL 0 n)[pre.length]?=U x:=by rw[h];simp
 unfold bL at e;simp[h1]at e;exact e.symm
variable{fs:List Fn}
mutual
noncomputable def sm:Dt->Bool
 |.int _=>B'
 |.str _=>B'
 |.tup ds=>C5 ds
 |.lst ds=>C5 ds
 |_=>G'
noncomputable def C5:List Dt->Bool
 |[]=>B'
 |d::ds=>sm d&&C5 ds
end
mutual
theorem D1:∀m:Mx.D,sm (ofD m)=B'
 |.int _=>by simp[ofD,sm]
 |.str _=>by simp[ofD,sm]
 |.tup ms=>by simp[ofD,sm,Ap ms]
theorem Ap:∀ms:List Mx.D,C5 (aq ms)=B'
 |[]=>by simp[aq,C5]
 |m::ms=>by simp[aq,C5,D1 m,Ap ms]
end
theorem vw:∀{ds:List Dt}{d:Dt},C5 ds=B'->d∈ds->sm d=B'/\dp d<=rf ds
 |d::ds,x,h,hx=>by
  simp only[C5,Ti]at h;simp only[rf];rcases TC.mp hx with rfl|hx
  ·exact#[h.1,⋯]
  ·have:=vw h.2 hx;exact#[this.1,⋯]
def pz(is:Nat):Ts:=(.cons (.ifs (.bi (.isi "str") (.cons (.var 1) .nil)) (.cons (.ret (.and (.bi (.isi "str") (.cons (.var 0) .nil)) (.cmp .Eq (.var 0) (.var 1)))) .nil) .nil) (.cons (.ifs (.bi (.isi "int") (.cons (.var 1) .nil)) (.cons (.ret (.and (.bi (.isi "int") (.cons (.var 0) .nil)) (.and (.nt (.bi (.isi "bool") (.cons (.var 0) .nil))) (.cmp .Eq (.var 0) (.var 1))))) .nil) .nil) (.cons (.ifs (.or (.cmp .NotEq (.bi (.isi "list") (.cons (.var 1) .nil)) (.bi (.isi "list") (.cons (.var 0) .nil))) (.cmp .NotEq (.bi (.isi "tuple") (.cons (.var 1) .nil)) (.bi (.isi "tuple") (.cons (.var 0) .nil)))) (.cons (.ret (.con (.bl G'))) .nil) .nil) (.cons (.ifs (.cmp .NotEq (.bi .len (.cons (.var 0) .nil)) (.bi .len (.cons (.var 1) .nil))) (.cons (.ret (.con (.bl G'))) .nil) .nil) (.cons (.fr (.tp [2,3]) (.zip (.var 0) (.var 1)) (.cons (.ifs (.nt (.call is (.cons (.var 2) (.cons (.var 3) .nil)) [])) (.cons (.ret (.con (.bl G'))) .nil) .nil) .nil)) (.cons (.ret (.con (.bl B'))) .nil))))))
theorem xf{ds pre post:List Dt}{x:Dt}(h:gM ds ds=pre++x::post):∃y∈ds,x= .tup [y,y]:=by
 have hx:x∈gM ds ds:=by rw[h];simp
 unfold gM at hx;have:List.zipWith (λx y=>Dt.tup [x,y]) ds ds=ds.map λy=>Dt.tup [y,y]:=by
  clear h hx
  induction ds with
  |nil=>rfl
  |cons d ds ih=>simp[ih]
 rw[this,Ub]at hx;obtain⟨y,h1,h2⟩:=hx;exact#[y,h1,h2.symm]
theorem vo{is:Nat}(hf:fs[is]?=U #[2,4,G',pz is]):∀(n:Nat)(d:Dt),sm d=B'->dp d<n->ai fs n is [d,d] y'= .ok (.bl B',y')
 |0,d,_,h=>by lia
 |n+1,d,h,hd=>by
  have ih:=vo hf n;have main:∀ds:List Dt,C5 ds=B'->rf ds<n->(d= .tup ds\/d= .lst ds)->ai fs (n+1) is [d,d] y'= .ok (.bl B',y'):=by
   intro ds hs hl hd;have hlen:dw .len [d]= .ok (.int ds.length):=by rcases hd with rfl|rfl<;>rfl
   have Mg:cA d=U ds:=by rcases hd with rfl|rfl<;>rfl
   have i1:dw (.isi "str") [d]= .ok (.bl G'):=by rcases hd with rfl|rfl<;>rfl
   have i2:dw (.isi "int") [d]= .ok (.bl G'):=by rcases hd with rfl|rfl<;>rfl
   have i3:(∃b,dw (.isi "list") [d]= .ok (.bl b))/\∃b,dw (.isi "tuple") [d]= .ok (.bl b):=by rcases hd with rfl|rfl<;>exact#[#[_,rfl],#[_,rfl]]
   obtain⟨⟨b3,i3⟩,⟨b4,i4⟩⟩:=i3;have e3:∀b:Bool,bT .NotEq (.bl b) (.bl b)= .ok G':=λb=>by cases b<;>rfl
   have loop:=dW (S:=y') (tg:=.tp [2,3]) (body:=az (ai fs n) (.cons (.ifs (.nt (.call is (.cons (.var 2) (.cons (.var 3) .nil)) [])) (.cons (.ret (.con (.bl G'))) .nil) .nil) .nil)) (ds:=gM ds ds)
    (ρ:=[U d,U d,y',y']) (λpre ρ=>∃a b,ρ=[U d,U d,a,b]) #[y',y',rfl] (by
     rintro pre x post ρ e ⟨a,b,rfl⟩;obtain⟨y,hy,rfl⟩:=xf e;have:=vw hs hy;have hc:=ih y this.1 ⋯;exact#[[U d,U d,U y,U y],_,rfl,rY (by simp only[RX,hc];rfl) rfl,U y,U y,rfl])
   obtain⟨ρ1,mf,a,b,rfl⟩:=loop;refine ax hf ⋯ rfl ?_;show fin (az (ai fs n) (pz is) [U d,U d,y',y'] y')=_;refine au (VY (R.bind · _) i1) (au (VY (R.bind · _) i2) (au (by simp only[RX,i3,i4,e3];rfl) (au (by simp only[RX,hlen];simp) ?_)));refine dB (ds:=gM ds ds) (Fv rfl rfl Mg Mg) rfl mf (ae rfl)
  cases d with
  |str x=>refine ax hf ⋯ rfl ?_;show fin (az (ai fs n) (pz is) [U (.str x),U (.str x),y',y'] y')=_;have i1:dw (.isi "str") [.str x]= .ok (.bl B'):=rfl;exact aA (by simp only[RX,i1]) (ae (by simp only[RX,i1];simp))
  |int x=>refine ax hf ⋯ rfl ?_;show fin (az (ai fs n) (pz is) [U (.int x),U (.int x),y',y'] y')=_;have i1:dw (.isi "str") [.int x]= .ok (.bl G'):=rfl;have i2:dw (.isi "int") [.int x]= .ok (.bl B'):=rfl;have i3:dw (.isi "bool") [.int x]= .ok (.bl G'):=rfl;exact au (by simp only[RX,i1]) (aA (by simp only[RX,i2]) (ae (by simp only[RX,i2,i3,Bool.not_false];simp)))
  |tup ds=>exact main ds (by simpa [sm]using h) (by simp only[dp]at hd;lia) (.inl rfl)
  |lst ds=>exact main ds (by simpa [sm]using h) (by simp only[dp]at hd;lia) (.inr rfl)
  |_=>simp[sm]at h
def ph(x:Str):Mx.D:=.tup [.str "any",.str x]
def ofT(x:Str)(ps:List Mx.D):Mx.D:=.tup [.str "of",.str x,.tup ps]
theorem rR:∀{xs ys:List Mx.D},(∀x∈xs,∀y∈ys,kI x y=B')->ik xs ys=B'
 |[],_,_=>by simp[ik]
 |_::_,[],_=>by simp[ik]
 |x::xs,y::ys,h=>by simp only[ik,Ti];exact#[h x Tt y Tt,rR λa ha b hb=>h a (Tp _ ha) b (Tp _ hb)]
theorem kD{ds:List Dt}{d:Dt}:bB (.lst (ds++[d])) (.int (-1))= .ok d:=by show xM (ds++[d]) (-1)=_;unfold xM;rw[Mx.xN]
theorem B3{n:Nat}:o7 (n+1) (-1)=U n:=by
 unfold o7;rw[V1 (by decide),V2 ⋯];congr 1
 lia
theorem ne_nil{ds:List Dt}{d:Dt}(h1:oE (ds++[d])=B')(h2:rf (ds++[d])<100):bT .NotEq (.lst (ds++[d])) (.lst [])= .ok B':=by show af (lL (.lst (ds++[d])) (.lst [])) (.ok (!cu (.lst (ds++[d])) (.lst [])))=_;rw[show lL (.lst (ds++[d])) (.lst [])=B' by simp[lL,pl,oE,dp,h1];lia,guard_true];cases ds<;>simp[cu,bY]
theorem zo{α:Type}:∀l:List α,l=[]\/∃a x,l=a++[x]
 |[]=>.inl rfl
 |x::l=>.inr #[(x::l).dropLast,(x::l).getLast (by simp),(UU (by simp)).symm]
theorem C2{α:Type}(a:List α)(x y:α){n:Nat}(h:n=a.length):(a++[x]).set n y=a++[y]:=by subst h;simp
variable{fs:List Fn}
def pd(L:Nat)(Q:Mx.D->Prop)(it:Mx.D):Prop:=(∃x,it=ph x)\/∃x ps,it=ofT x ps/\ps.length<=L/\∀p∈ps,Q p
def row(it:Mx.D)(c:Int):Mx.D:=.tup [it,.int c]
def jo(L:Nat)(P:Int->Prop)(Q:Mx.D->Prop)(r:Mx.D):Prop:=∃it c,r=row it c/\P c/\pd L Q it
def mW(L:Nat)(P:Int->Prop):Nat->Mx.D->Prop
 |0,_=>False
 |n+1,d=>∃rs,d= .tup rs/\rs.length<=L/\∀r∈rs,jo L P (mW L P n) r
section
variable{L L':Nat}{P P':Int->Prop}
theorem pd.imp{Q Q':Mx.D->Prop}{it:Mx.D}(hL:L<=L')(h:∀p,Q p->Q' p):pd L Q it->pd L' Q' it:=Or.imp id λ#[x,ps,e,h1,h2]=>#[x,ps,e,Tz h1 hL,λp hp=>h p (h2 p hp)]
theorem mW.mono(hL:L<=L')(hP:∀c,P c->P' c):∀{n m:Nat}{d:Mx.D},n<=m->mW L P n d->mW L' P' m d
 |0,_,_,_,h=>h.elim
 |n+1,0,_,h,_=>by lia
 |n+1,m+1,d,hn,#[rs,e,h1,h2]=>#[rs,e,Tz h1 hL,λr hr=>by
  obtain⟨it,c,e,h3,h4⟩:=h2 r hr;exact#[it,c,e,hP c h3,h4.imp hL λp hp=>mW.mono hL hP ⋯ hp]]
theorem yi{m:Nat}{it:Mx.D}{Q:Mx.D->Prop}(hQ:∀d,Q d->Mx.D.dep d<=m)(h:pd L Q it):Mx.D.dep it<=m+2:=by
 rcases h with ⟨x,rfl⟩|⟨x,ps,rfl,_,hp⟩
 ·simp[ph,Mx.D.dep,Mx.D.cF]
 ·have:=gW λp pX=>hQ p (hp p pX)
  simp[ofT,Mx.D.dep,Mx.D.cF]
  lia
theorem yj{m:Nat}{r:Mx.D}{Q:Mx.D->Prop}(hQ:∀d,Q d->Mx.D.dep d<=m)(h:jo L P Q r):Mx.D.dep r<=m+3:=by
 obtain⟨it,c,rfl,_,hi⟩:=h;have:=yi hQ hi;simp[row,Mx.D.dep,Mx.D.cF]
 lia
theorem tV:∀{n:Nat}{d:Mx.D},mW L P n d->Mx.D.dep d<=4*n
 |0,d,h=>h.elim
 |n+1,d,#[rs,e,_,h]=>by
  subst e;have:Mx.D.cF rs<=4*n+3:=gW λr hr=>yj (λd hd=>tV hd) (h r hr)
  simp only[Mx.D.dep]
  lia
theorem JZ{Q Q':Mx.D->Prop}{a b:Mx.D}(hq:∀p q,Q p->Q' q->kI p q=B')(ha:pd L Q a)(hb:pd L' Q' b):kI a b=B':=by
 rcases ha with ⟨x,rfl⟩|⟨x,ps,rfl,_,hp⟩<;>rcases hb with ⟨y,rfl⟩|⟨y,qs,rfl,_,R1⟩
 ·simp[ph,kI,ik]
 ·simp[ph,ofT,kI,ik]
 ·simp[ph,ofT,kI,ik]
 ·simp only[ofT,kI,ik,Bool.true_and,Uy];exact rR λp jh q N5=>hq p q (hp p jh) (R1 q N5)
theorem DO{Q Q':Mx.D->Prop}{a b:Mx.D}(hq:∀p q,Q p->Q' q->kI p q=B')(ha:jo L P Q a)(hb:jo L' P' Q' b):kI a b=B':=by obtain⟨i,c,rfl,_,hi⟩:=ha;obtain⟨j,d,rfl,_,hj⟩:=hb;simp only[row,kI,ik,Uy];exact JZ hq hi hj
theorem JY:∀{n m:Nat}{a b:Mx.D},mW L P n a->mW L' P' m b->kI a b=B'
 |0,_,_,_,h,_=>h.elim
 |_+1,0,_,_,_,h=>h.elim
 |n+1,m+1,a,b,#[rs,e1,_,h1],#[qs,e2,_,h2]=>by subst e1 e2;simp only[kI];exact rR λr hr q hq=>DO (λp q hp hq=>JY hp hq) (h1 r hr) (h2 q hq)
theorem Du{n:Nat}{ms:List Mx.D}(hn:n<=20)(hl:ms.length<1000000)(h:∀m∈ms,jo L P (mW L P n) m):jq ms=B':=by
 refine EG .tt hl (gW λd hd=>?_) (λd hd=>?_) λd hd e he=>DO (λp q hp hq=>JY hp hq) (h d hd) (h e he)
 ·have:=yj (λd hd=>tV hd) (h d hd)
  lia
 ·obtain⟨it,c,rfl,_,hi⟩:=h d hd;rcases hi with ⟨x,rfl⟩|⟨x,ps,rfl,_⟩<;>rfl
end
def hZ:Mx.D->Mx.D
 |.tup (it::_)=>it
 |d=>d
def tU:Mx.D->Int
 |.tup [_,.int c]=>c
 |_=>0
theorem b8(it:Mx.D)(c:Int):hZ (row it c)=it:=rfl
theorem nE(it:Mx.D)(c:Int):tU (row it c)=c:=rfl
def gr(it:Mx.D)(c:Int):List Mx.D->List Mx.D
 |[]=>[row it c]
 |r::rs=>if it=hZ r then gr (hZ r) (c+tU r) rs else row it c::gr (hZ r) (tU r) rs
def rB:List Mx.D->List Mx.D
 |[]=>[]
 |r::rs=>gr (hZ r) (tU r) rs
def kn(ms:List Mx.D):List Mx.D:=rB (bN ms)
theorem nV(r:Mx.D):∀(rs:List Mx.D)(it:Mx.D)(c:Int),∃init gC c',gr it c rs=init++[row gC c']/\gr it c (rs++[r])=if gC=hZ r then init++[row (hZ r) (c'+tU r)] else init++[row gC c']++[row (hZ r) (tU r)]
 |[],it,c=>#[[],it,c,rfl,by simp only[Vn,gr];split<;>rfl]
 |s::rs,it,c=>by
  simp only[UT,gr];by_cases h:it=hZ s
  ·rw[V2 h,V2 h];exact nV r rs _ _
  ·rw[V1 h,V1 h];obtain⟨init,gC,c',h1,h2⟩:=nV r rs (hZ s) (tU s);refine#[row it c::init,gC,c',by rw[h1];rfl,?_];rw[h2];split<;>rfl
theorem nT:∀(rs:List Mx.D)(it:Mx.D)(c:Int),(gr it c rs).length<=rs.length+1
 |[],it,c=>by simp[gr]
 |r::rs,it,c=>by
  rw[gr];split
  ·have:=nT rs (hZ r) (c+tU r);rw[TN];lia
  ·have:=nT rs (hZ r) (tU r);rw[TN,TN];lia
theorem ko:∀(rs:List Mx.D)(it:Mx.D)(c:Int),(gr it c rs).map hZ=it::uq (U it) (rs.map hZ)
 |[],it,c=>by simp[gr,uq,b8]
 |r::rs,it,c=>by
  rw[gr,Ul,uq];by_cases h:it=hZ r
  ·rw[V2 h,V2 (by rw[h]),ko rs,h]
  ·rw[V1 h,V1 (λz=>h (VN z)),Ul,ko rs,b8]
theorem nU{S:Mx.D->Prop}(hS:∀it c d,S (row it c)->0<c->0<d->S (row it (c+d))):∀(rs:List Mx.D)(it:Mx.D)(c:Int),S (row it c)->0<c->(∀r∈rs,S r/\∃i k,r=row i k/\0<k)->∀r∈gr it c rs,S r/\∃i k,r=row i k/\0<k
 |[],it,c,h,hc,_,r,hr=>by simp only[gr,Ua]at hr;subst hr;exact#[h,it,c,rfl,hc]
 |q::rs,it,c,h,hc,hs,r,hr=>by
  obtain⟨hq,i,k,e,hk⟩:=hs q Tt;subst e;have Ie:∀r∈rs,S r/\∃i k,r=row i k/\0<k:=λr hr=>hs r (Tp _ hr)
  rw[gr,b8,nE]at hr;split at hr
  ·rename_i e;subst e;exact nU hS rs it (c+k) (hS _ _ _ h hc hk) ⋯ Ie r hr
  ·rcases TC.mp hr with rfl|hr
   ·exact#[h,it,c,rfl,hc]
   ·exact nU hS rs i k hq hk Ie r hr
theorem dY(ms:List Mx.D):(kn ms).length<=ms.length:=by
 unfold kn;have:=(gJ ms).length_eq;cases h:bN ms with
 |nil=>simp[rB]
 |cons r rs=>rw[h]at this;rw[<-this];exact nT rs _ _
theorem md{S:Mx.D->Prop}(hS:∀it c d,S (row it c)->0<c->0<d->S (row it (c+d))){ms:List Mx.D}(hs:∀r∈ms,S r/\∃i k,r=row i k/\0<k):∀r∈kn ms,S r/\∃i k,r=row i k/\0<k:=by
 unfold kn;have Ie:∀r∈bN ms,S r/\∃i k,r=row i k/\0<k:=λr hr=>hs r (mI.mp hr)
 cases h:bN ms with
 |nil=>intro r hr;cases hr
 |cons q rs=>rw[h]at Ie;obtain⟨h1,i,k,e,hk⟩:=Ie q Tt;subst e;exact nU hS rs i k h1 hk λr hr=>Ie r (Tp _ hr)
def IA(t:C):Ts:=(.cons (.ifs (.and t (.cmp .Eq (.idx (.idx (.mvr 1) (.neg (.con (.int 1)))) (.con (.int 0))) (.var 2))) (.cons (.wR 1 (.neg (.con (.int 1))) (.tup (.cons (.var 2) (.cons (.bin .Add (.idx (.idx (.mvr 1) (.neg (.con (.int 1)))) (.con (.int 1))) (.var 3)) .nil)))) .nil) (.cons (.app 1 (.tup (.cons (.var 2) (.cons (.var 3) .nil)))) .nil)) .nil)
def Iz(t:C):Ts:=(.cons (.asgM 1 (.lst .nil)) (.cons (.fr (.tp [2,3]) (.seq (.bi .sorted (.cons (.var 0) .nil))) (IA t)) (.cons (.ret (.bi .tuple (.cons (.mvr 1) .nil))) .nil)))
theorem yP{p:List Mx.D}{it:Mx.D}{c:Int}:(rB p=[]/\p=[]/\rB (p++[row it c])=[row it c])\/∃init gC c',rB p=init++[row gC c']/\rB (p++[row it c])=if gC=it then init++[row it (c'+c)] else init++[row gC c']++[row it c]:=by
 cases p with
 |nil=>exact .inl #[rfl,rfl,rfl]
 |cons r rs=>exact .inr (nV (row it c) rs _ _)
theorem yH{ig:Nat}{t:C}(hf:fs[ig]?=U #[1,4,G',Iz t]){N n L:Nat}{P:Int->Prop}(hN:1<=N)(hn:n<=20){ms:List Mx.D}{d:Dt}(hd:d= .lst (aq ms)\/d= .tup (aq ms))(hl:ms.length<1000000)(h:∀m∈ms,jo L P (mW L P n) m)
  (ht:∀(rs:List Mx.D)(x y z:Option Dt),Mx.D.cF rs<=90->aQ (ai fs (N-1)) t [x,U (.lst (aq rs)),y,z] y'= .ok (!rs.isEmpty,y')):ai fs N ig [d] y'= .ok (.tup (aq (kn ms)),y'):=by
 have v7:lim=1000000:=rfl;have hs:dw .sorted [d]= .ok (.lst (aq (bN ms))):=by
  rcases hd with rfl|rfl
  ·exact(lW (Du hn hl h)).1
  ·exact(lW (Du hn hl h)).2
 have mh:(bN ms).length=ms.length:=(gJ ms).length_eq;have Qj:∀r∈bN ms,∃it c,r=row it c/\Mx.D.dep it<=82:=λr hr=>by obtain⟨it,c,e,_,hi⟩:=h r (mI.mp hr);have:=yi (λd hd=>tV hd) hi;exact#[it,c,e,⋯]
 have grows:∀{p q:List Mx.D},bN ms=p++q->∀r∈rB p,∃it c,r=row it c/\Mx.D.dep it<=82:=λ {p q} e r hr=>by
  have hi:hZ r∈(rB p).map hZ:=Ub.mpr #[r,hr,rfl];have hp:∀r∈p,∃it c,r=row it c/\Mx.D.dep it<=82:=λr hr=>Qj r (by rw[e];exact Vi _ hr)
  have key:hZ r∈p.map hZ/\∃i c,r=row i c:=by
   cases p with
   |nil=>cases hr
   |cons q0 rs=>
    have hi:hZ r∈(gr (hZ q0) (tU q0) rs).map hZ:=hi;rw[ko]at hi;refine#[?_,?_]
    ·rw[Ul];rcases TC.mp hi with e|e
     ·rw[e];exact Tt
     ·exact Tp _ (td e)
    ·have:∀(rs:List Mx.D)(it:Mx.D)(c:Int),∀r∈gr it c rs,∃i c,r=row i c:=by
      intro rs
      induction rs with
      |nil=>intro it c r hr;simp only[gr,Ua]at hr;exact#[it,c,hr]
      |cons q rs ih=>
       intro it c r hr;rw[gr]at hr;split at hr
       ·exact ih _ _ r hr
       ·rcases TC.mp hr with e|hr
        ·exact#[it,c,e]
        ·exact ih _ _ r hr
     exact this rs _ _ r hr
  obtain⟨k1,i,c,e⟩:=key;subst e;obtain⟨q1,N5,e1⟩:=Ub.mp k1;obtain⟨i',c',e2,hd⟩:=hp q1 N5;subst e2;rw[b8,b8]at e1;exact#[i,c,rfl,by rw[<-e1];exact hd]
 have loop:=dW (S:=y') (tg:=.tp [2,3]) (body:=az (ai fs (N-1)) (IA t)) (ds:=aq (bN ms))
  (ρ:=[U d,U (.lst []),y',y'])
  (λpre ρ=>∃p a b,pre=aq p/\ρ=[U d,U (.lst (aq (rB p))),a,b]) #[[],y',y',rfl,rfl] (by
   rintro pre x post ρ e ⟨p,a,b,rfl,rfl⟩;obtain⟨p',y,q,e1,e2,rfl,rfl⟩:=sP e;have:=VY fK e2;rw[dE,dE]at this;cases this;obtain⟨it,c,rfl,hd⟩:=Qj y (by rw[e1];simp);have lG:p.length<ms.length:=by rw[<-mh,e1];simp
   have gl:(rB p).length<=p.length:=by
    cases p with
    |nil=>simp[rB]
    |cons r rs=>exact nT rs _ _
   have gd:Mx.D.cF (rB p)<=90:=gW λd hd=>by
    obtain⟨i,c,rfl,h⟩:=grows e1 d hd;simp[row,Mx.D.dep,Mx.D.cF]
    lia
   have Fo:=ht (rB p) (U d) (U (ofD it)) (U (.int c)) gd;have eo:aq (p++[row it c])=aq p++[ofD (row it c)]:=by rw[bH];simp[aq]
   have er:ofD (row it c)= .tup [ofD it,.int c]:=by simp[row,ofD,aq]
   refine#[[U d,U (.lst (aq (rB p))),U (ofD it),U (.int c)],[U d,U (.lst (aq (rB (p++[row it c])))),U (ofD it),U (.int c)],by rw[er];rfl,?_,p++[row it c],U (ofD it),U (.int c),by rw[eo],rfl];rcases yP (p:=p) (it:=it) (c:=c)with ⟨g1,g2,g3⟩|⟨init,gC,c',g1,g2⟩
   ·rw[g1]at Fo ⊢;rw[g3];refine rY (VY (R.bind · _) Fo) (kR (ds:=[]) (d:=.tup [ofD it,.int c]) rfl rfl rfl (by simp) ?_);simp[aq,er];rfl
   ·have SX:Mx.D.dep gC<=82:=by obtain⟨i,k,e,hd⟩:=grows e1 (row gC c') (by rw[g1];simp);have:=VY hZ e;rw[b8,b8]at this;rw[this];exact hd
    have hq:=BC (a:=gC) (b:=it) ⋯;rw[g1]at Fo gl ⊢;have lF:(!(init++[row gC c']).isEmpty)=B':=by cases init<;>rfl
    rw[lF]at Fo;have el:aq (init++[row gC c'])=aq init++[.tup [ofD gC,.int c']]:=by rw[bH];simp[row,ofD,aq]
    rw[el]at Fo ⊢;rw[g2];rw[TK]at gl;by_cases heq:gC=it
    ·rw[T5 heq]at hq;rw[V2 heq];refine Cj (by simp only[RX,Fo,kD,hq,V3]) (nx (BE (ds:=aq init++[.tup [ofD gC,.int c']]) (d:=.tup [ofD it,.int (c'+c)]) (n:= -1) (j:=init.length) rfl (by simp only[RX,kD]) (by simp only[RX]) rfl (by rw[TK,ba];exact B3)) ?_);rw[C2 (aq init) _ _ (ba init).symm,bH];simp[row,ofD,aq];rfl
    ·rw[T1 heq]at hq;rw[V1 heq];refine rY (by simp only[RX,Fo,kD,hq,V3]) (kR (ds:=aq init++[.tup [ofD gC,.int c']]) (d:=.tup [ofD it,.int c]) rfl rfl rfl (by rw[TK,ba];simp only[TN,U8]at gl ⊢;lia) ?_);rw[bH (init++_),el];simp[row,ofD,aq];rfl)
 obtain⟨ρ1,mf,p,a,b,e1,rfl⟩:=loop;have:=VY fK e1;rw[dE,dE]at this;cases this;refine ax hf hN rfl ?_;show fin (az (ai fs (N-1)) (Iz t) [U d,y',y',y'] y')=_;exact gZ (d:=.lst []) rfl rfl (dB (ds:=aq (bN ms)) (by simp only[RX,hs]) rfl mf (ae (by simp only[RX];rfl)))
def O6:C:=.cmp .NotEq (.mvr 1) (.lst .nil)
theorem Pc{F:FT}(rs:List Mx.D)(x y z:Option Dt)(h:Mx.D.cF rs<=90):aQ F O6 [x,U (.lst (aq rs)),y,z] y'= .ok (!rs.isEmpty,y'):=by
 rcases zo rs with rfl|⟨a,b,rfl⟩
 ·rfl
 ·have e:(!(a++[b]).isEmpty)=B':=by cases a<;>rfl
  have eo:aq (a++[b])=aq a++[ofD b]:=by rw[bH];simp[aq]
  have:=ne_nil (ds:=aq a) (d:=ofD b) (by rw[<-eo];exact sC _) (by rw[<-eo,rh];lia);rw[e,eo];unfold O6;simp only[RX,this]
theorem Pb{F:FT}(rs:List Mx.D)(x y z:Option Dt):aQ F (.mvr 1) [x,U (.lst (aq rs)),y,z] y'= .ok (!rs.isEmpty,y'):=by cases rs<;>simp[qi,bJ,cw,aq]
variable{fs:List Fn}
section
variable{F:FT}{S:Sx}{ρ:aj}
theorem yy(b:BI)(e:C):ev F (.bi b (.cons e .nil)) ρ S=(ev F e ρ S).bind λx=>(dw b [x.1]).bind λd=>.ok (d,x.2):=by simp only[RX];cases ev F e ρ S<;>rfl
theorem ka{f:Dt->Sx->R (List Dt×Sx)}{g:Mx.D->Dt}:∀{ms:List Mx.D},(∀m∈ms,f (ofD m) S= .ok ([g m],S))->bU f (aq ms) S= .ok (ms.map g,S)
 |[],_=>rfl
 |m::ms,h=>by rw[aq,bU,h m Tt,R.ah,ka λy hy=>h y (Tp _ hy)];rfl
end
def Kx:Mx.D->List Mx.D
 |.tup rs=>rs
 |_=>[]
theorem vt{ρ:aj}{i j:Nat}(it:Mx.D)(c:Int):fg (.tp [i,j]) (ofD (row it c)) ρ= .ok ((ρ.set i (U (ofD it))).set j (U (.int c))):=by
 have e:ofD (row it c)= .tup [ofD it,.int c]:=by simp[row,ofD,aq]
 rw[e];rfl
variable{fs:List Fn}
abbrev Pos(c:Int):Prop:=0<c
abbrev HM(c:Int):Prop:=0<c/\c<18446744073709551616
def mulR(c:Int)(f:Mx.D):List Mx.D:=(Kx f).map λr=>row (hZ r) (c*tU r)
def nq:Ts:=(.cons (.ifs (.cmp .Eq (.var 0) (.con (.int 0))) (.cons (.ret (.tup .nil)) .nil) .nil) (.cons (.ret (.bi .tuple (.cons (.comp [y',y',y',U 0] (.seq (.var 1)) (.tp [1,2]) .nil (.tup (.cons (.var 1) (.cons (.bin .Mult (.var 3) (.var 2)) .nil)))) .nil))) .nil))
theorem jL(rs:List Mx.D):ofD (.tup rs)= .tup (aq rs):=by simp[ofD]
theorem uU(it:Mx.D)(c:Int):ofD (row it c)= .tup [ofD it,.int c]:=by simp[row,ofD,aq]
theorem zw{F:FT}{c:Int}{L k:Nat}{P:Int->Prop}{rs:List Mx.D}(hc:HM c)(hr:∀r∈rs,jo L P (mW L P k) r):
  bU (cC (.tp [1,2]) (dS F .nil) (f7 F (.tup (.cons (.var 1) (.cons (.bin .Mult (.var 3) (.var 2)) .nil)))) [y',y',y',U (.int c)]) (aq rs) y'= .ok (aq (mulR c (.tup rs)),y'):=by
 have e:aq (mulR c (.tup rs))=rs.map λr=>ofD (row (hZ r) (c*tU r)):=by unfold mulR;rw[cg,Vg];rfl
 rw[e];refine ka λr h=>?_
 obtain⟨it,d,rfl,_,_⟩:=hr r h;have m1:=bp (i:=c) (j:=d) (.inl (by have:=hc.1;have:=hc.2;lia));exact iM (ρ1:=[y',U (ofD it),U (.int d),U (.int c)]) (by rw[vt];rfl) (by simp only[RX,m1,b8,nE,uU]) rfl
theorem AG{it N L k:Nat}{P:Int->Prop}(hf:fs[it]?=U #[2,2,G',nq])(hN:1<=N)(hL:L<=lim){c:Int}(hc:HM c){f:Mx.D}(h:mW L P k f):ai fs N it [.int c,ofD f] y'= .ok (.tup (aq (mulR c f)),y'):=by
 obtain⟨k,rfl⟩:∃j,k=j+1:=by cases k with|zero=>exact h.elim|succ m=>exact#[m,rfl]
 obtain⟨rs,e,hl,hr⟩:=h;subst e;refine ax hf hN rfl ?_;show fin (az (ai fs (N-1)) nq [U (.int c),U (ofD (.tup rs))] y')=_;rw[jL];have c0:(c==0)=G':=VW.mpr (by have:=hc.1;lia);refine au (by simp only[RX,c0]) (ae ?_);have kz:=gY (F:=ai fs (N-1)) (cap:=[y',y',y',U 0]) (it:=.seq (.var 1)) (tg:=.tp [1,2]) (cs:=.nil) (e:=.tup (.cons (.var 1) (.cons (.bin .Mult (.var 3) (.var 2)) .nil))) (ρ:=[U (.int c),U (.tup (aq rs))]) (S:=y') (ds:=aq rs) rfl (by rw[ba];lia) rfl (zw hc hr);rw[yy,kz];rfl
variable{F:FT}{ρ:aj}{S:Sx}
def tx(l:List Nat):Str:=⟨l.toArray⟩
theorem aO(l:List Nat):(tx l).length=l.length:=by simp[tx,Str.length]
theorem bD(l:List Nat):(tx l).cps.toList=l:=by simp[tx]
theorem qB(z:Str):tx z.cps.toList=z:=by simp[tx]
theorem Hs(a b:List Nat):tx a++tx b=tx (a++b):=by show (⟨a.toArray++b.toArray⟩:Str)=_;simp[tx]
theorem Ht{a b:List Nat}(h:tx a=tx b):a=b:=by have:=VY (λz:Str=>z.cps.toList) h;simpa [tx]using this
theorem eT(a b:List Nat):(tx a==tx b)=(a==b):=by
 by_cases h:a=b
 ·subst h;simp
 ·rw[VW.mpr h,VW.mpr λe=>h (Ht e)]
theorem nZ(n i j:Nat):Builtin.Str.strSliceIndices (U (i:Int)) (U (j:Int)) 1 n=Builtin.Str.strSliceIndices (U ((min i n:Nat):Int)) (U ((min j n:Nat):Int)) 1 n:=by
 have a:∀k:Nat,¬((k:Int)<0):=λk=>by lia
 have e:∀k:Nat,max (0:Int) (min (k:Int) (n:Int))=max (0:Int) (min ((min k n:Nat):Int) (n:Int)):=λk=>by lia
 simp only[Builtin.Str.strSliceIndices,V1 (a _),show (1:Int)>0 by decide,V3];rw[e i,e j]
theorem nF(x:Str){i j:Nat}(h:i<=j):PySem.Txt.slice x (U (i:Int)) (U (j:Int))=tx ((x.cps.toList.drop i).take (j-i)):=by
 have hl:x.cps.toList.length=x.length:=by simp[Str.length]
 unfold PySem.Txt.slice;rw[nZ];refine(PySem.StrLaws.sliceText_nat x (a:=min i x.length) (b:=min j x.length) ⋯ ⋯).trans ?_;show tx _=tx _;congr 1;by_cases hi:i<=x.length
 ·rw[Nat.min_eq_left hi];by_cases hj:j<=x.length
  ·rw[Nat.min_eq_left hj]
  ·rw[Vv (by rw[U7];lia),Vv (by rw[U7];lia)]
 ·rw[List.drop_eq_nil_of_le ⋯,List.drop_eq_nil_of_le ⋯,List.take_nil,List.take_nil]
theorem dF{a l h:C}{z:List Nat}{i j:Nat}(hz:z.length<=1000)(gB:i<=j)(ha:ev F a ρ S= .ok (.str (tx z),S))(hl:ev F l ρ S= .ok (.int i,S))(hh:ev F h ρ S= .ok (.int j,S)):ev F (.sliB a l h) ρ S= .ok (.str (tx ((z.drop i).take (j-i))),S):=by rw[qk,ha,R.ah,hl,R.ah];simp only[hh,R.ah];show (af (decide ((tx z).length<=lim)) _).bind _=_;rw[aO,T5 (Tz hz (by decide)),guard_true,R.ah,nF _ gB,bD]
theorem DL{a b:List Nat}:bT .LtE (.str (tx a)) (.str (tx b))= .ok (!decide (b<a)):=by show R.ok (!decide ((tx b).cps.toList<(tx a).cps.toList))=_;rw[bD,bD]
theorem zk(a b:Nat):(!decide ([b]<[a]))=decide (a<=b):=by
 have:([b]<[a])↔b<a:=by
  constructor
  ·intro h;cases h with
   |rel h=>exact h
   |cons h=>cases h
  ·exact λh=>List.Lex.rel h
 rw[decide_eq_decide.mpr this];by_cases h:a<=b
 ·rw[T5 h,T1 ⋯];rfl
 ·rw[T1 h,T5 ⋯];rfl
theorem zf{z l:List Nat}{c k:Nat}(hz:z.length<=1000)(h:z.drop k=c::l):bB (.str (tx z)) (.int k)= .ok (.str (tx [c])):=by
 have hk:k<z.length:=by
  have:=VY List.length h;rw[U7,TN]at this
  lia
 rw[fz (d:=0) (by rw[aO];exact Tz hz (by decide)) (by rw[aO];exact hk),bD];have e:z.getD k 0=c:=by rw[UV hk]at h;rw[U0,TZ hk];exact(List.cons.inj h).1
 rw[e];rfl
end Rx
end
section
namespace Rx
inductive Tm(W N:Type)where
 |nil|any (w:W)|th0 (w:W)|th1 (w:W) (a:Tm W N)|th2 (w:W) (a b:Tm W N)|th3 (w:W) (a b c:Tm W N)|plus (a b:Tm W N)|times (n:N) (a:Tm W N)
 deriving DecidableEq
def xu{W N:Type}(w:W):List (Tm W N)->Tm W N
 |[]=>.th0 w
 |[a]=>.th1 w a
 |[a,b]=>.th2 w a b
 |a::b::c::_=>.th3 w a b c
structure Lx(σ W N:Type)where
 Mk:σ->Option σ
 op:σ->Option σ
 cl:σ->Option σ
 pl:σ->Option σ
 cm:σ->Option σ
 num:σ->Option (N×σ)
 low:σ->Option (Option (W×σ))
 Mu:σ->Option (Option (W×σ))
section
variable{σ W N:Type}(X:Lx σ W N)
abbrev Pr(σ W N:Type):=σ->Option (Tm W N×σ)
def dh(part:Pr σ W N):Nat->Tm W N->σ->Option (Tm W N×σ)
 |0,_,_=>y'
 |k+1,f,l=>match X.pl l with
  |none=>U (f,l)
  |some r=>(part r).bind λp=>dh part k (.plus f p.1) p.2
def d8(sum:Pr σ W N):Nat->List (Tm W N)->σ->Option (List (Tm W N)×σ)
 |0,fs,l=>U (fs,l)
 |k+1,fs,l=>match X.cm l with
  |none=>U (fs,l)
  |some r=>(sum r).bind λp=>d8 sum k (fs++[p.1]) p.2
def zE(sum:Pr σ W N)(most:Nat)(l:σ):Option (List (Tm W N)×σ):=
 (sum l).bind λp=>(d8 X sum (most-1) [p.1] p.2).bind λq=>(X.cl q.2).map λr=>(q.1,r)
def pThing(br:Nat->σ->Option (List (Tm W N)×σ))(w:W)(r:σ):Option (Tm W N×σ):=match X.op r with
 |none=>U (.th0 w,r)
 |some r2=>(br 3 r2).map λp=>(xu w p.1,p.2)
def iA(br:Nat->σ->Option (List (Tm W N)×σ)):Pr σ W N:=λl=>match X.op l with
 |some r=>(br 1 r).map λp=>(p.1.headD .nil,p.2)
 |none=>(X.low l).bind λo=>match o with
  |some q=>U (.any q.1,q.2)
  |none=>(X.Mu l).bind λo=>o.bind λq=>pThing X br q.1 q.2
def cn(br:Nat->σ->Option (List (Tm W N)×σ)):Pr σ W N:=λl=>match X.Mk l with
 |some r=>U (.nil,r)
 |none=>(X.num l).bind λp=>(iA X br p.2).map λq=>(.times p.1 q.1,q.2)
def jk(br:Nat->σ->Option (List (Tm W N)×σ)):Pr σ W N:=λl=>(cn X br l).bind λp=>dh X (cn X br) 1000 p.1 p.2
def II(o:Option (Pr σ W N)):Nat->σ->Option (List (Tm W N)×σ):=match o with
 |none=>λ_ _=>y'
 |some s=>zE X s
def bC:Nat->Pr σ W N
 |0=>jk X (II X y')
 |d+1=>jk X (II X (U (bC d)))
end
end Rx
end
section
namespace Rx
open PySem PySem.W PySem.Spec PyProof.Rows L2
abbrev TM:=Tm (List Nat) Nat
def lit(s l:List Nat):Option (List Nat):=if l.take s.length=s then U (l.drop s.length) else y'
def run(lo hi:Nat)(l:List Nat):List Nat:=l.takeWhile λc=>decide (lo<=c)&&decide (c<=hi)
def jx(l:List Nat):Option (Nat×List Nat):=if run 48 57 l=[] then U (1,l) else if 18<(run 48 57 l).length then y' else U (PySem.NumText.digitsVal (run 48 57 l),l.drop (run 48 57 l).length)
def eB(lo hi:Nat)(l:List Nat):Option (Option (List Nat×List Nat)):=if 6<(run lo hi l).length then y' else U (if run lo hi l=[] then y' else U (run lo hi l,l.drop (run lo hi l).length))
def aK:Lx (List Nat) (List Nat) Nat:=#[lit [48],lit [40],lit [41],lit [32,43,32],lit [44,32],jx,eB 97 122,eB 65 90]
def val:TM->List Mx.D
 |.nil=>[]
 |.any w=>[row (ph (tx w)) 1]
 |.th0 w=>[row (ofT (tx w) []) 1]
 |.th1 w a=>[row (ofT (tx w) [.tup (val a)]) 1]
 |.th2 w a b=>[row (ofT (tx w) [.tup (val a),.tup (val b)]) 1]
 |.th3 w a b c=>[row (ofT (tx w) [.tup (val a),.tup (val b),.tup (val c)]) 1]
 |.plus a b=>kn (val a++val b)
 |.times n a=>mulR n (.tup (val a))
theorem dD(lo hi:Nat)(l:List Nat):(run lo hi l).length<=l.length:=(List.takeWhile_sublist _).length_le
theorem eQ(lo hi:Nat)(l:List Nat):l.take (run lo hi l).length=run lo hi l:=by unfold run;exact(List.prefix_iff_eq_take.mp (List.takeWhile_prefix _)).symm
theorem iF{lo hi c:Nat}:∀{l:List Nat},c∈run lo hi l->lo<=c/\c<=hi
 |[],h=>by cases h
 |x::l,h=>by
  unfold run at h;rw[List.takeWhile_cons]at h;split at h
  ·rename_i e;rcases TC.mp h with rfl|h
   ·simpa using e
   ·exact iF h
  ·cases h
def ps(z l:List Nat):Nat:=z.length-l.length
section
variable{z l:List Nat}
theorem bX(h:l <:+ z):z.drop (ps z l)=l:=(List.suffix_iff_eq_drop.mp h).symm
theorem zW(h:l <:+ z):ps z l+l.length=z.length:=by
 have:=h.length_le;unfold ps
 lia
theorem bc(h:l <:+ z){k:Nat}(hk:k<=l.length):ps z (l.drop k)=ps z l+k:=by
 have:=h.length_le;unfold ps;rw[U7]
 lia
theorem aB{s l r:List Nat}(h:lit s l=U r):r=l.drop s.length/\s.length<=l.length/\l=s++r:=by
 unfold lit at h;split at h
 ·rename_i e;cases h;refine#[rfl,?_,?_]
  ·have:=VY List.length e;rw[Ve]at this
   lia
  ·rw[<-e,Ve]
   conv=>lhs;rw[<-Vu s.length l]
   congr 1;by_cases h2:s.length<=l.length
   ·rw[Nat.min_eq_left h2]
   ·rw[List.drop_eq_nil_of_le ⋯,List.drop_eq_nil_of_le ⋯]
 ·cases h
theorem i8(s l:List Nat):(l.take s.length==s)=(lit s l).isSome:=by
 unfold lit;by_cases h:l.take s.length=s
 ·rw[V2 h,h];simp
 ·rw[V1 h,VW.mpr h];rfl
end
variable{fs:List Fn}{F:FT}{ρ:aj}{S:Sx}
theorem cU{t:T}{ts:Ts}{k:Nat}(h:ex F t ρ S= .ex k):fin (az F (.cons t ts) ρ S)= .ex k:=by rw[aX,h];rfl
theorem gz{ts:Ts}{k:Nat}{vs:List Nat}(h:vs.all (wx ρ)=B'):fin (az F (.cons (.rs k vs) ts) ρ S)= .ex k:=cU (by rw[Ah,h];rfl)
theorem bZ{i j:Nat}{c:C}{a b:Dt}(hc:lk c=0)(h:ev F c ρ S= .ok (.tup [a,b],y')):ex F (.asgT [i,j] c) ρ S= .ok (.next,(ρ.set i (U a)).set j (U b),y'):=by rw[fH,h,R.ah];unfold cJ;rw[hc];rfl
theorem b5{is:List Nat}{c:C}{k:Nat}(h:ev F c ρ S= .ex k):ex F (.asgT is c) ρ S= .ex k:=by rw[fH,h];rfl
theorem ua{i:Nat}{c:C}{k:Nat}(h:ev F c ρ S= .ex k):ex F (.asg i c) ρ S= .ex k:=by rw[jP,h];rfl
theorem rq{t:T}{ts:Ts}{k:Nat}(h:ex F t ρ S= .ex k):az F (.cons t ts) ρ S= .ex k:=by rw[aX,h];rfl
theorem ja{ρ:aj}{i n:Nat}(h:ρ[i]?=U (U (.int (n:Int))))(hn:n<10^19):wx ρ i=B':=by
 unfold wx;rw[h];simp
 lia
theorem t7{z l s:List Nat}{i:Nat}{k:Int}(hz:z.length<=1000)(hl:l <:+ z)(hk:k=s.length)(h0:bJ ρ 0= .ok (.str (tx z)))(h1:bJ ρ i= .ok (.int (ps z l:Nat))):
  ev F (.sliB (.var 0) (.var i) (.bin .Add (.var i) (.con (.int k)))) ρ S= .ok (.str (tx (l.take s.length)),S):=by
 have:=dF (F:=F) (ρ:=ρ) (S:=S) (a:=.var 0) (l:=.var i) (h:=.bin .Add (.var i) (.con (.int k))) (z:=z) (i:=ps z l) (j:=ps z l+s.length) hz ⋯ (VY (R.bind · _) h0) (VY (R.bind · _) h1) (by simp only[RX,h1];rw[hk];rfl);rw[this,bX hl,Nat.add_sub_cancel_left]
theorem gw{z l s:List Nat}{i:Nat}{k:Int}(hz:z.length<=1000)(hl:l <:+ z)(hk:k=s.length)(h0:bJ ρ 0= .ok (.str (tx z)))(h1:bJ ρ i= .ok (.int (ps z l:Nat))):
  aQ F (.cmp .Eq (.sliB (.var 0) (.var i) (.bin .Add (.var i) (.con (.int k)))) (.con (.str (tx s)))) ρ S= .ok ((lit s l).isSome,S):=by
 simp only[RX,t7 hz hl hk h0 h1,eT,i8]
def j0:Ts:=(.cons (.asg 4 (.var 1)) (.cons (.wh (.and (.cmp .Lt (.var 4) (.bi .len (.cons (.var 0) .nil))) (.ch .LtE .LtE (.var 2) (.idx (.var 0) (.var 4)) (.var 3))) (.cons (.aug 4 (.con (.int 1))) .nil)) (.cons (.ret (.var 4)) .nil)))
theorem mG{z:List Nat}{a lo hi:Nat}(hz:z.length<=1000):∀(n:Nat)(l:List Nat),l <:+ z->l.length<n->
  cQ (aQ F (.and (.cmp .Lt (.var 4) (.bi .len (.cons (.var 0) .nil))) (.ch .LtE .LtE (.var 2) (.idx (.var 0) (.var 4)) (.var 3)))) (az F (.cons (.aug 4 (.con (.int 1))) .nil)) n
   [U (.str (tx z)),U (.int a),U (.str (tx [lo])),U (.str (tx [hi])),U (.int (ps z l:Nat))] y'=
  .ok (.next,[U (.str (tx z)),U (.int a),U (.str (tx [lo])),U (.str (tx [hi])),U (.int ((ps z l+(run lo hi l).length:Nat)))],y')
 |0,_,_,h=>by lia
 |n+1,l,hl,hn=>by
  have hp:=zW hl;have hlen:=len_str (z:=tx z) (by rw[aO];exact Tz hz (by decide));rw[aO]at hlen;rw[cQ];cases l with
  |nil=>have t:decide ((ps z []:Int)<(z.length:Int))=G':=T1 (by simp at hp;lia);simp only[RX,hlen,t];rfl
  |cons c l=>
   have t:decide ((ps z (c::l):Int)<(z.length:Int))=B':=T5 (by simp at hp;lia);have A7:=zf hz (bX hl);have e:(c::l).drop 1=l:=rfl;have uk:l <:+ z:=(List.suffix_cons c l).trans hl;have pX:ps z l=ps z (c::l)+1:=by have:=bc hl (k:=1) (by simp);exact this
   have tt:aQ F (.ch .LtE .LtE (.var 2) (.idx (.var 0) (.var 4)) (.var 3)) [U (.str (tx z)),U (.int a),U (.str (tx [lo])),U (.str (tx [hi])),U (.int (ps z (c::l):Nat))] y'= .ok (decide (lo<=c)&&decide (c<=hi),y'):=by rw[vc];simp only[RX,A7,DL,zk];cases decide (lo<=c)<;>simp[DL,zk,RX]
   simp only[RX,hlen,t,V3,tt];cases hb:(decide (lo<=c)&&decide (c<=hi)) with
   |false=>
    have:run lo hi (c::l)=[]:=by unfold run;rw[List.takeWhile_cons,hb];rfl
    rw[this];rfl
   |true=>
    have er:run lo hi (c::l)=c::run lo hi l:=by unfold run;rw[List.takeWhile_cons,hb];rfl
    rw[V2 rfl,aX,vh];simp only[RX];rw[show az F .nil [U (Dt.str (tx z)),U (.int a),U (.str (tx [lo])),U (.str (tx [hi])),U (.int ((ps z (c::l):Int)+1))] y'= .ok (.next,[U (Dt.str (tx z)),U (.int a),U (.str (tx [lo])),U (.str (tx [hi])),U (.int ((ps z (c::l):Int)+1))],y') from rfl];simp only[R.ah];have:=mG (a:=a) (lo:=lo) (hi:=hi) hz n l uk (by simp at hn;lia);rw[show (ps z (c::l):Int)+1=(ps z l:Nat) by lia,this,er,pX];rw[TN,show ps z (c::l)+1+(run lo hi l).length=ps z (c::l)+((run lo hi l).length+1) by lia]
theorem vm{r:Nat}(hf:fs[r]?=U #[4,5,G',j0]){N:Nat}(hN:1<=N){z l:List Nat}(hz:z.length<=1000)(hl:l <:+ z)(lo hi:Nat):
  ai fs N r [.str (tx z),.int (ps z l:Nat),.str (tx [lo]),.str (tx [hi])] y'= .ok (.int ((ps z l+(run lo hi l).length:Nat)),y'):=by
 refine ax hf hN rfl ?_;show fin (az (ai fs (N-1)) j0 [U (.str (tx z)),U (.int (ps z l:Nat)),U (.str (tx [lo])),U (.str (tx [hi])),y'] y')=_;refine ao (d:=.int (ps z l:Nat)) rfl rfl (aN (by rw[cX];exact mG hz c7 l hl (by have:=hl.length_le;unfold c7;lia)) (ae rfl))
variable{fs:List Fn}{F:FT}{ρ:aj}{S:Sx}
def pA(r k:Nat):Ts:=(.cons (.asg 4 (.call r (.cons (.var 0) (.cons (.var 1) (.cons (.var 2) (.cons (.var 3) .nil)))) [])) (.cons (.ifs (.cmp .Gt (.bin .Sub (.var 4) (.var 1)) (.con (.int 6))) (.cons (.rs k [1]) .nil) .nil) (.cons (.ret (.var 4)) .nil)))
def Bn(r k:Nat):Ts:=(.cons (.asg 2 (.call r (.cons (.var 0) (.cons (.var 1) (.cons (.con (.str "0")) (.cons (.con (.str "9")) .nil)))) [])) (.cons (.ifs (.cmp .Eq (.var 2) (.var 1)) (.cons (.ret (.tup (.cons (.con (.int 1)) (.cons (.var 1) .nil)))) .nil) .nil) (.cons (.ifs (.cmp .Gt (.bin .Sub (.var 2) (.var 1)) (.con (.int 18))) (.cons (.rs k [1]) .nil) .nil) (.cons (.ret (.tup (.cons (.bi .int (.cons (.sliB (.var 0) (.var 1) (.var 2)) .nil)) (.cons (.var 2) .nil)))) .nil))))
section
variable{z l:List Nat}
theorem mE(hz:z.length<=1000):ps z l<10^19:=by unfold ps;lia
theorem vG{r w k:Nat}(hr:fs[r]?=U #[4,5,G',j0])(hf:fs[w]?=U #[4,5,G',pA r k]){N:Nat}(hN:2<=N)(hz:z.length<=1000)(hl:l <:+ z)(lo hi:Nat):
  ai fs N w [.str (tx z),.int (ps z l:Nat),.str (tx [lo]),.str (tx [hi])] y'=if 6<(run lo hi l).length then .ex k else .ok (.int ((ps z l+(run lo hi l).length:Nat)),y'):=by
 refine ax hf ⋯ rfl ?_;show fin (az (ai fs (N-1)) (pA r k) [U (.str (tx z)),U (.int (ps z l:Nat)),U (.str (tx [lo])),U (.str (tx [hi])),y'] y')=_;have h:=vm hr (N:=N-1) ⋯ hz hl lo hi;refine ao (d:=.int ((ps z l+(run lo hi l).length:Nat))) (VY (R.bind · _) h) rfl ?_;by_cases c:6<(run lo hi l).length
 ·rw[V2 c];exact aA (VY (λb=>R.ok (b,_)) (T5 ⋯)) (gz (by rw[US,ja rfl (mE hz)];rfl))
 ·rw[V1 c];exact au (VY (λb=>R.ok (b,_)) (T1 ⋯)) (ae rfl)
theorem F2{r n k:Nat}(hr:fs[r]?=U #[4,5,G',j0])(hf:fs[n]?=U #[2,3,G',Bn r k]){N:Nat}(hN:2<=N)(hz:z.length<=1000)(hl:l <:+ z):
  ai fs N n [.str (tx z),.int (ps z l:Nat)] y'=match jx l with
   |none=>.ex k
   |some p=>.ok (.tup [.int p.1,.int (ps z p.2:Nat)],y'):=by
 refine ax hf ⋯ rfl ?_;show fin (az (ai fs (N-1)) (Bn r k) [U (.str (tx z)),U (.int (ps z l:Nat)),y'] y')=_;have h:=vm hr (N:=N-1) ⋯ hz hl 48 57;have e0:("0":Str)=tx [48]:=rfl;have e9:("9":Str)=tx [57]:=rfl;refine ao (d:=.int ((ps z l+(run 48 57 l).length:Nat))) (by simp only[RX,e0,e9,h]) rfl ?_;have Mf:=dD 48 57 l;unfold jx;by_cases c0:run 48 57 l=[]
 ·rw[V2 c0,c0];exact aA (by simp only[RX];rw[beq_iff_eq.mpr (by simp)]) (ae rfl)
 ·rw[V1 c0];have hpos:0<(run 48 57 l).length:=List.length_pos_iff.mpr c0;refine au (VY (λb=>R.ok (b,_)) (VW.mpr ⋯)) ?_;by_cases c:18<(run 48 57 l).length
  ·rw[V2 c];exact aA (VY (λb=>R.ok (b,_)) (T5 ⋯)) (gz (by rw[US,ja rfl (mE hz)];rfl))
  ·rw[V1 c];refine au (VY (λb=>R.ok (b,_)) (T1 ⋯)) (ae ?_);have hs:=dF (F:=ai fs (N-1)) (S:=y') (ρ:=[U (.str (tx z)),U (.int (ps z l:Nat)),U (.int ((ps z l+(run 48 57 l).length:Nat)))]) (a:=.var 0) (l:=.var 1) (h:=.var 2) (i:=ps z l) (j:=ps z l+(run 48 57 l).length) hz ⋯ rfl rfl rfl;rw[bX hl,Nat.add_sub_cancel_left,eQ]at hs;have hi:dw .int [.str (tx (run 48 57 l))]= .ok (.int (PySem.NumText.digitsVal (run 48 57 l))):=by show af (decide ((tx (run 48 57 l)).length<=640)) _=_;rw[aO,T5 ⋯,guard_true,PySem.intText_digits (by rw[bD];exact λc hc=>iF hc) (by rw[bD];exact c0) (by rw[aO];lia),bD]
   simp only[RX,hs,hi,bc hl Mf]
end
abbrev fD(a:TM):Dt:=.tup (aq (val a))
abbrev FN(d:Nat)(a:TM):Prop:=mW 1000 Pos d (.tup (val a))
def pc(l:List Nat):Nat:=l.count 43
theorem eO{a b:List Nat}(h:a <:+ b):pc a<=pc b:=h.sublist.count_le _
theorem sk{a b:List Nat}(h:a <:+ b):1+pc a<=pc b+1:=by have:=eO h;lia
theorem Gr{l r:List Nat}(h:lit [32,43,32] l=U r):pc l=pc r+1:=by rw[(aB h).2.2];unfold pc;rw[List.count_append,Nat.add_comm];rfl
def outD(z:List Nat)(p:TM×List Nat):Dt:=.tup [fD p.1,.int (ps z p.2:Nat)]
def Rs(k:Nat)(z:List Nat)(d:Nat)(l:List Nat)(r:R (Dt×Sx)):Option (TM×List Nat)->Prop
 |none=>r= .ex k
 |some p=>r= .ok (outD z p,y')/\FN d p.1/\(val p.1).length+pc p.2<=pc l+1/\p.2 <:+ l
def QT(k:Nat)(z:List Nat)(d m:Nat)(l:List Nat)(r:R (Dt×Sx)):Option (List TM×List Nat)->Prop
 |none=>r= .ex k
 |some p=>r= .ok (.tup [.tup (p.1.map fD),.int (ps z p.2:Nat)],y')/\(∀a∈p.1,FN d a/\(val a).length+pc p.2<=pc l+1)/\p.1≠[]/\p.1.length<=m/\p.2.length+1<=l.length/\p.2 <:+ l
theorem nQ{it:Mx.D}{d:Nat}{a:TM}(h:val a=[row it 1])(hi:pd 1000 (mW 1000 Pos d) it):FN (d+1) a:=by
 refine#[_,rfl,?_,λr hr=>?_]
 ·rw[h];exact Nat.le_of_ble_eq_true rfl
 ·rw[h]at hr;cases Ua.mp hr;exact#[it,1,rfl,by decide,hi]
theorem nP(d:Nat):FN (d+1) .nil:=#[[],rfl,VL _,λr h=>by cases h]
theorem mk_val(w:List Nat):∀l:List TM,l.length<=3->val (xu w l)=[row (ofT (tx w) (l.map λa=>.tup (val a))) 1]
 |[],_=>rfl
 |[_],_=>rfl
 |[_,_],_=>rfl
 |[_,_,_],_=>rfl
 |_::_::_::_::_,h=>by simp at h
theorem Cv(l:List TM):aq (l.map λa=>Mx.D.tup (val a))=l.map fD:=by
 rw[cg,Vg];refine Vf λa _=>?_
 show ofD (.tup (val a))=_;rw[jL]
theorem pM{w:List Nat}{l:List TM}{d:Nat}(h3:l.length<=3)(h:∀a∈l,FN d a):FN (d+1) (xu w l):=
 nQ (mk_val w l h3) (.inr #[_,_,rfl,by rw[Tw];lia,λp hp=>by obtain⟨a,ha,rfl⟩:=Ub.mp hp;exact h a ha])
theorem Ce{w:List Nat}{l:List TM}(h3:l.length<=3):fD (xu w l)= .tup [.tup [.tup [.str "of",.str (tx w),.tup (l.map fD)],.int 1]]:=by show Dt.tup (aq (val (xu w l)))=_;rw[mk_val w l h3,<-Cv];simp[aq,ofD,row,ofT]
theorem qQ(w:List Nat):fD (.any w)= .tup [.tup [.tup [.str "any",.str (tx w)],.int 1]]:=by show Dt.tup (aq [row (ph (tx w)) 1])=_;simp[aq,ofD,row,ph]
def tL(b w k:Nat):Ts:=(.cons (.ifs (.cmp .Eq (.sliB (.var 0) (.var 1) (.bin .Add (.var 1) (.con (.int 1)))) (.con (.str "("))) (.cons (.asgT [3,4] (.call b (.cons (.var 0) (.cons (.var 1) (.cons (.var 2) (.cons (.con (.int 1)) .nil)))) [])) (.cons (.ret (.tup (.cons (.idx (.var 3) (.con (.int 0))) (.cons (.var 4) .nil)))) .nil)) .nil) (.cons (.asg 4 (.call w (.cons (.var 0) (.cons (.var 1) (.cons (.con (.str "a")) (.cons (.con (.str "z")) .nil)))) [])) (.cons (.ifs (.cmp .Gt (.var 4) (.var 1)) (.cons (.ret (.tup (.cons (.tup (.cons (.tup (.cons (.tup (.cons (.con (.str "any")) (.cons (.sliB (.var 0) (.var 1) (.var 4)) .nil))) (.cons (.con (.int 1)) .nil))) .nil)) (.cons (.var 4) .nil)))) .nil) .nil) (.cons (.asg 4 (.call w (.cons (.var 0) (.cons (.var 1) (.cons (.con (.str "A")) (.cons (.con (.str "Z")) .nil)))) [])) (.cons (.ifs (.cmp .Eq (.var 4) (.var 1)) (.cons (.rs k [1]) .nil) .nil) (.cons (.asg 5 (.sliB (.var 0) (.var 1) (.var 4))) (.cons (.asg 3 (.tup .nil)) (.cons (.ifs (.cmp .Eq (.sliB (.var 0) (.var 4) (.bin .Add (.var 4) (.con (.int 1)))) (.con (.str "("))) (.cons (.asgT [3,4] (.call b (.cons (.var 0) (.cons (.var 4) (.cons (.var 2) (.cons (.con (.int 3)) .nil)))) [])) .nil) .nil) (.cons (.ret (.tup (.cons (.tup (.cons (.tup (.cons (.tup (.cons (.con (.str "of")) (.cons (.var 5) (.cons (.var 3) .nil)))) (.cons (.con (.int 1)) .nil))) .nil)) (.cons (.var 4) .nil)))) .nil)))))))))
def xA(fs:List Fn)(b k:Nat)(z:List Nat)(e d N:Nat)(br:Nat->List Nat->Option (List TM×List Nat)):Prop:=
 ∀(m:Nat)(l r:List Nat),1<=m->m<=3->l <:+ z->lit [40] l=U r->QT k z d m l (ai fs N b [.str (tx z),.int (ps z l:Nat),.int e,.int m] y') (br m r)
theorem Cm{r w b o k:Nat}(hr:fs[r]?=U #[4,5,G',j0])(hw:fs[w]?=U #[4,5,G',pA r k])(hf:fs[o]?=U #[3,6,G',tL b w k]){N e d:Nat}{z:List Nat}{br:Nat->List Nat->Option (List TM×List Nat)}
  (hN:3<=N) (hz:z.length<=600) (hb:xA fs b k z e d (N-1) br) {l:List Nat} (hl:l <:+ z):
  Rs k z (d+1) l (ai fs N o [.str (tx z),.int (ps z l:Nat),.int e] y') (iA aK br l):=by
 have dC:z.length<=1000:=⋯
 have e1:("(":Str)=tx [40]:=rfl;have ea:("a":Str)=tx [97]:=rfl;have eZ:("z":Str)=tx [122]:=rfl;have eA:("A":Str)=tx [65]:=rfl;have PJ:("Z":Str)=tx [90]:=rfl;have start:∀{rr:R (Dt×Sx)},fin (az (ai fs (N-1)) (tL b w k) [U (.str (tx z)),U (.int (ps z l:Nat)),U (.int e),y',y',y'] y')=rr->ai fs N o [.str (tx z),.int (ps z l:Nat),.int e] y'=rr:=λh=>ax hf ⋯ rfl h
 have t1:=gw (F:=ai fs (N-1)) (S:=y') (ρ:=[U (.str (tx z)),U (.int (ps z l:Nat)),U (.int e),y',y',y']) (i:=1) (k:=1) (s:=[40]) dC hl rfl rfl rfl;rw[<-e1]at t1;unfold iA;cases ho:lit [40] l with
 |some r'=>
  have L9:=hb 1 l r' ⋯ ⋯ hl ho;rw[ho]at t1;have BV:aK.op l=U r':=ho;simp only[BV];cases hbr:br 1 r' with
  |none=>rw[hbr]at L9;exact start (aA t1 (cU (b5 (by simp only[RX];rw[show ai fs (N-1) b [.str (tx z),.int (ps z l:Nat),.int e,.int 1] y'=_ from L9];rfl))))
  |some p=>
   rw[hbr]at L9;obtain⟨h1,h2,h3,h4,h5,h6⟩:=L9;obtain⟨p1,p2⟩:=p;have h1:ai fs (N-1) b [.str (tx z),.int (ps z l:Nat),.int e,.int 1] y'= .ok (.tup [.tup (p1.map fD),.int (ps z p2:Nat)],y'):=h1;obtain⟨a,rfl⟩:∃a,p1=[a]:=by
    rcases p1 with _|⟨a,_|⟨c,p1⟩⟩
    ·exact absurd rfl h3
    ·exact#[a,rfl]
    ·simp at h4
   have P2:=h2 a Tt;exact#[start (aA t1 (aN (bZ (a:=.tup [fD a]) (b:=.int (ps z p2:Nat)) rfl (VY (R.bind · _) h1)) (ae rfl))),P2.1.mono (Tr _) (λ_ h=>h) ⋯,P2.2,h6]
 |none=>
  rw[ho]at t1;have BV:aK.op l=y':=ho;have N2:aK.low l=eB 97 122 l:=rfl;have Od:aK.Mu l=eB 65 90 l:=rfl;simp only[BV,N2,Od];have Mi:=vG hr hw (N:=N-1) ⋯ dC hl 97 122;have Mj:=vG hr hw (N:=N-1) ⋯ dC hl 65 90;have PQ:∀{rr:R (Dt×Sx)},fin (az (ai fs (N-1)) (.cons (.asg 4 (.call w (.cons (.var 0) (.cons (.var 1) (.cons (.con (.str "a")) (.cons (.con (.str "z")) .nil)))) [])) _) [U (.str (tx z)),U (.int (ps z l:Nat)),U (.int e),y',y',y'] y')=rr->ai fs N o [.str (tx z),.int (ps z l:Nat),.int e] y'=rr:=λh=>start (au t1 h)
  unfold eB;have R3:=dD 97 122 l;have Qh:=dD 65 90 l;by_cases c1:6<(run 97 122 l).length
  ·rw[V2 c1]at Mi ⊢;exact PQ (cU (ua (by simp only[RX,ea,eZ,Mi];rfl)))
  rw[V1 c1]at Mi ⊢;have go2:=λ {rr:R (Dt×Sx)} (h:fin (az (ai fs (N-1)) _ [U (.str (tx z)),U (.int (ps z l:Nat)),U (.int e),y',U (.int ((ps z l+(run 97 122 l).length:Nat))),y'] y')=rr)=>PQ (ao (d:=.int ((ps z l+(run 97 122 l).length:Nat))) (by simp only[RX,ea,eZ,Mi]) rfl h)
  by_cases c2:run 97 122 l=[]
  ·rw[c2]at go2;rw[V2 c2];simp only[Option.bind_some];have t2:decide ((ps z l:Int)<((ps z l+([]:List Nat).length:Nat):Int))=G':=T1 (by simp);by_cases c3:6<(run 65 90 l).length
   ·rw[V2 c3]at Mj ⊢;exact go2 (au (by simp only[RX,t2]) (cU (ua (by simp only[RX,eA,PJ,Mj];rfl))))
   rw[V1 c3]at Mj ⊢;have uf:=λ {rr:R (Dt×Sx)} (h:fin (az (ai fs (N-1)) _ [U (.str (tx z)),U (.int (ps z l:Nat)),U (.int e),y',U (.int ((ps z l+(run 65 90 l).length:Nat))),y'] y')=rr)=>go2 (au (by simp only[RX,t2]) (ao (d:=.int ((ps z l+(run 65 90 l).length:Nat))) (by simp only[RX,eA,PJ,Mj]) rfl h))
   by_cases c4:run 65 90 l=[]
   ·rw[V2 c4];rw[c4]at uf;exact uf (aA (by simp only[RX];rw[beq_iff_eq.mpr (by simp)]) (gz (by rw[US,ja rfl (mE dC)];rfl)))
   ·rw[V1 c4];simp only[Option.bind_some];have hpos:0<(run 65 90 l).length:=List.length_pos_iff.mpr c4;have b7:l.drop (run 65 90 l).length <:+ z:=(List.drop_suffix _ _).trans hl;have hs:=dF (F:=ai fs (N-1)) (S:=y') (ρ:=[U (.str (tx z)),U (.int (ps z l:Nat)),U (.int e),y',U (.int ((ps z l+(run 65 90 l).length:Nat))),y']) (a:=.var 0) (l:=.var 1) (h:=.var 4) (i:=ps z l) (j:=ps z l+(run 65 90 l).length) dC ⋯ rfl rfl rfl;rw[bX hl,Nat.add_sub_cancel_left,eQ]at hs;rw[<-bc hl Qh]at uf hs;have t4:=gw (F:=ai fs (N-1)) (S:=y') (ρ:=[U (.str (tx z)),U (.int (ps z l:Nat)),U (.int e),U (.tup []),U (.int (ps z (l.drop (run 65 90 l).length):Nat)),U (.str (tx (run 65 90 l)))]) (i:=4) (k:=1) (s:=[40]) dC b7 rfl rfl rfl;rw[<-e1]at t4;have NC:=λ {rr:R (Dt×Sx)} (h:fin (az (ai fs (N-1)) _ [U (.str (tx z)),U (.int (ps z l:Nat)),U (.int e),U (.tup []),U (.int (ps z (l.drop (run 65 90 l).length):Nat)),U (.str (tx (run 65 90 l)))] y')=rr)=>uf (au (by simp only[RX];rw[VW.mpr (by rw[bc hl Qh];lia)]) (ao (d:=.str (tx (run 65 90 l))) hs rfl (ao (d:=.tup []) rfl rfl h)))
    have last:∀(Mq:List TM)(r2:List Nat),Mq.length<=3->fin (az (ai fs (N-1)) (.cons (.ret (.tup (.cons (.tup (.cons (.tup (.cons (.tup (.cons (.con (.str "of")) (.cons (.var 5) (.cons (.var 3) .nil)))) (.cons (.con (.int 1)) .nil))) .nil)) (.cons (.var 4) .nil)))) .nil) [U (.str (tx z)),U (.int (ps z l:Nat)),U (.int e),U (.tup (Mq.map fD)),U (.int (ps z r2:Nat)),U (.str (tx (run 65 90 l)))] y')= .ok (outD z (xu (run 65 90 l) Mq,r2),y'):=λMq r2 h3=>ae (by unfold outD;rw[Ce h3];simp only[RX])
    unfold pThing;cases kB:lit [40] (l.drop (run 65 90 l).length) with
    |none=>have Fc:aK.op (l.drop (run 65 90 l).length)=y':=kB;rw[kB]at t4;simp only[Fc];exact#[NC (au t4 (last [] _ (by decide))),pM (l:=[]) (by decide) (λa h=>by cases h),sk (List.drop_suffix _ _),List.drop_suffix _ _]
    |some r2=>
     have Fc:aK.op (l.drop (run 65 90 l).length)=U r2:=kB;rw[kB]at t4;simp only[Fc];have Ma:=hb 3 _ r2 ⋯ ⋯ b7 kB;cases hbr:br 3 r2 with
     |none=>rw[hbr]at Ma;exact NC (aA t4 (cU (b5 (by simp only[RX];rw[show ai fs (N-1) b [.str (tx z),.int (ps z (l.drop (run 65 90 l).length):Nat),.int e,.int 3] y'=_ from Ma];rfl))))
     |some p=>rw[hbr]at Ma;obtain⟨h1,h2,h3,h4,h5,h6⟩:=Ma;have h1:ai fs (N-1) b [.str (tx z),.int (ps z (l.drop (run 65 90 l).length):Nat),.int e,.int 3] y'= .ok (.tup [.tup (p.1.map fD),.int (ps z p.2:Nat)],y'):=h1;refine#[NC (aA t4 (aN (bZ (a:=.tup (p.1.map fD)) (b:=.int (ps z p.2:Nat)) rfl (VY (R.bind · _) h1)) (last p.1 p.2 h4))),pM h4 λa h=>(h2 a h).1,?_,h6.trans (List.drop_suffix _ _)];rw[mk_val _ _ h4];exact sk (h6.trans (List.drop_suffix _ _))
  ·rw[V1 c2];have hpos:0<(run 97 122 l).length:=List.length_pos_iff.mpr c2;have t2:decide ((ps z l:Int)<((ps z l+(run 97 122 l).length:Nat):Int))=B':=T5 ⋯;have hs:=dF (F:=ai fs (N-1)) (S:=y') (ρ:=[U (.str (tx z)),U (.int (ps z l:Nat)),U (.int e),y',U (.int ((ps z l+(run 97 122 l).length:Nat))),y']) (a:=.var 0) (l:=.var 1) (h:=.var 4) (i:=ps z l) (j:=ps z l+(run 97 122 l).length) dC ⋯ rfl rfl rfl;rw[bX hl,Nat.add_sub_cancel_left,eQ]at hs;refine#[go2 (aA (by simp only[RX,t2]) (ae ?_)),nQ rfl (.inl #[_,rfl]),sk (List.drop_suffix _ _),List.drop_suffix _ _];unfold outD;rw[qQ];simp only[RX,hs,bc hl R3]
variable{fs:List Fn}{F:FT}{ρ:aj}{S:Sx}
def xP(n o t:Nat):Ts:=(.cons (.ifs (.cmp .Eq (.sliB (.var 0) (.var 1) (.bin .Add (.var 1) (.con (.int 1)))) (.con (.str "0"))) (.cons (.ret (.tup (.cons (.tup .nil) (.cons (.bin .Add (.var 1) (.con (.int 1))) .nil)))) .nil) .nil) (.cons (.asgT [3,1] (.call n (.cons (.var 0) (.cons (.var 1) .nil)) [])) (.cons (.asgT [4,1] (.call o (.cons (.var 0) (.cons (.var 1) (.cons (.var 2) .nil))) [])) (.cons (.ret (.tup (.cons (.call t (.cons (.var 3) (.cons (.var 4) .nil)) []) (.cons (.var 1) .nil)))) .nil))))
def lU(g:Nat):Ts:=(.cons (.ret (.call g (.cons (.bin .Add (.var 0) (.var 1)) .nil) [])) .nil)
def j4(a p:Nat):Ts:=(.cons (.asgT [4,1] (.call a (.cons (.var 0) (.cons (.bin .Add (.var 1) (.con (.int 3))) (.cons (.var 2) .nil))) [])) (.cons (.asg 3 (.call p (.cons (.var 3) (.cons (.var 4) .nil)) [])) .nil))
def Et(a p:Nat):Ts:=(.cons (.asgT [3,1] (.call a (.cons (.var 0) (.cons (.var 1) (.cons (.var 2) .nil))) [])) (.cons (.wh (.cmp .Eq (.sliB (.var 0) (.var 1) (.bin .Add (.var 1) (.con (.int 3)))) (.con (.str " + "))) (j4 a p)) (.cons (.ret (.tup (.cons (.var 3) (.cons (.var 1) .nil)))) .nil)))
def qT(s:Nat):Ts:=(.cons (.asgT [4,1] (.call s (.cons (.var 0) (.cons (.bin .Add (.var 1) (.con (.int 2))) (.cons (.bin .Add (.var 2) (.con (.int 1))) .nil))) [])) (.cons (.app 5 (.var 4)) .nil))
def Nf(s k:Nat):Ts:=(.cons (.ifs (.cmp .Eq (.var 2) (.con (.int 20))) (.cons (.rs k [1]) .nil) .nil) (.cons (.asgT [4,1] (.call s (.cons (.var 0) (.cons (.bin .Add (.var 1) (.con (.int 1))) (.cons (.bin .Add (.var 2) (.con (.int 1))) .nil))) [])) (.cons (.asgM 5 (.lst (.cons (.var 4) .nil))) (.cons (.wh (.and (.cmp .Lt (.bi .len (.cons (.mvr 5) .nil)) (.var 3)) (.cmp .Eq (.sliB (.var 0) (.var 1) (.bin .Add (.var 1) (.con (.int 2)))) (.con (.str ", ")))) (qT s)) (.cons (.ifs (.cmp .NotEq (.sliB (.var 0) (.var 1) (.bin .Add (.var 1) (.con (.int 1)))) (.con (.str ")"))) (.cons (.rs k [1]) .nil) .nil) (.cons (.ret (.tup (.cons (.bi .tuple (.cons (.mvr 5) .nil)) (.cons (.bin .Add (.var 1) (.con (.int 1))) .nil)))) .nil))))))
structure LM(fs:List Fn)(g p t s a n o b w r k:Nat):Prop where
 hg:fs[g]?=U #[1,4,G',Iz (.mvr 1)]
 hp:fs[p]?=U #[2,2,G',lU g]
 ht:fs[t]?=U #[2,2,G',nq]
 hs:fs[s]?=U #[3,5,G',Et a p]
 ha:fs[a]?=U #[3,5,G',xP n o t]
 hn:fs[n]?=U #[2,3,G',Bn r k]
 ho:fs[o]?=U #[3,6,G',tL b w k]
 hb:fs[b]?=U #[4,6,G',Nf s k]
 hw:fs[w]?=U #[4,5,G',pA r k]
 hr:fs[r]?=U #[4,5,G',j0]
section
variable{g p t s a n o b w r k:Nat}(H:LM fs g p t s a n o b w r k){z:List Nat}(hz:z.length<=600)
include H
theorem CC{N d:Nat}(hN:2<=N)(hd:d<=20){x y:TM}(hx:FN (d+1) x)(hy:FN (d+1) y)(hl:(val x).length+(val y).length<=900):ai fs N p [fD x,fD y] y'= .ok (fD (.plus x y),y')/\FN (d+1) (.plus x y):=by
 obtain⟨rx,ex,_,h1⟩:=hx;obtain⟨ry,ey,_,h2⟩:=hy;cases ex;cases ey;have hr:∀m∈val x++val y,jo 1000 Pos (mW 1000 Pos d) m:=λm hm=>(TV.mp hm).elim (h1 m) (h2 m)
 have hg:=yH H.hg (N:=N-1) ⋯ (n:=d) hd (ms:=val x++val y) (d:=.tup (aq (val x++val y))) (.inr rfl) (by rw[TK];lia) hr λrs x y z _=>Pb rs x y z
 constructor
 ·refine ax H.hp ⋯ rfl ?_;show fin (az (ai fs (N-1)) (lU g) [U (fD x),U (fD y)] y')=_;have ha:oz .Add (fD x) (fD y)= .ok (.tup (aq (val x++val y))):=by show af (decide ((aq (val x)).length+(aq (val y)).length<=lim)) _=_;rw[ba,ba,T5 (Tz hl (by decide)),guard_true,bH]
  exact ae (by simp only[RX,ha,hg];rfl)
 ·refine#[_,rfl,?_,λr fP=>?_]
  ·have:=dY (val x++val y);rw[TK]at this;exact Tz this (Tz hl (by decide))
  ·refine(md (S:=jo 1000 Pos (mW 1000 Pos d)) (λit c d#[i,k,e,h1,h2]hc hd=>#[it,c+d,rfl,by show 0<c+d;lia,?_]) (λm hm=>#[hr m hm,?_]) r fP).1
   ·have:=VY hZ e;rw[b8,b8]at this;rw[this];exact h2
   ·obtain⟨it,c,e,hc,_⟩:=hr m hm;exact#[it,c,e,hc]
include hz
def xG(fs:List Fn)(a k:Nat)(z:List Nat)(e d N:Nat)(f:List Nat->Option (TM×List Nat)):Prop:=
 ∀l,l <:+ z->Rs k z (d+1) l (ai fs N a [.str (tx z),.int (ps z l:Nat),.int e] y') (f l)
omit hz in
theorem wW{d m:Nat}{x:TM}(hx:FN (d+1) x)(hm:0<m):FN (d+1) (.times m x):=by obtain⟨rx,ex,hl,h1⟩:=hx;cases ex;refine#[_,rfl,by rw[show val (Tm.times m x)=mulR m (.tup (val x)) from rfl];unfold mulR;rw[Tw];exact hl,λr hr=>?_];obtain⟨q,hq,rfl⟩:=Ub.mp hr;obtain⟨it,c,rfl,hc,hi⟩:=h1 q hq;have hc:0<c:=hc;exact#[it,m*c,rfl,by show 0<(m:Int)*c;exact Int.mul_pos ⋯ hc,hi]
omit H hz in
theorem yl:∀(l:List Nat)(acc:Nat),acc<=l.foldl (λacc c=>acc*10+(c-48)) acc
 |[],_=>Tr _
 |c::l,acc=>Tz (by show acc<=acc*10+(c-48);lia) (yl l _)
omit H hz in
theorem ym:∀(l:List Nat)(acc:Nat),(∀c∈l,c<=57)->l.foldl (λacc c=>acc*10+(c-48)) acc<(acc+1)*10^l.length
 |[],acc,_=>by simp
 |c::l,acc,h=>by
  have h1:=ym l (acc*10+(c-48)) λx hx=>h x (Tp _ hx)
  have h2:=h c Tt;refine TU h1 ?_;rw[TN,Nat.pow_succ,Nat.mul_comm (10^l.length) 10,<-Nat.mul_assoc];exact VH _ ⋯
omit H hz in
theorem ot{l:List Nat}{p:Nat×List Nat}(h0:lit [48] l=y')(h:jx l=U p):HM (p.1:Int)/\p.2 <:+ l:=by
 unfold jx at h;split at h
 ·cases h;exact#[#[(by decide:(0:Int)<1),(by decide:(1:Int)<18446744073709551616)],List.suffix_refl _]
 ·rename_i lF;split at h
  ·cases h
  ·rename_i hlen;cases h;refine#[?_,List.drop_suffix _ _];have h1:=ym (run 48 57 l) 0 λc hc=>(iF hc).2
   have h2:10^(run 48 57 l).length<=10^18:=Nat.pow_le_pow_right (by decide) ⋯;have h3:0<PySem.NumText.digitsVal (run 48 57 l):=by
    cases l with
    |nil=>exact absurd rfl lF
    |cons c l=>
     have hc:c≠48:=λe=>by subst e;cases h0
     have hb:(decide (48<=c)&&decide (c<=57))=B':=by
      cases e:(decide (48<=c)&&decide (c<=57)) with
      |true=>rfl
      |false=>exact absurd (by unfold run;rw[List.takeWhile_cons,e];rfl) lF
     have er:run 48 57 (c::l)=c::run 48 57 l:=by unfold run;rw[List.takeWhile_cons,hb];rfl
     rw[er];show 0<(run 48 57 l).foldl (λacc c=>acc*10+(c-48)) (0*10+(c-48));rw[Ti]at hb;have:=Tn hb.1;exact TU ⋯ (yl _ _)
   have h4:PySem.NumText.digitsVal (run 48 57 l)<(0+1)*10^(run 48 57 l).length:=h1;show (0:Int)<(PySem.NumText.digitsVal (run 48 57 l):Nat)/\((PySem.NumText.digitsVal (run 48 57 l):Nat):Int)<18446744073709551616
   lia
theorem jM{N e d:Nat}{br:Nat->List Nat->Option (List TM×List Nat)}(hN:4<=N)(hb:xA fs b k z e d (N-2) br):xG fs a k z e d N (cn aK br):=λl hl=>by
 have dC:z.length<=1000:=⋯
 have e0:("0":Str)=tx [48]:=rfl;have start:∀{rr:R (Dt×Sx)},fin (az (ai fs (N-1)) (xP n o t) [U (.str (tx z)),U (.int (ps z l:Nat)),U (.int e),y',y'] y')=rr->ai fs N a [.str (tx z),.int (ps z l:Nat),.int e] y'=rr:=λh=>ax H.ha ⋯ rfl h
 have t1:=gw (F:=ai fs (N-1)) (S:=y') (ρ:=[U (.str (tx z)),U (.int (ps z l:Nat)),U (.int e),y',y']) (i:=1) (k:=1) (s:=[48]) dC hl rfl rfl rfl;rw[<-e0]at t1;have hi:aK.Mk l=lit [48] l:=rfl;have hn:aK.num l=jx l:=rfl;unfold cn;rw[hi,hn];cases h0:lit [48] l with
 |some r=>rw[h0]at t1;obtain⟨er,dq,_⟩:=aB h0;have hp:=bc hl (k:=1) dq;rw[er];refine#[start (aA t1 (ae (by simp only[RX];unfold outD;rw[show ([48]:List Nat).length=1 from rfl,hp];rfl))),nP d,by show 0+_<=_;have:=eO (List.drop_suffix 1 l);exact Nat.le_succ_of_le (by rw[VJ];exact this),List.drop_suffix _ _]
 |none=>
  rw[h0]at t1;have h1:=F2 H.hr H.hn (N:=N-1) ⋯ dC hl;have go:=λ {rr:R (Dt×Sx)} (h:fin (az (ai fs (N-1)) _ _ y')=rr)=>start (au t1 h)
  cases pW:jx l with
  |none=>rw[pW]at h1;exact go (cU (b5 (VY (R.bind · _) h1)))
  |some q=>
   rw[pW]at h1;obtain⟨pin,hs⟩:=ot h0 pW;simp only[Option.bind_some];have ho:=Cm H.hr H.hw H.ho (N:=N-1) ⋯ hz hb (hs.trans hl);have go2:=λ {rr:R (Dt×Sx)} (h:fin (az (ai fs (N-1)) _ [U (.str (tx z)),U (.int (ps z q.2:Nat)),U (.int e),U (.int q.1),y'] y')=rr)=>go (aN (bZ (a:=.int q.1) (b:=.int (ps z q.2:Nat)) rfl (VY (R.bind · _) h1)) h)
   cases hon:iA aK br q.2 with
   |none=>rw[hon]at ho;have ho:ai fs (N-1) o [.str (tx z),.int (ps z q.2:Nat),.int e] y'= .ex k:=ho;exact go2 (cU (b5 (VY (R.bind · _) ho)))
   |some u=>
    rw[hon]at ho;obtain⟨o1,o2,o3,o4⟩:=ho;have hq:0<q.1:=by have:=pin.1;lia
    have Ql:=AG H.ht (N:=N-1) ⋯ (L:=1000) (k:=d+1) (by decide) pin o2;rw[jL]at Ql;refine#[go2 (aN (bZ (a:=fD u.1) (b:=.int (ps z u.2:Nat)) rfl (VY (R.bind · _) o1)) (ae ?_)),wW H o2 hq,?_,o4.trans hs]
    ·simp only[RX];rw[show ai fs (N-1) t [.int q.1,fD u.1] y'=_ from Ql];simp only[RX];rfl
    ·have:=eO hs;show (mulR q.1 (.tup (val u.1))).length+_<=_;unfold mulR;rw[Tw];exact Tz o3 (Nat.succ_le_succ this)
theorem uO{N e d:Nat}{f:List Nat->Option (TM×List Nat)}(I:TM->List Nat->Prop)(hN:2<=N)(hd:d<=20)(hf:xG fs a k z e d N f)(hs:∀x l r q,I x l->l <:+ z->lit [32,43,32] l=U r->f r=U q->(val q.1).length+pc q.2<=pc r+1->(val x).length+(val q.1).length<=900/\I (.plus x q.1) q.2):∀(m:Nat)(x4:Option Dt)(c:Nat)(x:TM)(l:List Nat),l <:+ z->l.length<m->l.length<c->FN (d+1) x->I x l->
  match dh aK f c x l with
  |none=>cQ (aQ (ai fs N) (.cmp .Eq (.sliB (.var 0) (.var 1) (.bin .Add (.var 1) (.con (.int 3)))) (.con (.str " + ")))) (az (ai fs N) (j4 a p)) m [U (.str (tx z)),U (.int (ps z l:Nat)),U (.int e),U (fD x),x4] y'= .ex k
  |some q=>(∃x5,cQ (aQ (ai fs N) (.cmp .Eq (.sliB (.var 0) (.var 1) (.bin .Add (.var 1) (.con (.int 3)))) (.con (.str " + ")))) (az (ai fs N) (j4 a p)) m [U (.str (tx z)),U (.int (ps z l:Nat)),U (.int e),U (fD x),x4] y'= .ok (.next,[U (.str (tx z)),U (.int (ps z q.2:Nat)),U (.int e),U (fD q.1),x5],y'))/\FN (d+1) q.1/\I q.1 q.2/\q.2 <:+ l
 |0,_,_,_,_,_,h,_,_,_=>by lia
 |m+1,_,0,_,_,_,_,h,_,_=>by lia
 |m+1,x4,c+1,x,l,hl,hm,hc,hx,hv=>by
  have dC:z.length<=1000:=⋯
  have e3:(" + ":Str)=tx [32,43,32]:=rfl;have t1:=gw (F:=ai fs N) (S:=y') (ρ:=[U (.str (tx z)),U (.int (ps z l:Nat)),U (.int e),U (fD x),x4]) (i:=1) (k:=3) (s:=[32,43,32]) dC hl rfl rfl rfl;rw[<-e3]at t1;have hp:aK.pl l=lit [32,43,32] l:=rfl;unfold dh;rw[hp];cases h0:lit [32,43,32] l with
  |none=>rw[h0]at t1;exact#[#[x4,by rw[cQ,t1];rfl],hx,hv,List.suffix_refl _]
  |some r=>
   rw[h0]at t1;obtain⟨er,dq,_⟩:=aB h0;have vZ:3<=l.length:=dq;have hr:r <:+ l:=by rw[er];exact List.drop_suffix _ _
   have Mf:r.length+3=l.length:=by rw[er,U7];show l.length-3+3=_;lia
   have BW:ps z r=ps z l+3:=by rw[er];exact bc hl dq
   have h1:=hf r (hr.trans hl);rw[BW]at h1;simp only;cases lE:f r with
   |none=>rw[lE]at h1;have h1:ai fs N a [.str (tx z),.int ((ps z l+3:Nat)),.int e] y'= .ex k:=h1;show cQ _ _ _ _ _=_;rw[cQ,t1];simp only[R.ah,Option.isSome_some,V3];rw[show az (ai fs N) (j4 a p) [U (.str (tx z)),U (.int (ps z l:Nat)),U (.int e),U (fD x),x4] y'= .ex k from rq (b5 (by simp only[RX];rw[show ai fs N a [.str (tx z),.int ((ps z l:Int)+3),.int e] y'=_ from h1];rfl))];rfl
   |some q=>
    rw[lE]at h1;obtain⟨o1,o2,o3,o4⟩:=h1;have hq:=o4.length_le;obtain⟨vb,vl⟩:=hs x l r q hv hl h0 lE o3;have o1:ai fs N a [.str (tx z),.int ((ps z l:Int)+3),.int e] y'= .ok (.tup [fD q.1,.int (ps z q.2:Nat)],y'):=o1;obtain⟨p1,p2⟩:=CC H (N:=N) hN hd hx o2 vb;have body:az (ai fs N) (j4 a p) [U (.str (tx z)),U (.int (ps z l:Nat)),U (.int e),U (fD x),x4] y'= .ok (.next,[U (.str (tx z)),U (.int (ps z q.2:Nat)),U (.int e),U (fD (.plus x q.1)),U (fD q.1)],y'):=
     nx (bZ (a:=fD q.1) (b:=.int (ps z q.2:Nat)) rfl (VY (R.bind · _) o1)) (cW (d:=fD (.plus x q.1)) (by simp only[RX];rw[show ai fs N p [fD x,fD q.1] y'=_ from p1];rfl) rfl rfl)
    have ih:=uO I hN hd hf hs m (U (fD q.1)) c (.plus x q.1) q.2 (o4.trans (hr.trans hl)) ⋯ ⋯ p2 vl;have step:cQ (aQ (ai fs N) (.cmp .Eq (.sliB (.var 0) (.var 1) (.bin .Add (.var 1) (.con (.int 3)))) (.con (.str " + ")))) (az (ai fs N) (j4 a p)) (m+1) [U (.str (tx z)),U (.int (ps z l:Nat)),U (.int e),U (fD x),x4] y'=
      cQ (aQ (ai fs N) (.cmp .Eq (.sliB (.var 0) (.var 1) (.bin .Add (.var 1) (.con (.int 3)))) (.con (.str " + ")))) (az (ai fs N) (j4 a p)) m [U (.str (tx z)),U (.int (ps z q.2:Nat)),U (.int e),U (fD (.plus x q.1)),U (fD q.1)] y':=by
     rw[cQ,t1];simp only[R.ah,Option.isSome_some,V3,body]
    simp only[Option.bind_some];rw[step];cases hpm:dh aK f c (.plus x q.1) q.2 with
    |none=>rw[hpm]at ih;exact ih
    |some u=>rw[hpm]at ih;exact#[ih.1,ih.2.1,ih.2.2.1,ih.2.2.2.trans (o4.trans hr)]
def tF(fs:List Fn)(s k:Nat)(z:List Nat)(e d N:Nat)(f:List Nat->Option (TM×List Nat)):Prop:=
 ∀l,l <:+ z->Rs k z (d+1) l (ai fs N s [.str (tx z),.int (ps z l:Nat),.int e] y') (f l)
theorem C9{N e d:Nat}{br:Nat->List Nat->Option (List TM×List Nat)}(hN:5<=N)(hb:xA fs b k z e d (N-3) br)(hd2:d<=20){l:List Nat}(hl:l <:+ z)(I:TM->List Nat->Prop)(i0:∀q,cn aK br l=U q->(val q.1).length+pc q.2<=pc l+1->I q.1 q.2)(i1:∀x r,I x r->(val x).length+pc r<=pc l+1)
  (hs:∀x l r q,I x l->l <:+ z->lit [32,43,32] l=U r->cn aK br r=U q->(val q.1).length+pc q.2<=pc r+1->(val x).length+(val q.1).length<=900/\I (.plus x q.1) q.2):Rs k z (d+1) l (ai fs N s [.str (tx z),.int (ps z l:Nat),.int e] y') (jk aK br l):=by
 have hp:=jM H hz (N:=N-1) ⋯ (by rw[show N-1-2=N-3 by lia];exact hb);have Qc:=hl.length_le;have start:∀{rr:R (Dt×Sx)},fin (az (ai fs (N-1)) (Et a p) [U (.str (tx z)),U (.int (ps z l:Nat)),U (.int e),y',y'] y')=rr->ai fs N s [.str (tx z),.int (ps z l:Nat),.int e] y'=rr:=λh=>ax H.hs ⋯ rfl h
 have h1:=hp l hl;unfold jk;cases lG:cn aK br l with
 |none=>rw[lG]at h1;have h1:ai fs (N-1) a [.str (tx z),.int (ps z l:Nat),.int e] y'= .ex k:=h1;exact start (cU (b5 (VY (R.bind · _) h1)))
 |some q=>
  rw[lG]at h1;obtain⟨o1,o2,o3,o4⟩:=h1;have hq:=o4.length_le;have mo:=uO H hz (N:=N-1) I ⋯ hd2 hp hs c7 y' 1000 q.1 q.2 (o4.trans hl) (by unfold c7;lia) ⋯ o2 (i0 q lG o3);simp only[Option.bind_some];have go:=λ {rr:R (Dt×Sx)} (h:fin (az (ai fs (N-1)) _ [U (.str (tx z)),U (.int (ps z q.2:Nat)),U (.int e),U (fD q.1),y'] y')=rr)=>start (aN (bZ (a:=fD q.1) (b:=.int (ps z q.2:Nat)) rfl (VY (R.bind · _) o1)) h)
  cases hm:dh aK (cn aK br) 1000 q.1 q.2 with
  |none=>rw[hm]at mo;exact go (cU (by rw[cX];exact mo))
  |some u=>rw[hm]at mo;obtain⟨⟨x5,m1⟩,m2,m3,m4⟩:=mo;exact#[go (aN (by rw[cX];exact m1) (ae rfl)),m2,i1 _ _ m3,m4.trans o4]
theorem Aw(Ib:pc z<=899){N e d:Nat}{br:Nat->List Nat->Option (List TM×List Nat)}(hN:5<=N)(hb:xA fs b k z e d (N-3) br)(hd2:d<=20):tF fs s k z e d N (jk aK br):=λl hl=>
 C9 H hz hN hb hd2 hl (λx r=>(val x).length+pc r<=pc l+1) (λ_ _ h=>h) (λ_ _ h=>h) λx l' r q h _ h0 _ h2=>by have:=eO hl;have:=Gr h0;have:=dY (val x++val q.1);rw[TK]at this;exact#[⋯,by show (kn _).length+_<=_;lia]
omit H hz in
theorem EM{z l s:List Nat}{i:Nat}{k:Int}(hz:z.length<=1000)(hl:l <:+ z)(hk:k=s.length)(h0:bJ ρ 0= .ok (.str (tx z)))(h1:bJ ρ i= .ok (.int (ps z l:Nat))):
  aQ F (.cmp .NotEq (.sliB (.var 0) (.var i) (.bin .Add (.var i) (.con (.int k)))) (.con (.str (tx s)))) ρ S= .ok (!(lit s l).isSome,S):=by
 simp only[RX,t7 hz hl hk h0 h1,eT,i8]
theorem ye{N e d M most:Nat}{f:List Nat->Option (TM×List Nat)}(RP:most<=3)(hf:tF fs s k z (e+1) d N f):∀(m:Nat)(x4:Option Dt)(c:Nat)(xs:List TM)(l:List Nat),l <:+ z->l.length<m->xs.length+c=most->xs≠[]->(∀a∈xs,FN (d+1) a/\(val a).length+pc l<=M)->pc l+1<=M->
  match d8 aK f c xs l with
  |none=>cQ (aQ (ai fs N) (.and (.cmp .Lt (.bi .len (.cons (.mvr 5) .nil)) (.var 3)) (.cmp .Eq (.sliB (.var 0) (.var 1) (.bin .Add (.var 1) (.con (.int 2)))) (.con (.str ", "))))) (az (ai fs N) (qT s)) m [U (.str (tx z)),U (.int (ps z l:Nat)),U (.int e),U (.int most),x4,U (.lst (xs.map fD))] y'= .ex k
  |some q=>(∃x5,cQ (aQ (ai fs N) (.and (.cmp .Lt (.bi .len (.cons (.mvr 5) .nil)) (.var 3)) (.cmp .Eq (.sliB (.var 0) (.var 1) (.bin .Add (.var 1) (.con (.int 2)))) (.con (.str ", "))))) (az (ai fs N) (qT s)) m [U (.str (tx z)),U (.int (ps z l:Nat)),U (.int e),U (.int most),x4,U (.lst (xs.map fD))] y'= .ok (.next,[U (.str (tx z)),U (.int (ps z q.2:Nat)),U (.int e),U (.int most),x5,U (.lst (q.1.map fD))],y'))
    /\(∀a∈q.1,FN (d+1) a/\(val a).length+pc q.2<=M)/\q.1≠[]/\q.1.length<=most/\q.2 <:+ l
 |0,_,_,_,_,_,h,_,_,_,_=>by lia
 |m+1,x4,c,xs,l,hl,hm,hc,lF,hx,hM=>by
  have dC:z.length<=1000:=⋯
  have e2:(", ":Str)=tx [44,32]:=rfl;have t1:=gw (F:=ai fs N) (S:=y') (ρ:=[U (.str (tx z)),U (.int (ps z l:Nat)),U (.int e),U (.int most),x4,U (.lst (xs.map fD))]) (i:=1) (k:=2) (s:=[44,32]) dC hl rfl rfl rfl;rw[<-e2]at t1;cases c with
  |zero=>
   have cZ:decide ((xs.map fD).length<most)=G':=T1 (by rw[Tw];lia);have t:aQ (ai fs N) (.and (.cmp .Lt (.bi .len (.cons (.mvr 5) .nil)) (.var 3)) (.cmp .Eq (.sliB (.var 0) (.var 1) (.bin .Add (.var 1) (.con (.int 2)))) (.con (.str ", ")))) [U (.str (tx z)),U (.int (ps z l:Nat)),U (.int e),U (.int most),x4,U (.lst (xs.map fD))] y'= .ok (G',y'):=by simp only[RX,Int.ofNat_lt,cZ];rfl
   exact#[#[x4,by rw[cQ,t];rfl],hx,lF,by show xs.length<=_;lia,List.suffix_refl _]
  |succ c=>
   have cZ:decide ((xs.map fD).length<most)=B':=T5 (by rw[Tw];lia);have t:aQ (ai fs N) (.and (.cmp .Lt (.bi .len (.cons (.mvr 5) .nil)) (.var 3)) (.cmp .Eq (.sliB (.var 0) (.var 1) (.bin .Add (.var 1) (.con (.int 2)))) (.con (.str ", ")))) [U (.str (tx z)),U (.int (ps z l:Nat)),U (.int e),U (.int most),x4,U (.lst (xs.map fD))] y'= .ok ((lit [44,32] l).isSome,y'):=by rw[show∀a b:C,aQ (ai fs N) (.and a b) [U (.str (tx z)),U (.int (ps z l:Nat)),U (.int e),U (.int most),x4,U (.lst (xs.map fD))] y'=(aQ (ai fs N) a _ y').bind λx=>if x.1 then aQ (ai fs N) b _ x.2 else .ok (G',x.2) from λ_ _=>rfl];rw[show aQ (ai fs N) (.cmp .Lt (.bi .len (.cons (.mvr 5) .nil)) (.var 3)) [U (.str (tx z)),U (.int (ps z l:Nat)),U (.int e),U (.int most),x4,U (.lst (xs.map fD))] y'= .ok (B',y') by simp only[RX,Int.ofNat_lt,cZ],R.ah,V2 rfl,t1]
   have hp:aK.cm l=lit [44,32] l:=rfl;unfold d8;rw[hp];cases h0:lit [44,32] l with
   |none=>rw[h0]at t;exact#[#[x4,by rw[cQ,t];rfl],hx,lF,by show xs.length<=_;lia,List.suffix_refl _]
   |some r=>
    rw[h0]at t;obtain⟨er,dq,_⟩:=aB h0;have b7:2<=l.length:=dq;have hr:r <:+ l:=by rw[er];exact List.drop_suffix _ _
    have Mf:r.length+2=l.length:=by rw[er,U7];show l.length-2+2=_;lia
    have BW:ps z r=ps z l+2:=by rw[er];exact bc hl dq
    have h1:=hf r (hr.trans hl);rw[BW]at h1;simp only;cases lE:f r with
    |none=>rw[lE]at h1;have h1:ai fs N s [.str (tx z),.int ((ps z l:Int)+2),.int ((e:Int)+1)] y'= .ex k:=h1;show cQ _ _ _ _ _=_;rw[cQ,t];simp only[R.ah,Option.isSome_some,V3];rw[show az (ai fs N) (qT s) [U (.str (tx z)),U (.int (ps z l:Nat)),U (.int e),U (.int most),x4,U (.lst (xs.map fD))] y'= .ex k from rq (b5 (VY (R.bind · _) h1))];rfl
    |some q=>
     rw[lE]at h1;obtain⟨o1,o2,o3,o4⟩:=h1;have hq:=o4.length_le;have S7:=eO o4;have R4:=eO hr;have o1:ai fs N s [.str (tx z),.int ((ps z l:Int)+2),.int ((e:Int)+1)] y'= .ok (.tup [fD q.1,.int (ps z q.2:Nat)],y'):=o1;have body:az (ai fs N) (qT s) [U (.str (tx z)),U (.int (ps z l:Nat)),U (.int e),U (.int most),x4,U (.lst (xs.map fD))] y'= .ok (.next,[U (.str (tx z)),U (.int (ps z q.2:Nat)),U (.int e),U (.int most),U (fD q.1),U (.lst ((xs++[q.1]).map fD))],y'):=
      nx (bZ (a:=fD q.1) (b:=.int (ps z q.2:Nat)) rfl (VY (R.bind · _) o1)) (kR (ds:=xs.map fD) (d:=fD q.1) rfl rfl rfl (by rw[Tw];unfold lim;lia) (by rw[Um];rfl))
     have ih:=ye (M:=M) RP hf m (U (fD q.1)) c (xs++[q.1]) q.2 (o4.trans (hr.trans hl)) ⋯ (by rw[TK,Vd];lia) (by simp) (λa ha=>by
      rcases TV.mp ha with h|h
      ·have:=(hx a h).2;exact#[(hx a h).1,⋯]
      ·rw[Ua.mp h];exact#[o2,⋯]) ⋯
     simp only[Option.bind_some];have step:cQ (aQ (ai fs N) (.and (.cmp .Lt (.bi .len (.cons (.mvr 5) .nil)) (.var 3)) (.cmp .Eq (.sliB (.var 0) (.var 1) (.bin .Add (.var 1) (.con (.int 2)))) (.con (.str ", "))))) (az (ai fs N) (qT s)) (m+1) [U (.str (tx z)),U (.int (ps z l:Nat)),U (.int e),U (.int most),x4,U (.lst (xs.map fD))] y'=
       cQ (aQ (ai fs N) (.and (.cmp .Lt (.bi .len (.cons (.mvr 5) .nil)) (.var 3)) (.cmp .Eq (.sliB (.var 0) (.var 1) (.bin .Add (.var 1) (.con (.int 2)))) (.con (.str ", "))))) (az (ai fs N) (qT s)) m [U (.str (tx z)),U (.int (ps z q.2:Nat)),U (.int e),U (.int most),U (fD q.1),U (.lst ((xs++[q.1]).map fD))] y':=by
      rw[cQ,t];simp only[R.ah,Option.isSome_some,V3,body]
     rw[step];cases hpm:d8 aK f c (xs++[q.1]) q.2 with
     |none=>rw[hpm]at ih;exact ih
     |some u=>rw[hpm]at ih;exact#[ih.1,ih.2.1,ih.2.2.1,ih.2.2.2.1,ih.2.2.2.2.trans (o4.trans hr)]
theorem IH{N e d:Nat}{f:List Nat->Option (TM×List Nat)}(hN:2<=N)(he:e<20)(hf:tF fs s k z (e+1) d (N-1) f):xA fs b k z e (d+1) N (zE aK f):=λm l r hm1 hm hl h0=>by
 have dC:z.length<=1000:=⋯
 obtain⟨er,dq,_⟩:=aB h0;have dq:1<=l.length:=dq;have hr:r <:+ l:=by rw[er];exact List.drop_suffix _ _
 have Mf:r.length+1=l.length:=by rw[er,U7];show l.length-1+1=_;lia
 have BW:ps z r=ps z l+1:=by rw[er];exact bc hl dq
 have Qc:=hl.length_le;have e1:(")":Str)=tx [41]:=rfl;have start:∀{rr:R (Dt×Sx)},fin (az (ai fs (N-1)) (Nf s k) [U (.str (tx z)),U (.int (ps z l:Nat)),U (.int e),U (.int m),y',y'] y')=rr->ai fs N b [.str (tx z),.int (ps z l:Nat),.int e,.int m] y'=rr:=λh=>ax H.hb ⋯ rfl h
 have go:=λ {rr:R (Dt×Sx)} (h:fin (az (ai fs (N-1)) _ _ y')=rr)=>start (au (VY (λb=>R.ok (b,_)) (VW.mpr ⋯)) h)
 have h1:=hf r (hr.trans hl);rw[BW]at h1;unfold zE;cases lE:f r with
 |none=>rw[lE]at h1;have h1:ai fs (N-1) s [.str (tx z),.int ((ps z l:Int)+1),.int ((e:Int)+1)] y'= .ex k:=h1;exact go (cU (b5 (VY (R.bind · _) h1)))
 |some q=>
  rw[lE]at h1;obtain⟨o1,o2,o3,o4⟩:=h1;have hq:=o4.length_le;have o1:ai fs (N-1) s [.str (tx z),.int ((ps z l:Int)+1),.int ((e:Int)+1)] y'= .ok (.tup [fD q.1,.int (ps z q.2:Nat)],y'):=o1;simp only[Option.bind_some];have co:=ye H hz (N:=N-1) (most:=m) (M:=pc r+1) hm hf c7 (U (fD q.1)) (m-1) [q.1] q.2 (o4.trans (hr.trans hl)) (by unfold c7;lia) (by show 1+(m-1)=m;lia) (by simp) (λa ha=>by rw[Ua.mp ha];exact#[o2,o3]) (by have:=eO o4;lia);have go2:=λ {rr:R (Dt×Sx)} (h:fin (az (ai fs (N-1)) _ [U (.str (tx z)),U (.int (ps z q.2:Nat)),U (.int e),U (.int m),U (fD q.1),U (.lst [fD q.1])] y')=rr)=>go (aN (bZ (a:=fD q.1) (b:=.int (ps z q.2:Nat)) rfl (VY (R.bind · _) o1)) (gZ (d:=.lst [fD q.1]) rfl rfl h))
  cases hc:d8 aK f (m-1) [q.1] q.2 with
  |none=>rw[hc]at co;exact go2 (cU (by rw[cX];exact co))
  |some u=>
   rw[hc]at co;obtain⟨⟨x5,w1⟩,w2,w3,w4,w5⟩:=co;have hu:=w5.length_le;have Qm:u.2 <:+ z:=w5.trans (o4.trans (hr.trans hl));have uf:=λ {rr:R (Dt×Sx)} (h:fin (az (ai fs (N-1)) _ [U (.str (tx z)),U (.int (ps z u.2:Nat)),U (.int e),U (.int m),x5,U (.lst (u.1.map fD))] y')=rr)=>go2 (aN (by rw[cX];exact w1) h)
   have t1:=EM (F:=ai fs (N-1)) (S:=y') (ρ:=[U (.str (tx z)),U (.int (ps z u.2:Nat)),U (.int e),U (.int m),x5,U (.lst (u.1.map fD))]) (i:=1) (k:=1) (s:=[41]) dC Qm rfl rfl rfl;rw[<-e1]at t1;have vW:aK.cl u.2=lit [41] u.2:=rfl;simp only[Option.bind_some,vW];cases h41:lit [41] u.2 with
   |none=>rw[h41]at t1;exact uf (aA t1 (gz (by rw[US,ja rfl (mE dC)];rfl)))
   |some r3=>
    rw[h41]at t1;obtain⟨pH,vZ,_⟩:=aB h41;have vZ:1<=u.2.length:=vZ;have R0:=bc Qm (k:=1) vZ;have N6:r3 <:+ u.2:=by rw[pH];exact List.drop_suffix _ _
    have SN:=N6.length_le;refine#[uf (au t1 (ae ?_)),λa ha=>#[(w2 a ha).1,?_],w3,w4,(by show r3.length+1<=l.length;lia),N6.trans (w5.trans (o4.trans hr))]
    ·rw[pH];simp only[RX];rw[show ([41]:List Nat).length=1 from rfl,R0];rfl
    ·have:=(w2 a ha).2;have SQ:=eO N6;have R4:=eO hr;show (val a).length+pc r3<=_
     lia
theorem vA(Ib:pc z<=899):∀(d:Nat){N:Nat},d<=20->4*d+5<=N->tF fs s k z (20-d) d N (bC aK d)
 |0,N,_,hN=>Aw H hz Ib ⋯ (λm l r _ _ hl h0=>by
   have dC:z.length<=1000:=⋯
   show ai fs (N-3) b [.str (tx z),.int (ps z l:Nat),.int (20:Nat),.int m] y'= .ex k;exact ax H.hb ⋯ rfl (aA rfl (gz (by rw[US,ja rfl (mE (l:=l) dC)];rfl)))) ⋯
 |d+1,N,hd,hN=>by have ih:=vA Ib d (N:=N-4) ⋯ ⋯;refine Aw H hz Ib ⋯ (IH H hz ⋯ ⋯ ?_) hd;rw[show 20-(d+1)+1=20-d by lia,show N-3-1=N-4 by lia];exact ih
end
def xR(s k:Nat):Ts:=(.cons (.ifs (.nt (.bi (.isi "str") (.cons (.var 0) .nil))) (.cons (.rs k []) .nil) .nil) (.cons (.ifs (.cmp .Gt (.bi .len (.cons (.var 0) .nil)) (.con (.int 600))) (.cons (.rs k []) .nil) .nil) (.cons (.asgT [1,2] (.call s (.cons (.var 0) (.cons (.con (.int 0)) (.cons (.con (.int 0)) .nil))) [])) (.cons (.ifs (.cmp .Lt (.var 2) (.bi .len (.cons (.var 0) .nil))) (.cons (.rs k [2]) .nil) .nil) (.cons (.ret (.var 1)) .nil)))))
def qb(l:List Nat):Option TM:=if 600<l.length then y' else(bC aK 20 l).bind λp=>if p.2=[] then U p.1 else y'
theorem vk{g p t s a n o b w r k rd:Nat}(H:LM fs g p t s a n o b w r k)(hf:fs[rd]?=U #[1,3,G',xR s k]){N:Nat}(hN:90<=N){z:List Nat}(hz:z.length<=100000)(h1:z.length<=600->Rs k z 21 z (ai fs (N-1) s [.str (tx z),.int (ps z z:Nat),.int (0:Nat)] y') (bC aK 20 z)):
  match qb z with
  |none=>ai fs N rd [.str (tx z)] y'= .ex k
  |some x=>ai fs N rd [.str (tx z)] y'= .ok (fD x,y')/\FN 21 x:=by
 have start:∀{rr:R (Dt×Sx)},fin (az (ai fs (N-1)) (xR s k) [U (.str (tx z)),y',y'] y')=rr->ai fs N rd [.str (tx z)] y'=rr:=λh=>ax hf ⋯ rfl h
 have hlen:=len_str (z:=tx z) (by rw[aO];exact Tz hz (by decide));rw[aO]at hlen;have hi:dw (.isi "str") [.str (tx z)]= .ok (.bl B'):=rfl;have go:=λ {rr:R (Dt×Sx)} (h:fin (az (ai fs (N-1)) _ [U (.str (tx z)),y',y'] y')=rr)=>start (au (by simp only[RX,hi];rfl) h)
 unfold qb;by_cases c:600<z.length
 ·rw[V2 c];exact go (aA (by simp only[RX,hlen];rw[T5 ⋯]) (gz rfl))
 ·rw[V1 c];have h1:=h1 ⋯;have go2:=λ {rr:R (Dt×Sx)} (h:fin (az (ai fs (N-1)) _ [U (.str (tx z)),y',y'] y')=rr)=>go (au (by simp only[RX,hlen];rw[T1 ⋯]) h)
  have p0:ps z z=0:=by unfold ps;lia
  rw[p0]at h1;cases hs:bC aK 20 z with
  |none=>rw[hs]at h1;have h1:ai fs (N-1) s [.str (tx z),.int 0,.int 0] y'= .ex k:=h1;exact go2 (cU (b5 (VY (R.bind · _) h1)))
  |some q=>
   rw[hs]at h1;obtain⟨o1,o2,o3,o4⟩:=h1;have o1:ai fs (N-1) s [.str (tx z),.int 0,.int 0] y'= .ok (.tup [fD q.1,.int (ps z q.2:Nat)],y'):=o1;have pq:=zW o4;have uf:=λ {rr:R (Dt×Sx)} (h:fin (az (ai fs (N-1)) _ [U (.str (tx z)),U (fD q.1),U (.int (ps z q.2:Nat))] y')=rr)=>go2 (aN (bZ (a:=fD q.1) (b:=.int (ps z q.2:Nat)) rfl (VY (R.bind · _) o1)) h)
   simp only[Option.bind_some];by_cases e:q.2=[]
   ·rw[V2 e];rw[e]at pq;exact#[uf (au (by simp only[RX,hlen];rw[T1 (by rw[e];simp at pq;lia)]) (ae rfl)),o2]
   ·rw[V1 e];have:=List.length_pos_iff.mpr e;exact uf (aA (by simp only[RX,hlen];rw[T5 ⋯]) (gz (by rw[US,ja rfl (mE (z:=z) (l:=q.2) ⋯)];rfl)))
theorem D2{g p t s a n o b w r k:Nat}(H:LM fs g p t s a n o b w r k){N:Nat}(hN:90<=N){z:List Nat}(hp:pc z<=899)(hz:z.length<=600):Rs k z 21 z (ai fs (N-1) s [.str (tx z),.int (ps z z:Nat),.int (0:Nat)] y') (bC aK 20 z):=vA H hz hp 20 (N:=N-1) ⋯ ⋯ z (List.suffix_refl _)
variable{fs:List Fn}
def AY(L w:Str):Prop:=∀n∈w.cps.toList,n∈L.cps.toList
theorem Bm(a b:Str):(a++b).cps.toList=a.cps.toList++b.cps.toList:=by show (a.cps++b.cps).toList=_;simp
theorem jE{L a b:Str}(h1:AY L a)(h2:AY L b):AY L (a++b):=λn h=>by rw[Bm]at h;exact(TV.mp h).elim (h1 n) (h2 n)
theorem rJ{L:Str}{k d:Nat}(h:k<L.length):AY L ⟨#[L.cps.toList.getD k d]⟩:=λn hn=>by
 have hk:k<L.cps.toList.length:=by simpa [Str.length]using h
 have:n=L.cps.toList.getD k d:=by simpa using hn
 rw[this,U0,TZ hk];exact U4 _
theorem kc(x:Str)(j:Nat):PySem.Txt.slice x y' (U (j:Int))=tx (x.cps.toList.take j):=by
 have e:PySem.Txt.slice x y' (U (j:Int))=PySem.Txt.slice x (U ((0:Nat):Int)) (U (j:Int)):=by unfold PySem.Txt.slice;rw[PySem.StrLaws.sliceIdx_none_lo];rfl
 rw[e,nF _ (VL j)];rfl
theorem kb(x:Str)(i:Nat):PySem.Txt.slice x (U (i:Int)) y'=tx (x.cps.toList.drop i):=by
 have e:PySem.Txt.slice x (U (i:Int)) y'=PySem.Txt.slice x (U (i:Int)) (U ((max i x.length:Nat):Int)):=by unfold PySem.Txt.slice;rw[PySem.StrLaws.sliceIdx_none_hi,nZ,nZ x.length i (max i x.length),Nat.min_self,Nat.min_eq_right (Nat.le_max_right _ _)]
 rw[e,nF _ (Nat.le_max_left _ _),Vv (by rw[U7];simp[Str.length];lia)]
theorem uQ{ip im:Nat}(hp:mV fs ip)(hf:fs[im]?=U #[3,9,G',qU ip]){n:Nat}(hn:3<=n){ns:List Int}{k:Nat}{L:Str}(hk:k<100000)(hL:L.length=26)(hz:L.length<=lim):∃a b c,ai fs n im [.aW ns,.int k,.str L] y'= .ok (.lst [.str a,.str b,.str c],y')/\AY L a/\1<=a.length/\a.length<=6/\(1<=b.length/\b.length<=8)/\1<=c.length/\c.length<=8:=by
 have v7:lim=1000000:=rfl;have jh:=aZ (ns:=ns) (k:=k) (many:=6) (by decide);have P:=λ(k many:Nat)(h1:k<1000000)(h2:0<many)=>bW hp (n:=n-1) ⋯ (ns:=ns) h1 h2
 have loop:=dW (S:=y') (tg:=.nm 4) (body:=az (ai fs (n-1)) (.cons (.asg 3 (.bin .Add (.var 3) (.idx (.var 2) (.call ip (.cons (.var 0) (.cons (.bin .Add (.bin .Add (.var 1) (.bin .Mult (.con (.int 11)) (.var 4))) (.con (.int 1))) (.cons (.con (.int 26)) .nil))) [])))) .nil)) (ds:=bL 0 (bg ns k 6))
  (ρ:=[U (.aW ns),U (.int k),U (.str L),U (.str ""),y',y',y',y',y'])
  (λpre ρ=>∃w jv,w.length<=pre.length/\AY L w/\ρ=[U (.aW ns),U (.int k),U (.str L),U (.str w),jv,y',y',y',y']) #["",y',Tr _,λn h=>(by cases h),rfl] (by
   rintro pre x post ρ e ⟨w,jv,hw,A8,rfl⟩;obtain⟨h1,rfl⟩:=mH e;have Qg:=P (k+11*pre.length+1) 26 ⋯ (by decide);have cZ:=aZ (ns:=ns) (k:=k+11*pre.length+1) (many:=26) (by decide);have hc:=fz (z:=L) (k:=bg ns (k+11*pre.length+1) 26) (d:=0) ⋯ ⋯;have ic:=rJ (L:=L) (d:=0) (k:=bg ns (k+11*pre.length+1) 26) ⋯;generalize L.cps.toList.getD (bg ns (k+11*pre.length+1) 26) 0=c at hc ic;have m1:=bp (i:=11) (j:=pre.length) (.inl (by decide));have ca:=dI (a:=w) (b:=⟨#[c]⟩) (by show w.length+1<=lim;lia);refine#[_,_,rfl,cW (d:=.str (w++⟨#[c]⟩)) ?_ rfl rfl,w++⟨#[c]⟩,_,?_,jE A8 ic,rfl]
   ·rw[show ((k+11*pre.length+1:Nat):Int)=(k:Int)+11*pre.length+1 by lia]at Qg;simp only[RX,m1];rw[show ([Dt.aW ns,.int ((k:Int)+11*pre.length+1),.int 26]:List Dt)=[.aW ns,.int ((k:Int)+11*pre.length+1),.int (26:Nat)] from rfl,Qg];simp only[RX,hc,ca]
   ·rw[len_cat,TK];show w.length+1<=_;simp;lia)
 obtain⟨ρ1,mf,w,jv,hw,A8,rfl⟩:=loop;have we:w.length<=5:=by
  have:(bL 0 (bg ns k 6)).length=bg ns k 6:=by simp[bL]
  lia
 have p2:=P (k+2) (w.length+1) ⋯ ⋯;have l2:=aZ (ns:=ns) (k:=k+2) (many:=w.length+1) ⋯;have p3:=P (k+3) 26 ⋯ (by decide);have l3:=aZ (ns:=ns) (k:=k+3) (many:=26) (by decide);have p4:=P (k+4) 3 ⋯ (by decide);generalize bg ns (k+2) (w.length+1)=at' at p2 l2;generalize bg ns (k+3) 26=fi at p3 l3;generalize bg ns (k+4) 3=q4 at p4;have hlen:=len_str (z:=w) ⋯;have NU:=fz (z:=L) (k:=fi) (d:=0) ⋯ ⋯;have Qq:=rJ (L:=L) (d:=0) (k:=fi) ⋯;generalize L.cps.toList.getD fi 0=cf at NU Qq;obtain⟨ca,P4⟩:=ux (z:=L) (k:=at') ⋯ ⋯;have s3:=iG (z:=w) (lo:=y') (hi:=U 3) ⋯;have e3:=PySem.Txt.slice_le w y' (U 3);have i3:AY L (PySem.Txt.slice w y' (U 3)):=λn h=>A8 n (by rw[show (U (3:Int))=U ((3:Nat):Int) from rfl,kc,bD]at h;exact Vm h)
 have Sl:(PySem.Txt.slice w y' (U 3)).length<=3:=by rw[show (U (3:Int))=U ((3:Nat):Int) from rfl,kc,aO,Ve];lia
 generalize PySem.Txt.slice w y' (U 3)=w3 at s3 e3 i3 Sl;have SU:((26:Nat):Int)=26:=rfl;have head:∃a b c,fin (az (ai fs (n-1)) (qU ip) [U (.aW ns),U (.int k),U (.str L),y',y',y',y',y',y'] y')= .ok (.lst [.str a,.str b,.str c],y')/\AY L a/\1<=a.length/\a.length<=6/\(1<=b.length/\b.length<=8)/\1<=c.length/\c.length<=8:=by
  by_cases h4:q4=0
  ·subst h4;have c1:=dI (a:=w3) (b:=⟨#[cf]⟩) (by show w3.length+1<=lim;lia);have c2:=dI (a:=w3++⟨#[cf]⟩) (b:=⟨#[ca]⟩) (by rw[len_cat];show w3.length+1+1<=lim;lia);have c3:=dI (a:=w3++⟨#[cf]⟩++⟨#[ca]⟩) (b:=⟨#[cf]⟩) (by rw[len_cat,len_cat];show w3.length+1+1+1<=lim;lia);refine#[w3++⟨#[cf]⟩,w3++⟨#[cf]⟩++⟨#[ca]⟩,w3++⟨#[cf]⟩++⟨#[ca]⟩++⟨#[cf]⟩,?_,jE i3 Qq,by rw[len_cat];exact Nat.le_add_left 1 _,by rw[len_cat];show w3.length+1<=6;lia,#[by rw[len_cat];exact Nat.le_add_left 1 _,by rw[len_cat,len_cat];show w3.length+1+1<=8;lia],by rw[len_cat];exact Nat.le_add_left 1 _,by rw[len_cat,len_cat,len_cat];show w3.length+1+1+1<=8;lia];refine ao (d:=.str "") rfl rfl (dB (ds:=bL 0 (bg ns k 6)) (kG (VY (R.bind · _) (P k 6 ⋯ (by decide))) ⋯) rfl mf ?_);refine ao (d:=.int at') (by simp only[RX,hlen];exact VY (R.bind · _) p2) rfl ?_;refine ao (d:=.int fi) (VY (R.bind · _) p3) rfl ?_;refine aA (by simp only[RX];rw[show ai fs (n-1) ip [.aW ns,.int ((k:Int)+4),.int 3] y'=_ from p4];rfl) ?_;refine ao (d:=.str (w3++⟨#[cf]⟩)) (by simp only[RX,s3,NU,c1]) rfl ?_;exact ae (by simp only[RX,P4,NU,c2,c3])
  ·have l4:=λj:Nat=>Nat.mod_lt (fi+7*j) (y:=26) (by decide)
   have s5:=iG (z:=w) (lo:=y') (hi:=U (at':Int)) ⋯;have e5:=PySem.Txt.slice_le w y' (U (at':Int));have i5:AY L (PySem.Txt.slice w y' (U (at':Int))):=λn h=>A8 n (by rw[kc,bD]at h;exact Vm h)
   have i6:AY L (PySem.Txt.slice w (U (at':Int)) y'):=λn h=>A8 n (by rw[kb,bD]at h;exact List.mem_of_mem_drop h)
   have Qw:(PySem.Txt.slice w y' (U (at':Int))).length+(PySem.Txt.slice w (U (at':Int)) y').length=w.length:=by rw[kc,kb,aO,aO,<-TK,Vu];simp[Str.length]
   have s6:=iG (z:=w) (lo:=U (at':Int)) (hi:=y') ⋯;have e6:=PySem.Txt.slice_le w (U (at':Int)) y';generalize PySem.Txt.slice w y' (U (at':Int))=wa at s5 e5 i5 Qw;generalize PySem.Txt.slice w (U (at':Int)) y'=wb at s6 e6 i6 Qw;have hl:L.cps.toList.length=26:=by rw[<-hL];simp[Str.length]
   have J1:=dW (S:=y') (tg:=.nm 4) (body:=az (ai fs (n-1)) tK) (ds:=bL 0 3)
    (ρ:=[U (.aW ns),U (.int k),U (.str L),U (.str w),jv,U (.int at'),U (.int fi),U (.lst []),y'])
    (λpre ρ=>∃jv s8,ρ=[U (.aW ns),U (.int k),U (.str L),U (.str w),jv,U (.int at'),U (.int fi),U (.lst ((List.range pre.length).map λj=>Dt.str (wa++⟨#[L.cps.toList.getD ((fi+7*j) % 26) cf]⟩++wb))),s8]) #[jv,y',rfl] (by
     rintro pre x post ρ e ⟨jv,s8,rfl⟩;obtain⟨h1,rfl⟩:=mH e;have hc:=fz (z:=L) (k:=(fi+7*pre.length) % 26) (d:=cf) ⋯ (by have:=l4 pre.length;lia);rw[show (((fi+7*pre.length) % 26:Nat):Int)=((fi:Int)+7*pre.length) % 26 by lia]at hc;generalize hcc:L.cps.toList.getD ((fi+7*pre.length) % 26) cf=c at hc;have m1:=bp (i:=7) (j:=pre.length) (.inl (by decide));have m2:=ck (i:=(fi:Int)+7*pre.length) (j:=26) (by decide);have c1:=dI (a:=wa) (b:=⟨#[c]⟩) (by show wa.length+1<=lim;lia);have c2:=dI (a:=wa++⟨#[c]⟩) (b:=wb) (by rw[len_cat];show wa.length+1+wb.length<=lim;lia);refine#[_,_,rfl,cW (d:=.str ⟨#[c]⟩) (by simp only[RX,m1,m2,hc]) rfl (kR (ds:=(List.range pre.length).map λj=>Dt.str (wa++⟨#[L.cps.toList.getD ((fi+7*j) % 26) cf]⟩++wb)) (d:=.str (wa++⟨#[c]⟩++wb)) rfl (by simp only[RX,s5,s6,c1,c2]) rfl (by simp;lia) rfl),U (.int pre.length),U (.str ⟨#[c]⟩),?_];rw[TK,Vd,List.range_succ,Um,List.map_singleton,hcc];rfl)
   obtain⟨ρ2,E6,S9,s8,rfl⟩:=J1;refine#[wa++⟨#[L.cps.toList.getD ((fi+7*0) % 26) cf]⟩++wb,wa++⟨#[L.cps.toList.getD ((fi+7*1) % 26) cf]⟩++wb,wa++⟨#[L.cps.toList.getD ((fi+7*2) % 26) cf]⟩++wb,?_,?_,?_,?_,#[?_,?_],?_,?_]
   rotate_left
   ·exact jE (jE i5 (rJ (d:=cf) (by rw[hL];exact l4 0))) i6
   ·rw[len_cat,len_cat];show 1<=wa.length+1+wb.length;lia
   ·rw[len_cat,len_cat];show wa.length+1+wb.length<=6;lia
   iterate 2
    ·rw[len_cat,len_cat];show 1<=wa.length+1+wb.length;lia
    ·rw[len_cat,len_cat];show wa.length+1+wb.length<=8;lia
   refine ao (d:=.str "") rfl rfl (dB (ds:=bL 0 (bg ns k 6)) (kG (VY (R.bind · _) (P k 6 ⋯ (by decide))) ⋯) rfl mf ?_);refine ao (d:=.int at') (by simp only[RX,hlen];exact VY (R.bind · _) p2) rfl ?_;refine ao (d:=.int fi) (VY (R.bind · _) p3) rfl ?_;refine au (by simp only[RX];rw[show ai fs (n-1) ip [.aW ns,.int ((k:Int)+4),.int 3] y'=_ from p4];simp only[RX];simp[h4]) ?_;refine gZ (d:=.lst []) rfl rfl (dB (ds:=bL 0 3) (kG (n:=3) rfl (by decide)) rfl E6 ?_);exact ae rfl
 obtain⟨a,b,c,h1,h2⟩:=head;exact#[a,b,c,ax hf ⋯ rfl h1,h2]
end Rx
end
section
namespace Rx
open PySem PySem.W PySem.Spec PyProof.Rows L2 PySem.SeqAt
theorem An{fs:List Fn}{n k:Nat}{g:Fn}{args:List Dt}{S:Sx}(h:fs[k]?=U g):ai fs (n+1) k args S=gk (ai fs n) g args S:=by show (match fs[k]? with|some g=>gk (ai fs n) g args S|none=>R.bad)=_;rw[h]
section
variable{g:G}{K:Frag}{mg:Str->Option Value}{P:Program}{w:World}{base:Heap}{fs:List Fn}
theorem rO{n L m:Nat}{params:Arguments}{body:List Stmt}{scope:Scope}{dV kV doc pm fq ct oc:Value}{an od:Option Addr}{uW:Array (Option Value)}{f:Addr}{N ps:List Str}{M:List Bool}{δ κ:Option Nat}{fF:Bool}{ts:Ts}
  {xv:Nat->Value} (hm:MG g mg) (BY:XG g K mg xv) (ok:o9 g K mg 0 g.fns fs) (lk:K.lookup f=U #[oc,od,.func (PySem.W.fnOf "law" "law" params body scope dV kV doc pm an fq ct),uW]) (xl:PySem.W.codeIn K fq "law"=B') (S:eE N ps scope)
  (hM:∀i,i<ps.length->M[i]?≠U B') (hp:ps.length=1) (hc:ED m g #[scope.names,N,M,δ,κ] G' fF body=U ts) (hf:fs[L]?=U #[1,N.length,G',ts])
  (hn:∀ns:List Int,ns.length<=63->∃S,ai fs (n+1) L [.aW ns] y'= .ok (.bl B',S)):
  iQ P w K mg base (oW P w) (n+1) f (PySem.W.fnOf "law" "law" params body scope dV kV doc pm an fq ct) ps (vx K):=by
 have h:=l9 (xv:=xv) (P:=P) (w:=w) (base:=base) lk xl S hm BY (kZ (P:=P) (w:=w) (base:=base) (xv:=xv) hm BY ok n) hM (λz=>by cases z) hc;refine h.imp λvs H Q E q=>?_
 obtain⟨a,ns,rfl,hs,hl,hq⟩:=q;obtain⟨S',hS⟩:=hn ns hl;rw[An hf]at hS;rw[hp];refine#[rfl,N0,y',[.aW ns],y',[.ref a],#[rfl,rfl,rfl],ar.cons ?_ ar.nil,λb z=>z.elim,?_]
 ·unfold RV;refine#[a,rfl,?_];rcases hs with hs|hs
  ·exact .inl #[hs,λz=>z]
  ·exact .inr hs
 ·rw[hS];intro v H' fo;rw[fo.val.bA];exact hq H'
end
theorem walkR{l:PySem.W.OpenLaw}{q:Program}{k:Nat}{loose:List Str}{XP:(Str->Option Value)->Heap->Prop}{YP:World->Heap->Prop}{d:DefRec}{K:Params->PySem.W.Frag}(hn:l.most=U 63)(Jy:d.params.defaults=[])(hr:gQ k callerA)
  (hY:∀(w:World)(h:Heap),YP w h->(K w.params).In h)
  (F:∀(w:World)(mg:Str->Option Value)(fa:Addr)(h:Heap),(K w.params).In h->h.Ns mainGlobals mg->mg d.name=U (.ref fa)->
   ∃fd:FuncData,(∀(s:Shared)(u:Value),BindsTo s fd #[[u],[]] [("_law_script",u)])/\∀base:Heap,(K w.params).In base->base.Ns mainGlobals mg->iQ l.prog w (K w.params) mg base (oW l.prog w) k fa fd ["_law_script"] (vx (K w.params))):
  PySem.W.WalkO q loose XP YP l.row.toRowW d [] (λf vs=>PySem.call f vs):=
 L2.Dj (n:=63) (k:=k) (x:="_law_script") (CX:=λw=>oW l.prog w) (sp:=λw=>vx (K w.params)) hn (by decide) Jy hr hY F (λ_ _ a ns hl _ hS=>#[a,ns,rfl,hS,hl,λ_=>rfl]) λ_ _ _ _ _ z=>by obtain⟨_,_,_,_,_,_,_,_,_,z⟩:=z;exact z
structure Row where
 nm:Str
 s:Stmt
 ps:List Str
 ms:List Str:=[]
 dr:Option Str:=y'
 dp:Bool:=G'
 fy:List Dt:=[]
 dk:Option Str:=y'
namespace Row
def N(r:Row):List Str:=Sm (bu r.s).names r.ps
def gm(r:Row):Gm:=#[(bu r.s).names,r.N,Ii r.N r.ms,if r.dp then U 0 else r.dr.bind (ze · r.N),r.dk.bind (ze · r.N)]
def fn(g:G)(j:Nat)(r:Row):Option Fn:=(ED 60 g r.gm r.dp (g.fr j) (gV r.s)).map λts=>#[r.ps.length,r.N.length,r.dp,ts]
def ent(r:Row):Str×Nat×List Dt×Bool:=(r.nm,r.ps.length,r.fy,r.dp)
def ok(r:Row):Bool:=
 ((bu r.s).kind== .function)&& !(bu r.s).isCoroutine&& !(bu r.s).isGenerator&&decide r.N.Nodup&&decide (r.N.take r.ps.length=r.ps)&&
 (r.ps.all λx=>(bu r.s).names.lookup x==U .local||(bu r.s).names.lookup x==U .cell)&&((bu r.s).names.all λy=>y.2 != .free)&&
 ((Ii r.N r.ms).take r.ps.length).all (λb=> !b)&&r.fy.all o8
theorem scope{r:Row}(h:r.ok=B'):eE r.N r.ps (bu r.s)/\(∀i,i<r.ps.length->(Ii r.N r.ms)[i]?≠U B')/\r.fy.all o8=B':=by
 unfold ok at h;simp only[Ti]at h;obtain⟨⟨⟨⟨⟨⟨⟨⟨h1,h2⟩,h3⟩,h4⟩,h5⟩,h6⟩,h7⟩,h8⟩,h9⟩:=h;refine#[#[TY h1,by simpa using h2,by simpa using h3,Tn h4,Tn h5,λx hx=>?_,λy hy e=>?_],J4 h8,h9]
 ·have:=Uc.mp h6 x hx;rcases UD.mp this with z|z
  ·exact .inl (TY z)
  ·exact .inr (TY z)
 ·have:=Uc.mp h7 y hy;rw[e]at this;cases this
end Row
def pN(g:G):Nat->List Row->Option (List Fn)
 |_,[]=>U []
 |j,r::rs=>(r.fn g j).bind λf=>(pN g (j+1) rs).map (f:: ·)
def Fd(K:Frag)(nm:Str)(s:Stmt)(ps:List Str)(fy:List Dt):Prop:=∃(fa:Addr)(oc dV kV doc pm fq ct:Value)(od an:Option Addr)(uW:Array (Option Value)),
 nsIn K mainGlobals nm=U (U (.ref fa))/\K.lookup fa=U #[oc,od,.func (fnOf nm nm (nG s) (gV s) (bu s) dV kV doc pm an fq ct),uW]/\codeIn K fq nm=B'/\keepIn K (.ref fa)=B'/\(fy=[]->dV= .none)/\
 ∀j,j<=fy.length->∃ds,ay ((fy.drop j).map qL) ds/\Binds K (fnOf nm nm (nG s) (gV s) (bu s) dV kV doc pm an fq ct) ps ds
def LB(K:Frag):List Row->Prop
 |[]=>True
 |r::rs=>Fd K r.nm r.s r.ps r.fy/\LB K rs
section
variable{g:G}{K:Frag}{mg:Str->Option Value}{h:Heap}{fs:List Fn}
theorem yE(X:K.In h)(Gs:h.Ns mainGlobals mg):∀{rs:List Row}{i:Nat}{fs:List Fn},rs.all Row.ok=B'->pN g i rs=U fs->LB K rs->o9 g K mg i (rs.map Row.ent) fs
 |[],i,fs,_,e,_=>by cases e;trivial
 |r::rs,i,fs,hk,e,F=>by rw[US,Ti]at hk;obtain⟨f,e1,e⟩:=Te.mp e;obtain⟨xj,e2,rfl⟩:=TJ.mp e;obtain⟨ts,c1,rfl⟩:=TJ.mp e1;obtain⟨⟨fa,oc,dV,kV,doc,pm,fq,ct,od,an,uW,a,l,c,k,_,b⟩,F⟩:=F;obtain⟨s1,s2,s3⟩:=Row.scope hk.1;exact#[#[fa,r.ps,r.N,_,_,_,60,oc,od,an,uW,_,_,_,dV,kV,doc,pm,fq,ct,l,c,k,mg_of X Gs a,s1,s2,λz=>V2 z,rfl,c1,rfl,rfl,rfl,b,s3],yE X Gs hk.2 e2 F]
theorem EV{rs:List Row}:∀{L i:Nat}{fs:List Fn}{r:Row},pN g i rs=U fs->rs[L]?=U r->∃ts,ED 60 g r.gm r.dp (g.fr (i+L)) (gV r.s)=U ts/\fs[L]?=U #[r.ps.length,r.N.length,r.dp,ts]:=by
 induction rs with
 |nil=>intro L i fs r _ e;simp at e
 |cons r0 rs ih=>
  intro L i fs r e hr;obtain⟨f,e1,e⟩:=Te.mp e;obtain⟨xj,e2,rfl⟩:=TJ.mp e;cases L with
  |zero=>cases hr;obtain⟨ts,c1,rfl⟩:=TJ.mp e1;exact#[ts,c1,rfl]
  |succ L=>obtain⟨ts,c1,c2⟩:=ih e2 (by simpa using hr);exact#[ts,by rw[show i+(L+1)=i+1+L by lia];exact c1,by simpa using c2]
theorem yA:∀{rs:List Row}{L:Nat}{r:Row},LB K rs->rs[L]?=U r->Fd K r.nm r.s r.ps r.fy
 |[],L,r,_,e=>by simp at e
 |r0::rs,0,r,F,e=>by cases e;exact F.1
 |r0::rs,L+1,r,F,e=>yA F.2 (by simpa using e)
def MN(K:Frag):List Str->Prop
 |[]=>True
 |x::xs=>nsIn K mainGlobals x=U y'/\MN K xs
def MC(K:Frag):List (Str×Dt)->Prop
 |[]=>True
 |x::xs=>(∃u,nsIn K mainGlobals x.1=U (U u)/\o8 x.2=B'/\RelV (qL x.2) u)/\MC K xs
theorem zy{x:Str}:∀{xs:List Str},MN K xs->x∈xs->nsIn K mainGlobals x=U y'
 |y::xs,h,hx=>by
  rcases TC.mp hx with rfl|hx
  ·exact h.1
  ·exact zy h.2 hx
theorem yg{x:Str}{d:Dt}:∀{xs:List (Str×Dt)},MC K xs->xs.lookup x=U d->∃u,nsIn K mainGlobals x=U (U u)/\o8 d=B'/\RelV (qL d) u
 |[],_,e=>by simp at e
 |y::xs,h,e=>by
  rw[T2]at e;split at e
  ·rename_i q;cases e;rw[TY q];exact h.1
  ·exact yg h.2 e
def MV(K:Frag)(C:Addr):List (Str×Bool)->Prop
 |[]=>True
 |x::xs=>(∃c,(nsIn K mainGlobals x.1=U (U c)/\(∃D,c= .ref D)\/nsIn K mainGlobals x.1=U y'/\x.1="ValueError"/\c= .type "ValueError")/\kitOne K (.ref C) c=U x.2/\(x.2=B'->exmOne K (.ref C) c=U B'))/\MV K C xs
def MU(K:Frag):List (Str×List (Str×Bool))->Prop
 |[]=>True
 |x::xs=>(∃C,nsIn K mainGlobals x.1=U (U (.ref C))/\excIn K C EA "ValueError.__new__"=B'/\xH K C/\MV K C x.2)/\MU K xs
theorem AS(X:K.In h)(Gs:h.Ns mainGlobals mg){C:Addr}{t:Str}{b:Bool}:∀{xs:List (Str×Bool)},MV K C xs->xs.lookup t=U b->∃c,(mg t=U c/\(∃D,c= .ref D)\/mg t=y'/\t="ValueError"/\c= .type "ValueError")/\kitOne K (.ref C) c=U b/\(b=B'->exmOne K (.ref C) c=U B')
 |[],_,e=>by simp at e
 |y::xs,hx,e=>by
  rw[T2]at e;split at e
  ·rename_i q;cases e;rw[TY q];obtain⟨c,h1,h2⟩:=hx.1;exact#[c,h1.imp (λz=>#[mg_of X Gs z.1,z.2]) λz=>#[mg_none_of X Gs z.1,z.2],h2]
  ·exact AS X Gs hx.2 e
def Ly(g:G)(mg:Str->Option Value)(k:Nat):Value:=((g.xs[k]?).bind λx=>mg x.1).getD .none
theorem AO(X:K.In h)(Gs:h.Ns mainGlobals mg):∀{xs:List (Str×List (Str×Bool))}{k:Nat}{x:Str}{ts:List (Str×Bool)},MU K xs->xs[k]?=U (x,ts)->∃C,mg x=U (.ref C)/\HQ K mg C ts
 |[],k,x,ts,_,e=>by simp at e
 |y::xs,0,x,ts,hx,e=>by cases e;obtain⟨C,h1,h2,h3,h4⟩:=hx.1;exact#[C,mg_of X Gs h1,h2,h3,λt b q=>AS X Gs h4 q]
 |y::xs,k+1,x,ts,hx,e=>AO X Gs hx.2 (by simpa using e)
theorem law_mk{l:OpenLaw}{w:World}{fa:Addr}{rs:List Row}{cons:List (Str×Dt)}{bls:List Str}{fr:Nat->Bool}{xs:List (Str×List (Str×Bool))}{L n:Nat}{sL:Stmt}{ms:List Str}{dr kd:Option Str}(X:K.In h)(Gs:h.Ns mainGlobals mg)(RB:mg "law"=U (.ref fa))
  (hL:rs[L]?=U #["law",sL,["_law_script"],ms,dr,G',[],kd]) (hk:rs.all Row.ok=B') (hfs:pN #[rs.map Row.ent,cons,bls,fr,xs] 0 rs=U fs)
  (hb:∀(s:Shared)(v:Value)(kV doc pm fq ct:Value)(an:Option Addr),BindsTo s (fnOf "law" "law" (nG sL) (gV sL) (bu sL) .none kV doc pm an fq ct) #[[v],[]] [("_law_script",v)])
  (hn:∀ns:List Int,ns.length<=63->∃S,ai fs (n+1) L [.aW ns] y'= .ok (.bl B',S)) (B:MN K bls) (C:MC K cons) (F:LB K rs) (E:MU K xs):
  ∃fd:FuncData,(∀(s:Shared)(v:Value),BindsTo s fd #[[v],[]] [("_law_script",v)])/\∀base:Heap,K.In base->base.Ns mainGlobals mg->iQ l.prog w K mg base (oW l.prog w) (n+1) fa fd ["_law_script"] (vx K):=by
 have BY:XG #[rs.map Row.ent,cons,bls,fr,xs] K mg (Ly #[rs.map Row.ent,cons,bls,fr,xs] mg):=λk x ts e=>by obtain⟨C,h1,h2⟩:=AO X Gs E e;have e:xs[k]?=U (x,ts):=e;exact#[C,by simp[Ly,e,h1],h1,h2]
 have hm:MG #[rs.map Row.ent,cons,bls,fr,xs] mg:=#[λx d hx=>by
   obtain⟨u,k1,k2,k3⟩:=yg C hx;exact#[u,k2,mg_of X Gs k1,k3],λx hx=>mg_none_of X Gs (zy B hx)]
 have ok:=yE (g:=#[rs.map Row.ent,cons,bls,fr,xs]) X Gs hk hfs F;obtain⟨SM,oc,dV,kV,doc,pm,fq,ct,od,an,uW,a,lk,c,k,hd,b⟩:=yA F hL;cases hd rfl;have e:=RB.symm.trans (mg_of X Gs a);cases e;obtain⟨ts,c1,c2⟩:=EV hfs hL;have hok:=Row.scope (Uc.mp hk _ (Vk.mpr #[L,hL]));exact#[_,λs v=>hb s v kV doc pm fq ct an,λbase _ _=>rO hm BY ok lk c hok.1 hok.2.1 rfl c1 c2 hn]
end
end Rx
end
section
namespace K13
open PySem PySem.W PySem.Spec PyProof.Rows L2 Mx Rx
def top(i:Nat):Stmt:=PySem.Challenge.pw_mixform_k13_read_as_written.main.body.getD i (.Pass #[0,0,0,0])
abbrev rows:List Rx.Row:=[#["gathered",top 7,["pairs"],["whole"],y',G',[],y'],
 #["plus",top 8,["one","other"],[],y',G',[],y'],
 #["times",top 9,["number","form"],[],y',G',[],y'],
 #["read",top 16,["text"],[],y',G',[],y'],
 #["read_sum",top 17,["text","at","deep"],[],y',G',[],y'],
 #["read_part",top 18,["text","at","deep"],[],y',G',[],y'],
 #["read_number",top 19,["text","at"],[],y',G',[],y'],
 #["read_once",top 20,["text","at","deep"],[],y',G',[],y'],
 #["read_brackets",top 21,["text","at","deep","most"],["forms"],y',G',[],y'],
 #["word_end",top 22,["text","at","first","last"],[],y',G',[],y'],
 #["run_end",top 23,["text","at","first","last"],[],y',G',[],y'],
 #["_law_cell",top 25,["_law_script","_law_k"],[],y',G',[],y'],
 #["_law_pick",top 26,["_law_script","_law_k","_law_many"],[],y',G',[],y'],
 #["_law_names",top 27,["_law_script","_law_k","_law_letters"],["_law_names_here"],y',G',[],y'],
 #["_law_unknowns",top 28,["_law_script","_law_k"],[],y',G',[],y'],
 #["_law_signs",top 29,["_law_script","_law_k"],[],y',G',[],y'],
 #["_law_next",top 30,["_law_k","_law_j"],[],y',G',[],y'],
 #["_law_same",top 31,["_law_found","_law_due"],[],y',G',[],y'],
 #["_law_gathered",top 32,["_law_pairs"],["_law_found"],y',G',[],y'],
 #["_law_plus",top 33,["_law_one","_law_other"],[],y',G',[],y'],
 #["_law_times",top 34,["_law_number","_law_form"],[],y',G',[],y'],
 #["_law_count",top 35,["_law_script","_law_k"],[],y',G',[],y'],
 #["_law_thing",top 36,["_law_script","_law_k","_law_deep","_law_names_here","_law_signs_here"],[],y',G',[],y'],
 #["_law_part",top 37,["_law_script","_law_k","_law_deep","_law_names_here","_law_signs_here"],[],y',G',[],y'],
 #["_law_parts",top 38,["_law_script","_law_k","_law_deep","_law_names_here","_law_signs_here"],[],y',G',[],y'],
 #["_law_text",top 39,["_law_script","_law_k","_law_deep","_law_names_here","_law_signs_here"],[],y',G',[],y'],
 #["_law_joined",top 40,["_law_parts_here"],[],y',G',[],y'],
 #["_law_end",top 41,["_law_line","_law_at","_law_some"],[],y',G',[],y'],
 #["_law_own_thing",top 42,["_law_line","_law_at"],["_law_parts_here"],y',G',[],y'],
 #["_law_own_body",top 43,["_law_line","_law_at"],[],y',G',[],y'],
 #["_law_own_part",top 44,["_law_line","_law_at"],[],y',G',[],y'],
 #["_law_own_sum",top 45,["_law_line","_law_at"],[],y',G',[],y'],
 #["_law_own",top 46,["_law_line"],[],y',G',[],y'],
 #["_law_refused",top 47,["_law_line"],[],y',G',[],y'],
 #["_law_right",top 48,["_law_line"],[],y',G',[],y'],
 #["_law_spoiled",top 49,["_law_script","_law_k","_law_line"],[],y',G',[],y'],
 #["law",top 50,["_law_script"],[],y',G',[],y']]
abbrev cons:List (Str×Dt):=[("MOST_SIGNS",(.int 600)),("MOST_DEEP",(.int 20)),("MOST_FIGURES",(.int 18)),("MOST_LETTERS",(.int 6)),("MOST_PARTS",(.int 3))]
abbrev bls:List Str:=["bool","int","isinstance","len","list","max","min","range","sorted","str","tuple","zip"]
abbrev fr(i:Nat):Bool:=[G',G',G',G',G',G',G',G',G',G',G',G',B',B',B',B',B',G',G',G',G',G',B',G',B',B',B',G',B',B',B',G',G',G',G',B',G'].getD i G'
abbrev xs:List (Str×List (Str×Bool)):=[("NoText",[("MixError",B'),("NoRow",G'),("NoRule",G'),("NoText",B'),("TooMany",G'),("ValueError",B')])]
def Pq:Ts:=(.cons (.ret (.call 13 (.cons (.var 0) (.cons (.var 1) (.cons (.con (.str "abcdefghijklmnopqrstuvwxyz")) .nil))) [])) .nil)
def Pt:Ts:=(.cons (.ret (.call 13 (.cons (.var 0) (.cons (.var 1) (.cons (.con (.str "ABCDEFGHIJKLMNOPQRSTUVWXYZ")) .nil))) [])) .nil)
def MY:Ts:=(.cons (.ret (.bi .tuple (.cons (.comp [y',y',y',U 0] (.seq (.var 1)) (.tp [1,2]) (.cons (.cmp .Gt (.var 3) (.con (.int 0))) .nil) (.tup (.cons (.var 1) (.cons (.bin .Mult (.var 3) (.var 2)) .nil)))) .nil))) .nil)
def MZ:Ts:=(.cons (.asg 2 (.call 12 (.cons (.var 0) (.cons (.var 1) (.cons (.con (.int 7)) .nil))) [])) (.cons (.ifs (.cmp .Lt (.var 2) (.con (.int 3))) (.cons (.ret (.con (.int 0))) .nil) .nil) (.cons (.ifs (.cmp .Lt (.var 2) (.con (.int 5))) (.cons (.ret (.bin .Add (.con (.int 1)) (.call 12 (.cons (.var 0) (.cons (.bin .Add (.var 1) (.con (.int 1))) (.cons (.con (.int 12)) .nil))) []))) .nil) .nil) (.cons (.ret (.bin .Add (.con (.int 1)) (.bin .Mod (.call 11 (.cons (.var 0) (.cons (.var 1) .nil)) []) (.bin .Sub (.idx (.lst (.cons (.bin .Pow (.con (.int 10)) (.con (.int 18))) (.cons (.con (.int 1000)) .nil))) (.bin .Sub (.var 2) (.con (.int 5)))) (.con (.int 1)))))) .nil))))
def LR:Ts:=(.cons (.asg 5 (.idx (.var 4) (.call 12 (.cons (.var 0) (.cons (.bin .Add (.var 1) (.con (.int 3))) (.cons (.con (.int 3)) .nil))) []))) (.cons (.asg 6 (.call 12 (.cons (.var 0) (.cons (.bin .Add (.var 1) (.con (.int 4))) (.cons (.con (.int 4)) .nil))) [])) (.cons (.ifs (.cmp .Eq (.var 2) (.con (.int 0))) (.cons (.asg 6 (.con (.int 0))) .nil) .nil) (.cons (.asg 7 (.comp [y',y',U 2,U 1,U 3,U 0,U 4] (.rng1 (.var 6)) (.nm 1) .nil (.call 25 (.cons (.var 5) (.cons (.call 16 (.cons (.var 3) (.cons (.bin .Add (.con (.int 20)) (.var 1)) .nil)) []) (.cons (.bin .Sub (.var 2) (.con (.int 1))) (.cons (.var 4) (.cons (.var 6) .nil))))) []))) (.cons (.asg 8 (.var 5)) (.cons (.ifs (.cmp .Gt (.var 6) (.con (.int 0))) (.cons (.asg 8 (.bin .Add (.bin .Add (.bin .Add (.var 5) (.con (.str "("))) (.mt .join (.con (.str ", ")) (.cons (.comp [y',y'] (.seq (.var 7)) (.nm 1) .nil (.idx (.var 1) (.con (.int 0)))) .nil))) (.con (.str ")")))) .nil) .nil) (.cons (.ret (.lst (.cons (.var 8) (.cons (.tup (.cons (.tup (.cons (.tup (.cons (.con (.str "of")) (.cons (.var 5) (.cons (.bi .tuple (.cons (.comp [y',y'] (.seq (.var 7)) (.nm 1) .nil (.idx (.var 1) (.con (.int 1)))) .nil)) .nil)))) (.cons (.con (.int 1)) .nil))) .nil)) .nil)))) .nil)))))))
def M0:Ts:=(.cons (.asg 5 (.call 12 (.cons (.var 0) (.cons (.bin .Add (.var 1) (.con (.int 2))) (.cons (.con (.int 8)) .nil))) [])) (.cons (.ifs (.cmp .Eq (.var 5) (.con (.int 0))) (.cons (.ret (.lst (.cons (.con (.str "0")) (.cons (.tup .nil) .nil)))) .nil) .nil) (.cons (.ifs (.cmp .Lt (.var 5) (.con (.int 3))) (.cons (.asg 6 (.idx (.var 3) (.call 12 (.cons (.var 0) (.cons (.bin .Add (.var 1) (.con (.int 3))) (.cons (.con (.int 3)) .nil))) []))) (.cons (.asg 7 (.lst (.cons (.var 6) (.cons (.tup (.cons (.tup (.cons (.tup (.cons (.con (.str "any")) (.cons (.var 6) .nil))) (.cons (.con (.int 1)) .nil))) .nil)) .nil)))) .nil)) (.cons (.ifs (.or (.cmp .Lt (.var 5) (.con (.int 6))) (.cmp .Eq (.var 2) (.con (.int 0)))) (.cons (.asg 7 (.call 22 (.cons (.var 0) (.cons (.var 1) (.cons (.var 2) (.cons (.var 3) (.cons (.var 4) .nil))))) [])) .nil) (.cons (.asgT [8,9] (.call 25 (.cons (.var 0) (.cons (.call 16 (.cons (.var 1) (.cons (.con (.int 9)) .nil)) []) (.cons (.bin .Sub (.var 2) (.con (.int 1))) (.cons (.var 3) (.cons (.var 4) .nil))))) [])) (.cons (.asg 7 (.lst (.cons (.bin .Add (.bin .Add (.con (.str "(")) (.var 8)) (.con (.str ")"))) (.cons (.var 9) .nil)))) .nil))) .nil)) (.cons (.asg 10 (.call 21 (.cons (.var 0) (.cons (.bin .Add (.var 1) (.con (.int 5))) .nil)) [])) (.cons (.ifs (.cmp .Eq (.var 10) (.con (.int 0))) (.cons (.ret (.var 7)) .nil) .nil) (.cons (.ret (.lst (.cons (.bin .Add (.bi .str (.cons (.var 10) .nil)) (.idx (.var 7) (.con (.int 0)))) (.cons (.call 20 (.cons (.var 10) (.cons (.idx (.var 7) (.con (.int 1))) .nil)) []) .nil)))) .nil))))))
def M1:Ts:=(.cons (.asg 5 (.bin .Add (.con (.int 1)) (.call 12 (.cons (.var 0) (.cons (.var 1) (.cons (.idx (.lst (.cons (.con (.int 2)) (.cons (.con (.int 2)) (.cons (.con (.int 3)) (.cons (.con (.int 4)) .nil))))) (.var 2)) .nil))) []))) (.cons (.ret (.comp [y',y',U 2,U 1,U 3,U 0,U 4] (.rng1 (.var 5)) (.nm 1) .nil (.call 23 (.cons (.var 5) (.cons (.call 16 (.cons (.var 3) (.cons (.var 1) .nil)) []) (.cons (.var 2) (.cons (.var 4) (.cons (.var 6) .nil))))) []))) .nil))
def M3:Ts:=(.cons (.ret (.call 26 (.cons (.call 24 (.cons (.var 0) (.cons (.var 1) (.cons (.var 2) (.cons (.var 3) (.cons (.var 4) .nil))))) []) .nil) [])) .nil)
def Pu:Ts:=(.cons (.asg 1 (.tup .nil)) (.cons (.fr (.tp [2,3]) (.seq (.var 0)) (.cons (.asg 1 (.call 19 (.cons (.var 1) (.cons (.var 3) .nil)) [])) .nil)) (.cons (.ret (.lst (.cons (.mt .join (.con (.str " + ")) (.cons (.comp [y',y'] (.seq (.var 0)) (.nm 1) .nil (.idx (.var 1) (.con (.int 0)))) .nil)) (.cons (.var 1) .nil)))) .nil)))
def M4:Ts:=(.cons (.wh (.and (.cmp .Lt (.var 1) (.bi .len (.cons (.var 0) .nil))) (.cmp .In (.idx (.var 0) (.var 1)) (.var 2))) (.cons (.asg 1 (.bin .Add (.var 1) (.con (.int 1)))) .nil)) (.cons (.ret (.var 1)) .nil))
def M5:Ts:=(.cons (.asg 2 (.call 27 (.cons (.var 0) (.cons (.var 1) (.cons (.con (.str "ABCDEFGHIJKLMNOPQRSTUVWXYZ")) .nil))) [])) (.cons (.ifs (.or (.cmp .Eq (.var 2) (.var 1)) (.cmp .Gt (.bin .Sub (.var 2) (.var 1)) (.con (.int 6)))) (.cons (.ret (.con .aE)) .nil) .nil) (.cons (.asg 3 (.sliB (.var 0) (.var 1) (.var 2))) (.cons (.asgM 4 (.lst .nil)) (.cons (.ifs (.cmp .Eq (.sliB (.var 0) (.var 2) (.bin .Add (.var 2) (.con (.int 1)))) (.con (.str "("))) (.cons (.wh (.and (.cmp .Lt (.bi .len (.cons (.mvr 4) .nil)) (.con (.int 4))) (.or (.cmp .Eq (.bi .len (.cons (.mvr 4) .nil)) (.con (.int 0))) (.cmp .Eq (.sliB (.var 0) (.var 2) (.bin .Add (.var 2) (.con (.int 2)))) (.con (.str ", "))))) (.cons (.asg 5 (.call 31 (.cons (.var 0) (.cons (.bin .Add (.bin .Add (.var 2) (.con (.int 1))) (.bi .int (.cons (.cmp .Gt (.bi .len (.cons (.mvr 4) .nil)) (.con (.int 0))) .nil))) .nil)) [])) (.cons (.ifs (.cmp .Is (.var 5) (.con .aE)) (.cons (.ret (.con .aE)) .nil) .nil) (.cons (.app 4 (.idx (.var 5) (.con (.int 0)))) (.cons (.asg 2 (.idx (.var 5) (.con (.int 1)))) .nil))))) (.cons (.ifs (.or (.cmp .Gt (.bi .len (.cons (.mvr 4) .nil)) (.con (.int 3))) (.cmp .NotEq (.sliB (.var 0) (.var 2) (.bin .Add (.var 2) (.con (.int 1)))) (.con (.str ")")))) (.cons (.ret (.con .aE)) .nil) .nil) (.cons (.asg 2 (.bin .Add (.var 2) (.con (.int 1)))) .nil))) .nil) (.cons (.ret (.lst (.cons (.tup (.cons (.tup (.cons (.tup (.cons (.con (.str "of")) (.cons (.var 3) (.cons (.bi .tuple (.cons (.mvr 4) .nil)) .nil)))) (.cons (.con (.int 1)) .nil))) .nil)) (.cons (.var 2) .nil)))) .nil))))))
def M6:Ts:=(.cons (.ifs (.cmp .Eq (.sliB (.var 0) (.var 1) (.bin .Add (.var 1) (.con (.int 1)))) (.con (.str "("))) (.cons (.asg 2 (.call 31 (.cons (.var 0) (.cons (.bin .Add (.var 1) (.con (.int 1))) .nil)) [])) (.cons (.ifs (.or (.cmp .Is (.var 2) (.con .aE)) (.cmp .NotEq (.sliB (.var 0) (.idx (.var 2) (.con (.int 1))) (.bin .Add (.idx (.var 2) (.con (.int 1))) (.con (.int 1)))) (.con (.str ")")))) (.cons (.ret (.con .aE)) .nil) .nil) (.cons (.ret (.lst (.cons (.idx (.var 2) (.con (.int 0))) (.cons (.bin .Add (.idx (.var 2) (.con (.int 1))) (.con (.int 1))) .nil)))) .nil))) .nil) (.cons (.asg 3 (.call 27 (.cons (.var 0) (.cons (.var 1) (.cons (.con (.str "abcdefghijklmnopqrstuvwxyz")) .nil))) [])) (.cons (.ifs (.cmp .Eq (.var 3) (.var 1)) (.cons (.ret (.call 28 (.cons (.var 0) (.cons (.var 1) .nil)) [])) .nil) .nil) (.cons (.ifs (.cmp .Gt (.bin .Sub (.var 3) (.var 1)) (.con (.int 6))) (.cons (.ret (.con .aE)) .nil) .nil) (.cons (.ret (.lst (.cons (.tup (.cons (.tup (.cons (.tup (.cons (.con (.str "any")) (.cons (.sliB (.var 0) (.var 1) (.var 3)) .nil))) (.cons (.con (.int 1)) .nil))) .nil)) (.cons (.var 3) .nil)))) .nil)))))
def M7:Ts:=(.cons (.asg 2 (.call 27 (.cons (.var 0) (.cons (.var 1) (.cons (.con (.str "0123456789")) .nil))) [])) (.cons (.ifs (.cmp .Eq (.sliB (.var 0) (.var 1) (.var 2)) (.con (.str "0"))) (.cons (.ret (.lst (.cons (.tup .nil) (.cons (.var 2) .nil)))) .nil) .nil) (.cons (.ifs (.cmp .Eq (.var 2) (.var 1)) (.cons (.ret (.call 29 (.cons (.var 0) (.cons (.var 1) .nil)) [])) .nil) .nil) (.cons (.ifs (.or (.cmp .Eq (.idx (.var 0) (.var 1)) (.con (.str "0"))) (.cmp .Gt (.bin .Sub (.var 2) (.var 1)) (.con (.int 18)))) (.cons (.ret (.con .aE)) .nil) .nil) (.cons (.asg 3 (.call 29 (.cons (.var 0) (.cons (.var 2) .nil)) [])) (.cons (.ifs (.cmp .Is (.var 3) (.con .aE)) (.cons (.ret (.con .aE)) .nil) .nil) (.cons (.ret (.lst (.cons (.call 20 (.cons (.bi .int (.cons (.sliB (.var 0) (.var 1) (.var 2)) .nil)) (.cons (.idx (.var 3) (.con (.int 0))) .nil)) []) (.cons (.idx (.var 3) (.con (.int 1))) .nil)))) .nil)))))))
def M8:Ts:=(.cons (.asg 2 (.call 30 (.cons (.var 0) (.cons (.var 1) .nil)) [])) (.cons (.wh (.and (.cmp .IsNot (.var 2) (.con .aE)) (.cmp .Eq (.sliB (.var 0) (.idx (.var 2) (.con (.int 1))) (.bin .Add (.idx (.var 2) (.con (.int 1))) (.con (.int 3)))) (.con (.str " + ")))) (.cons (.asg 3 (.call 30 (.cons (.var 0) (.cons (.bin .Add (.idx (.var 2) (.con (.int 1))) (.con (.int 3))) .nil)) [])) (.cons (.ifs (.cmp .Is (.var 3) (.con .aE)) (.cons (.ret (.con .aE)) .nil) .nil) (.cons (.asg 2 (.lst (.cons (.call 19 (.cons (.idx (.var 2) (.con (.int 0))) (.cons (.idx (.var 3) (.con (.int 0))) .nil)) []) (.cons (.idx (.var 3) (.con (.int 1))) .nil)))) .nil)))) (.cons (.ret (.var 2)) .nil)))
def M9:Ts:=(.cons (.asg 1 (.con (.int 0))) (.cons (.fr (.nm 2) (.seq (.var 0)) (.cons (.asg 1 (.bin .Sub (.bin .Add (.var 1) (.bi .int (.cons (.cmp .Eq (.var 2) (.con (.str "("))) .nil))) (.bi .int (.cons (.cmp .Eq (.var 2) (.con (.str ")"))) .nil)))) (.cons (.ifs (.cmp .Gt (.var 1) (.con (.int 20))) (.cons (.ret (.con .aE)) .nil) .nil) .nil))) (.cons (.asg 3 (.call 31 (.cons (.var 0) (.cons (.con (.int 0)) .nil)) [])) (.cons (.ifs (.or (.cmp .Gt (.bi .len (.cons (.var 0) .nil)) (.con (.int 600))) (.or (.cmp .Is (.var 3) (.con .aE)) (.cmp .NotEq (.idx (.var 3) (.con (.int 1))) (.bi .len (.cons (.var 0) .nil))))) (.cons (.ret (.con .aE)) .nil) .nil) (.cons (.ret (.idx (.var 3) (.con (.int 0)))) .nil)))))
def Na:Ts:=(.cons (.tr (.cons (.HS (.call 3 (.cons (.var 0) .nil) [])) .nil) [U B']) (.cons (.ret (.con (.bl G'))) .nil))
def Nb:Ts:=(.cons (.asg 1 (.call 32 (.cons (.var 0) .nil) [])) (.cons (.ifs (.cmp .Is (.var 1) (.con .aE)) (.cons (.ret (.call 33 (.cons (.var 0) .nil) [])) .nil) .nil) (.cons (.ret (.call 17 (.cons (.call 3 (.cons (.var 0) .nil) []) (.cons (.var 1) .nil)) [])) .nil)))
def Nc:Ts:=(.cons (.asg 3 (.call 12 (.cons (.var 0) (.cons (.var 1) (.cons (.bi .len (.cons (.var 2) .nil)) .nil))) [])) (.cons (.asg 4 (.bin .Add (.con (.int 1)) (.call 12 (.cons (.var 0) (.cons (.bin .Add (.var 1) (.con (.int 1))) (.cons (.con (.int 9)) .nil))) []))) (.cons (.asg 5 (.con (.str "abzAZ0123456789()()+ ,, ++  xyXY1020.-_*[\n"))) (.cons (.asg 6 (.idx (.var 5) (.call 12 (.cons (.var 0) (.cons (.bin .Add (.var 1) (.con (.int 2))) (.cons (.bi .len (.cons (.var 5) .nil)) .nil))) []))) (.cons (.asg 7 (.call 12 (.cons (.var 0) (.cons (.bin .Add (.var 1) (.con (.int 3))) (.cons (.con (.int 7)) .nil))) [])) (.cons (.ifs (.cmp .Lt (.var 7) (.con (.int 2))) (.cons (.ret (.bin .Add (.bin .Add (.sliH (.var 2) (.var 3)) (.var 6)) (.sliL (.var 2) (.var 3)))) .nil) .nil) (.cons (.ifs (.cmp .Eq (.var 7) (.con (.int 2))) (.cons (.ret (.bin .Add (.bin .Add (.sliH (.var 2) (.var 3)) (.var 6)) (.sliL (.var 2) (.bin .Add (.var 3) (.con (.int 1)))))) .nil) .nil) (.cons (.ifs (.cmp .Eq (.var 7) (.con (.int 3))) (.cons (.ret (.bin .Add (.sliH (.var 2) (.var 3)) (.sliL (.var 2) (.bin .Add (.var 3) (.con (.int 1)))))) .nil) .nil) (.cons (.ifs (.cmp .Eq (.var 7) (.con (.int 4))) (.cons (.ret (.bin .Add (.bin .Add (.bin .Add (.sliH (.var 2) (.var 3)) (.sliB (.var 2) (.bin .Add (.var 3) (.con (.int 1))) (.bin .Add (.var 3) (.con (.int 2))))) (.idx (.var 2) (.var 3))) (.sliL (.var 2) (.bin .Add (.var 3) (.con (.int 2)))))) .nil) .nil) (.cons (.ifs (.cmp .Eq (.var 7) (.con (.int 5))) (.cons (.ret (.bin .Add (.sliH (.var 2) (.bin .Add (.var 3) (.var 4))) (.sliL (.var 2) (.var 3)))) .nil) .nil) (.cons (.ret (.bin .Add (.sliH (.var 2) (.var 3)) (.sliL (.var 2) (.bin .Add (.var 3) (.var 4))))) .nil)))))))))))
def Nd:Ts:=(.cons (.asgT [1,2] (.call 25 (.cons (.var 0) (.cons (.con (.int 7)) (.cons (.con (.int 3)) (.cons (.call 14 (.cons (.var 0) (.cons (.con (.int 0)) .nil)) []) (.cons (.call 15 (.cons (.var 0) (.cons (.con (.int 3)) .nil)) []) .nil))))) [])) (.cons (.ifs (.or (.cmp .Gt (.bi .len (.cons (.var 1) .nil)) (.con (.int 900))) (.nt (.call 34 (.cons (.var 1) .nil) []))) (.cons (.ret (.cmp .Gt (.bi .len (.cons (.var 1) .nil)) (.con (.int 900)))) .nil) .nil) (.cons (.fr (.nm 3) (.rng3 (.con (.int 5)) (.bi .max2 (.cons (.con (.int 25)) (.cons (.bi .min2 (.cons (.con (.int 60)) (.cons (.bi .len (.cons (.var 0) .nil)) .nil))) .nil))) (.con (.int 5))) (.cons (.ifs (.nt (.call 34 (.cons (.call 35 (.cons (.var 0) (.cons (.var 3) (.cons (.var 1) .nil))) []) .nil) [])) (.cons (.ret (.con (.bl G'))) .nil) .nil) .nil)) (.cons (.ret (.con (.bl B'))) .nil))))
def fs:List Fn:=[#[1,4,G',Iz (.mvr 1)],#[2,2,G',lU 0],#[2,2,G',nq],#[1,3,G',xR 4 0],#[3,5,G',Et 5 1],#[3,5,G',xP 6 7 2],#[2,3,G',Bn 10 0],#[3,6,G',tL 8 9 0],#[4,6,G',Nf 4 0],#[4,5,G',pA 10 0],#[4,5,G',j0],#[2,3,G',tJ],#[3,4,G',xQ 11],#[3,9,G',qU 12],#[2,2,G',Pq],#[2,2,G',Pt],#[2,2,G',xO],#[2,4,G',pz 17],#[1,4,G',Iz (.cmp .NotEq (.mvr 1) (.lst .nil))],#[2,2,G',lU 18],#[2,2,G',MY],#[2,3,G',MZ],#[5,9,G',LR],#[5,11,G',M0],#[5,6,G',M1],#[5,5,G',M3],#[1,4,G',Pu],#[3,3,G',M4],#[2,6,G',M5],#[2,4,G',M6],#[2,4,G',M7],#[2,4,G',M8],#[1,4,G',M9],#[1,3,G',Na],#[1,2,G',Nb],#[3,8,G',Nc],#[1,4,G',Nd]]
theorem hok:rows.all Rx.Row.ok=B':=by decide +kernel
theorem hfs:pN #[rows.map Rx.Row.ent,cons,bls,fr,xs] 0 rows=U fs:=by kernel_rfl
end K13
end
section
namespace Rx
open PySem PySem.Builtin.Str
abbrev ow(P:Nat->Bool)(k:Nat):Nat->Array Nat×Nat->Id (ForInStep (Array Nat×Nat)):=λi s=>
 if (decide (s.1.size<1)&&decide (s.2<=i)&&P i)=B' then ForInStep.yield (s.1.push i,i+k) else ForInStep.yield (s.1,s.2)
theorem p9{P:Nat->Bool}{k:Nat}:∀(is:List Nat)(a:Array Nat)(f:Nat),1<=a.size->(forIn (m:=Id) is (a,f) (ow P k)).1=a
 |[],a,f,_=>rfl
 |i::is,a,f,h=>by
  have e:ow P k i (a,f)=ForInStep.yield (a,f):=by unfold ow;rw[T1 (show¬(a,f).1.size<1 by show¬a.size<1;lia)];rfl
  rw[UZ,e];exact p9 is a f h
theorem uT{P:Nat->Bool}{k:Nat}:∀(is:List Nat),(forIn (m:=Id) is (#[],0) (ow P k)).1.toList.isEmpty= !is.any P
 |[]=>rfl
 |i::is=>by
  cases h:P i with
  |true=>
   have e:ow P k i (#[],0)=ForInStep.yield (#[i],i+k):=by unfold ow;rw[h];rfl
   rw[UZ,e,List.any_cons,h];exact VY (λz:Array Nat=>z.toList.isEmpty) (p9 (P:=P) (k:=k) is #[i] (i+k) (by simp))
  |false=>
   have e:ow P k i (#[],0)=ForInStep.yield (#[],0):=by unfold ow;rw[h,Ux];rfl
   rw[UZ,e,List.any_cons,h];exact uT is
theorem BQ(y:Str)(c:Nat):(!(occurrences y (tx [c]) 0 y.length 1).isEmpty)=y.cps.toList.contains c:=by
 unfold occurrences;simp only[Std.Legacy.Range.forIn_eq_forIn_range',Id.run,pure,bind];have e:=uT (P:=λi=>decide (i+(tx [c]).length<=y.length)&&subAt y (tx [c]) i) (k:=(tx [c]).length) (List.range' 0 [:y.length+1].size);unfold ow at e;simp only[<-Bool.and_assoc]at e;rw[e,Bool.not_not];have hs:[:y.length+1].size=y.length+1:=by simp[Std.Legacy.Range.size]
 rw[hs,Uz,Ud,List.contains_iff_mem];have sub:∀i,i+1<=y.length->(subAt y (tx [c]) i=B'↔y.cps.toList[i]?=U c):=λi hi=>by
  unfold subAt;rw[beq_iff_eq,<-Uv,Uu,bD,aO];have hl:i<y.cps.toList.length:=by simp[Str.length]at hi ⊢;lia
  rw[List.extract_eq_take_drop,UV hl,TZ hl];simp
 constructor
 ·rintro⟨i,_,hi⟩;rw[Ti,aO,VZ]at hi;exact Vl ((sub i hi.1).mp hi.2)
 ·intro h;obtain⟨i,hi⟩:=Vk.mp h;have hl:i+1<=y.length:=by
   have:=(To.mp hi).1;simp[Str.length]at this ⊢
   lia
  refine#[i,by simp;lia,?_];rw[Ti,aO,VZ];exact#[hl,(sub i hl).mpr hi]
theorem E0(y:Str)(c:Nat):BP y (tx [c])=y.cps.toList.contains c:=BQ y c
def wt(c:Nat):Int:=if c=40 then 1 else if c=41 then -1 else 0
def fE:List Nat->Int
 |[]=>0
 |c::l=>wt c+fE l
def iR:Int->List Nat->Prop
 |d,[]=>0<=d
 |d,c::l=>0<=d/\iR (d-wt c) l
theorem fG:∀a b:List Nat,fE (a++b)=fE a+fE b
 |[],b=>by simp[fE]
 |c::a,b=>by rw[UT,fE,fE,fG a b,Int.add_assoc]
theorem ou{d:Int}:∀{l:List Nat},iR d l->0<=d
 |[],h=>h
 |_::_,h=>h.1
theorem iu:∀{d:Int}{a b:List Nat},iR d (a++b)↔iR d a/\iR (d-fE a) b
 |d,[],b=>by
  constructor
  ·intro h;exact#[ou h,by simpa [fE]using h]
  ·intro h;simpa [fE]using h.2
 |d,c::a,b=>by rw[UT,iR,iR,iu,fE,show d-wt c-fE a=d-(wt c+fE a) by lia,and_assoc]
def jV(d:Nat)(l r:List Nat):Prop:=∃p,l=p++r/\fE p=0/\iR d p
theorem jV.refl(d:Nat)(l:List Nat):jV d l l:=#[[],rfl,rfl,Int.natCast_nonneg d]
theorem jV.trans{d:Nat}{l r s:List Nat}(h:jV d l r)(k:jV d r s):jV d l s:=by obtain⟨p,rfl,n1,u1⟩:=h;obtain⟨q,rfl,n2,u2⟩:=k;exact#[p++q,by rw[TH],by rw[fG,n1,n2];rfl,iu.mpr #[u1,by rw[n1,UK];exact u2]]
theorem jV.sT{d:Nat}{l r:List Nat}(h:jV d l r):r <:+ l:=by obtain⟨p,rfl,_⟩:=h;exact List.suffix_append _ _
theorem DP{p:List Nat}(h:∀c∈p,wt c=0)(d:Nat):fE p=0/\iR d p:=by
 induction p with
 |nil=>exact#[rfl,Int.natCast_nonneg d]
 |cons c p ih=>
  obtain⟨a,b⟩:=ih λc hc=>h c (Tp _ hc)
  have e:=h c Tt;exact#[by rw[fE,e,a];rfl,Int.natCast_nonneg d,by rw[e,UK];exact b]
theorem gX{lo hi:Nat}(h:41<lo)(d:Nat)(l:List Nat):jV d l (l.drop (run lo hi l).length):=by
 refine#[run lo hi l,?_,DP (λc hc=>?_) d]
 ·conv=>lhs;rw[<-Vu (run lo hi l).length l,eQ]
 ·have:=(iF hc).1;unfold wt;rw[V1 ⋯,V1 ⋯]
theorem dz{s l r:List Nat}(hs:∀c∈s,wt c=0)(h:lit s l=U r)(d:Nat):jV d l r:=#[s,(aB h).2.2,DP hs d]
theorem EJ{d:Nat}{l r s t:List Nat}(h1:lit [40] l=U r)(h:jV d r s)(h2:lit [41] s=U t):jV (d+1) l t:=by
 obtain⟨_,_,rfl⟩:=aB h1;obtain⟨_,_,rfl⟩:=aB h2;obtain⟨p,rfl,n1,u1⟩:=h;refine#[[40]++p++[41],by simp,?_,?_]
 ·rw[fG,fG,n1];rfl
 ·rw[iu,iu];refine#[#[#[⋯,by show (0:Int)<=_-1;lia],?_],?_]
  ·rw[show ((d+1:Nat):Int)-fE [40]=(d:Nat) by show ((d+1:Nat):Int)-1=_;lia];exact u1
  ·rw[fG,n1];exact#[by show (0:Int)<=((d+1:Nat):Int)-(1+0);lia,by show (0:Int)<=((d+1:Nat):Int)-(1+0) - -1;lia]
end Rx
end
section
namespace Rx
open PySem PySem.W PySem.Spec PyProof.Rows L2
theorem kY{d:Nat}{x y:TM}(hx:FN (d+1) x)(hy:FN (d+1) y)(hl:(val x).length+(val y).length<=600):FN (d+1) (.plus x y):=by
 obtain⟨rx,ex,_,h1⟩:=hx;obtain⟨ry,ey,_,h2⟩:=hy;cases ex;cases ey;have hr:∀m∈val x++val y,jo 1000 Pos (mW 1000 Pos d) m:=λm hm=>(TV.mp hm).elim (h1 m) (h2 m)
 refine#[_,rfl,?_,λr fP=>?_]
 ·have:=dY (val x++val y);rw[TK]at this;exact Tz this (Tz hl (by decide))
 ·refine(md (S:=jo 1000 Pos (mW 1000 Pos d)) (λit c d#[i,k,e,h1,h2]hc hd=>#[it,c+d,rfl,by show 0<c+d;lia,?_]) (λm hm=>#[hr m hm,?_]) r fP).1
  ·have:=VY hZ e;rw[b8,b8]at this;rw[this];exact h2
  ·obtain⟨it,c,e,hc,_⟩:=hr m hm;exact#[it,c,e,hc]
theorem qx{d m:Nat}{x:TM}(hx:FN (d+1) x)(hm:0<m):FN (d+1) (.times m x):=by obtain⟨rx,ex,hl,h1⟩:=hx;cases ex;refine#[_,rfl,by rw[show val (Tm.times m x)=mulR m (.tup (val x)) from rfl];unfold mulR;rw[Tw];exact hl,λr hr=>?_];obtain⟨q,hq,rfl⟩:=Ub.mp hr;obtain⟨it,c,rfl,hc,hi⟩:=h1 q hq;have hc:0<c:=hc;exact#[it,m*c,rfl,by show 0<(m:Int)*c;exact Int.mul_pos ⋯ hc,hi]
def Gd(d dep:Nat)(l:List Nat)(x:TM×List Nat):Prop:=jV d l x.2/\FN dep x.1/\4*(val x.1).length+x.2.length<=l.length+3
def ME(d dep m:Nat)(l:List Nat)(x:List TM×List Nat):Prop:=jV d l x.2/\(∀a∈x.1,FN dep a/\4*(val a).length+x.2.length<=l.length+3)/\x.1≠[]/\x.1.length<=m/\x.2.length<l.length
section
variable{d dep:Nat}{br:Nat->List Nat->Option (List TM×List Nat)}(hb:∀(m:Nat)(l r:List Nat)(x:List TM×List Nat),1<=m->m<=3->lit [40] l=U r->l.length<=1000->br m r=U x->ME d dep m l x)
theorem uV(w:List Nat)(l:List TM):(val (xu w l)).length=1:=by rcases l with _|⟨a,_|⟨b,_|⟨c,l⟩⟩⟩<;>rfl
include hb
theorem se{l:List Nat}(hl:l.length<=1000){x:TM×List Nat}(h:iA aK br l=U x):Gd d (dep+1) l x/\x.2.length<l.length:=by
 unfold iA at h;have BV:aK.op l=lit [40] l:=rfl;have jt:aK.low l=eB 97 122 l:=rfl;have JI:aK.Mu l=eB 65 90 l:=rfl;rw[BV,jt,JI]at h;have word:∀{lo hi:Nat}{q:List Nat×List Nat},41<lo->eB lo hi l=U (U q)->q.2=l.drop q.1.length/\q.1=run lo hi l/\1<=q.1.length/\jV d l q.2:=by
  intro lo hi q h41 hw;unfold eB at hw;split at hw
  ·cases hw
  ·by_cases e:run lo hi l=[]
   ·rw[V2 e]at hw;cases hw
   ·rw[V1 e]at hw;cases hw;exact#[rfl,rfl,List.length_pos_iff.mpr e,gX h41 d l]
 cases h0:lit [40] l with
 |some r=>
  rw[h0]at h;obtain⟨y,h1,rfl⟩:=TJ.mp h;obtain⟨e1,e2,e3,_,hs⟩:=hb 1 l r y ⋯ ⋯ h0 hl h1;obtain⟨y1,y2⟩:=y;cases y1 with
  |nil=>exact absurd rfl e3
  |cons a t=>obtain⟨f1,f2⟩:=e2 a Tt;exact#[#[e1,f1.mono (Tr _) (λ_ h=>h) ⋯,f2],hs]
 |none=>
  rw[h0]at h;obtain⟨o,h1,h⟩:=Te.mp h;cases o with
  |some q=>
   cases h;obtain⟨g1,g2,g3,g4⟩:=word (by decide) h1;have hle:=dD 97 122 l;rw[<-g2]at hle;refine#[#[g4,?_,?_],?_]
   ·exact nQ rfl (.inl #[_,rfl])
   ·show 4*1+q.2.length<=_;rw[g1,U7]
    lia
   ·show q.2.length<_;rw[g1,U7]
    lia
  |none=>
   obtain⟨o,h2,h⟩:=Te.mp h;obtain⟨q,rfl,h⟩:=Te.mp h;have h:pThing aK br q.1 q.2=U x:=h;obtain⟨g1,g2,g3,g4⟩:=word (by decide) h2;have hle:=dD 65 90 l;rw[<-g2]at hle;unfold pThing at h;have kB:aK.op q.2=lit [40] q.2:=rfl;rw[kB]at h;cases h3:lit [40] q.2 with
   |none=>
    rw[h3]at h;cases h;refine#[#[g4,pM (l:=[]) (by simp) (λa ha=>by cases ha),?_],?_]
    ·show 4*1+q.2.length<=_;rw[g1,U7]
     lia
    ·show q.2.length<_;rw[g1,U7]
     lia
   |some r=>
    rw[h3]at h;obtain⟨y,h4,rfl⟩:=TJ.mp h;have hq:q.2.length<=1000:=by rw[g1,U7];lia
    obtain⟨e1,e2,e3,e4,_⟩:=hb 3 q.2 r y ⋯ ⋯ h3 hq h4;have hs:=e1.sT.length_le;refine#[#[g4.trans e1,pM e4 λa ha=>(e2 a ha).1,?_],?_]
    ·show 4*(val (xu q.1 y.1)).length+y.2.length<=_;rw[uV];rw[g1,U7]at hs
     lia
    ·show y.2.length<_;rw[g1,U7]at hs
     lia
theorem oA{l:List Nat}(hl:l.length<=1000){x:TM×List Nat}(h:cn aK br l=U x):Gd d (dep+1) l x/\x.2.length<l.length:=by
 unfold cn at h;have hi:aK.Mk l=lit [48] l:=rfl;have hn:aK.num l=jx l:=rfl;rw[hi,hn]at h;cases h0:lit [48] l with
 |some r=>rw[h0]at h;cases h;obtain⟨_,dq,e⟩:=aB h0;have b7:=VY List.length e;rw[TK]at b7;have b7:l.length=1+r.length:=b7;exact#[#[dz (by decide) h0 d,nP dep,by show 4*0+r.length<=_;lia],by show r.length<_;lia]
 |none=>
  rw[h0]at h;obtain⟨p,h1,h⟩:=Te.mp h;obtain⟨q,h2,rfl⟩:=TJ.mp h;obtain⟨pin,sT⟩:=ot h0 h1;have hp:=sT.length_le;obtain⟨⟨g1,g2,g3⟩,g4⟩:=se hb ⋯ h2;have BD:jV d l p.2:=by
   unfold jx at h1;split at h1
   ·cases h1;exact jV.refl d l
   ·split at h1
    ·cases h1
    ·cases h1;exact gX (by decide) d l
  refine#[#[BD.trans g1,qx g2 (by have:=pin.1;lia),?_],by show q.2.length<_;lia];show 4*(mulR p.1 (.tup (val q.1))).length+_<=_;unfold mulR;rw[Tw];show 4*(val q.1).length+q.2.length<=_
  lia
theorem zt:∀(k:Nat)(f:TM)(l:List Nat)(n:Nat)(x:TM×List Nat),n<=1000->l.length<=n->FN (dep+1) f->4*(val f).length+l.length<=n+3->dh aK (cn aK br) k f l=U x->jV d l x.2/\FN (dep+1) x.1/\4*(val x.1).length+x.2.length<=n+3
 |0,_,_,_,_,_,_,_,_,h=>by cases h
 |k+1,f,l,n,x,hn,hl,hf,hv,h=>by
  unfold dh at h;have hp:aK.pl l=lit [32,43,32] l:=rfl;rw[hp]at h;cases h0:lit [32,43,32] l with
  |none=>rw[h0]at h;cases h;exact#[jV.refl d l,hf,hv]
  |some r=>rw[h0]at h;obtain⟨p,h1,h⟩:=Te.mp h;obtain⟨_,_,e⟩:=aB h0;have b7:=VY List.length e;rw[TK]at b7;have b7:l.length=3+r.length:=b7;obtain⟨⟨g1,g2,g3⟩,g4⟩:=oA hb ⋯ h1;have hg:=dY (val f++val p.1);rw[TK]at hg;have hg:(val (Tm.plus f p.1)).length<=(val f).length+(val p.1).length:=hg;obtain⟨k1,k2,k3⟩:=zt k (.plus f p.1) p.2 n x hn ⋯ (kY hf g2 ⋯) ⋯ h;exact#[((dz (by decide) h0 d).trans g1).trans k1,k2,k3]
theorem Av{l:List Nat}(hl:l.length<=1000){x:TM×List Nat}(h:jk aK br l=U x):Gd d (dep+1) l x/\x.2.length<l.length:=by obtain⟨p,h1,h⟩:=Te.mp h;obtain⟨⟨g1,g2,g3⟩,g4⟩:=oA hb hl h1;obtain⟨k1,k2,k3⟩:=zt hb 1000 p.1 p.2 l.length x hl ⋯ g2 g3 h;have:=k1.sT.length_le;exact#[#[g1.trans k1,k2,k3],⋯]
end
def Ej(d dep:Nat)(s:List Nat->Option (TM×List Nat)):Prop:=∀(l:List Nat)(x:TM×List Nat),l.length<=1000->s l=U x->Gd d dep l x/\x.2.length<l.length
theorem Dv{d dep:Nat}{s:List Nat->Option (TM×List Nat)}(hs:Ej d dep s):∀(k:Nat)(fs:List TM)(l:List Nat)(n:Nat)(x:List TM×List Nat),n<=1000->l.length<=n->(∀a∈fs,FN dep a/\4*(val a).length+l.length<=n+3)->d8 aK s k fs l=U x->
  jV d l x.2/\(∀a∈x.1,FN dep a/\4*(val a).length+x.2.length<=n+3)/\x.1.length<=fs.length+k/\(fs≠[]->x.1≠[])
 |0,fs,l,n,x,_,_,hf,h=>by cases h;exact#[jV.refl d l,hf,Tr _,id]
 |k+1,fs,l,n,x,hn,hl,hf,h=>by
  unfold d8 at h;have hp:aK.cm l=lit [44,32] l:=rfl;rw[hp]at h;cases h0:lit [44,32] l with
  |none=>rw[h0]at h;cases h;exact#[jV.refl d l,hf,by show fs.length<=_;lia,id]
  |some r=>
   rw[h0]at h;obtain⟨p,h1,h⟩:=Te.mp h;obtain⟨_,_,e⟩:=aB h0;have b7:=VY List.length e;rw[TK]at b7;have b7:l.length=2+r.length:=b7;obtain⟨⟨g1,g2,g3⟩,g4⟩:=hs r p ⋯ h1;obtain⟨k1,k2,k3,k4⟩:=Dv hs k (fs++[p.1]) p.2 n x hn ⋯ (λa ha=>by
    rcases TV.mp ha with ha|ha
    ·obtain⟨a1,a2⟩:=hf a ha;exact#[a1,⋯]
    ·cases Ua.mp ha;exact#[g2,⋯]) h
   rw[TK]at k3;exact#[((dz (by decide) h0 d).trans g1).trans k1,k2,by simp at k3;lia,λ_=>k4 (by simp)]
theorem IG{d dep:Nat}{s:List Nat->Option (TM×List Nat)}(hs:Ej d dep s)(m:Nat)(l r:List Nat)(x:List TM×List Nat)(h1:1<=m)(h3:m<=3)(h0:lit [40] l=U r)(hl:l.length<=1000)(h:zE aK s m r=U x):ME (d+1) dep m l x:=by obtain⟨p,hp,h⟩:=Te.mp h;obtain⟨q,hq,h⟩:=Te.mp h;obtain⟨t,ht,rfl⟩:=TJ.mp h;have ht:lit [41] q.2=U t:=ht;obtain⟨_,_,e⟩:=aB h0;have b7:=VY List.length e;rw[TK]at b7;have b7:l.length=1+r.length:=b7;obtain⟨_,_,e2⟩:=aB ht;have vZ:=VY List.length e2;rw[TK]at vZ;have vZ:q.2.length=1+t.length:=vZ;obtain⟨⟨g1,g2,g3⟩,g4⟩:=hs r p ⋯ hp;obtain⟨k1,k2,k3,k4⟩:=Dv hs (m-1) [p.1] p.2 r.length q ⋯ ⋯ (λa ha=>by cases Ua.mp ha;exact#[g2,g3]) hq;have:=k1.sT.length_le;exact#[EJ h0 (g1.trans k1) ht,λa ha=>#[(k2 a ha).1,by have:=(k2 a ha).2;show _+t.length<=_;lia],k4 (by simp),by simp at k3;show q.1.length<=_;lia,by show t.length<_;lia]
theorem jn:∀d:Nat,Ej d (d+1) (bC aK d)
 |0=>λl x hl h=>Av (br:=II aK y') (λm l r x _ _ _ _ h=>by cases h) hl h
 |d+1=>λl x hl h=>Av (br:=II aK (U (bC aK d))) (λm l r x h1 h3 h0 hl h=>IG (jn d) m l r x h1 h3 h0 hl h) hl h
end Rx
end
section
namespace K13
open PySem PySem.W PySem.Spec PyProof.Rows L2 Rx
def AX(lo hi:Nat)(Y:Str):Prop:=∀c,Y.cps.toList.contains c=(decide (lo<=c)&&decide (c<=hi))
theorem qY{lo n:Nat}{Y:Str}(h:Y.cps.toList=List.range' lo (n+1)):AX lo (lo+n) Y:=λc=>by
 rw[h,Uz,List.contains_iff_mem,List.mem_range'_1,Ti,VZ,VZ]
 lia
theorem Ni:AX 48 57 "0123456789":=qY (n:=9) rfl
theorem Nl:AX 97 122 "abcdefghijklmnopqrstuvwxyz":=qY (n:=25) rfl
theorem Nk:AX 65 90 "ABCDEFGHIJKLMNOPQRSTUVWXYZ":=qY (n:=25) rfl
section
variable{z:List Nat}(hz:z.length<=1000)
include hz
theorem zm:dw .len [.str (tx z)]= .ok (.int z.length):=by have hlen:=len_str (z:=tx z) (by rw[aO];exact Tz hz (by decide));rwa [aO]at hlen
theorem pG{F:FT}{lo hi:Nat}{Y:Str}(hY:AX lo hi Y):∀(n:Nat)(l:List Nat),l <:+ z->l.length<n->
  cQ (aQ F (.and (.cmp .Lt (.var 1) (.bi .len (.cons (.var 0) .nil))) (.cmp .In (.idx (.var 0) (.var 1)) (.var 2)))) (az F (.cons (.asg 1 (.bin .Add (.var 1) (.con (.int 1)))) .nil)) n
   [U (.str (tx z)),U (.int (ps z l:Nat)),U (.str Y)] y'=
  .ok (.next,[U (.str (tx z)),U (.int ((ps z l+(run lo hi l).length:Nat))),U (.str Y)],y')
 |0,_,_,h=>by lia
 |n+1,l,hl,hn=>by
  have hp:=zW hl;have hlen:=zm hz;rw[cQ];cases l with
  |nil=>have t:decide ((ps z []:Int)<(z.length:Int))=G':=T1 (by simp at hp;lia);simp only[RX,hlen,t];rfl
  |cons c l=>
   have t:decide ((ps z (c::l):Int)<(z.length:Int))=B':=T5 (by simp at hp;lia);have A7:=zf hz (bX hl);have uk:l <:+ z:=(List.suffix_cons c l).trans hl;have pX:ps z l=ps z (c::l)+1:=by have:=bc hl (k:=1) (by simp);exact this
   simp only[RX,hlen,t,V3,A7,E0,hY c];cases hb:(decide (lo<=c)&&decide (c<=hi)) with
   |false=>
    have:Rx.run lo hi (c::l)=[]:=by unfold Rx.run;rw[List.takeWhile_cons,hb];rfl
    rw[this];rfl
   |true=>
    have er:Rx.run lo hi (c::l)=c::Rx.run lo hi l:=by unfold Rx.run;rw[List.takeWhile_cons,hb];rfl
    have body:az F (.cons (.asg 1 (.bin .Add (.var 1) (.con (.int 1)))) .nil) [U (.str (tx z)),U (.int (ps z (c::l):Nat)),U (.str Y)] y'= .ok (.next,[U (.str (tx z)),U (.int (ps z l:Nat)),U (.str Y)],y'):=by refine cW (d:=.int (ps z l:Nat)) ?_ rfl rfl;simp only[RX];rw[show (ps z (c::l):Int)+1=(ps z l:Nat) by lia]
    rw[V2 rfl,body];simp only[R.ah];have:=pG (F:=F) hY n l uk (by simp at hn;lia);rw[this,er,pX];rw[TN,show ps z (c::l)+1+(run lo hi l).length=ps z (c::l)+((run lo hi l).length+1) by lia]
theorem rj{lo hi:Nat}{Y:Str}(hY:AX lo hi Y){N:Nat}(hN:1<=N){l:List Nat}(hl:l <:+ z):
  ai fs N 27 [.str (tx z),.int (ps z l:Nat),.str Y] y'= .ok (.int ((ps z l+(run lo hi l).length:Nat)),y'):=by
 refine ax (body:=M4) rfl hN rfl ?_;show fin (az (ai fs (N-1)) M4 [U (.str (tx z)),U (.int (ps z l:Nat)),U (.str Y)] y')=_;refine aN (by rw[cX];exact pG hz hY c7 l hl (by have:=hl.length_le;unfold c7;lia)) (ae rfl)
end
theorem p6{N d:Nat}(hN:2<=N)(hd:d<=20){x y:TM}(hx:FN (d+1) x)(hy:FN (d+1) y)(hl:(val x).length+(val y).length<=600):ai fs N 19 [fD x,fD y] y'= .ok (fD (.plus x y),y'):=by
 obtain⟨rx,ex,_,h1⟩:=hx;obtain⟨ry,ey,_,h2⟩:=hy;cases ex;cases ey;have hr:∀m∈val x++val y,jo 1000 Pos (mW 1000 Pos d) m:=λm hm=>(TV.mp hm).elim (h1 m) (h2 m)
 have hg:=yH (fs:=fs) (ig:=18) (t:=O6) rfl (N:=N-1) ⋯ (n:=d) hd (ms:=val x++val y) (d:=.tup (aq (val x++val y))) (.inr rfl) (by rw[TK];lia) hr Pc;refine ax (body:=lU 18) rfl ⋯ rfl ?_;show fin (az (ai fs (N-1)) (lU 18) [U (fD x),U (fD y)] y')=_;have ha:oz .Add (fD x) (fD y)= .ok (.tup (aq (val x++val y))):=by show af (decide ((aq (val x)).length+(aq (val y)).length<=lim)) _=_;rw[ba,ba,T5 (Tz hl (by decide)),guard_true,bH]
 exact ae (by simp only[RX,ha,hg];rfl)
theorem mw{N k:Nat}(hN:1<=N){m:Nat}(hc:HM m){x:TM}(h:FN k x):ai fs N 20 [.int m,fD x] y'= .ok (fD (.times m x),y'):=by
 obtain⟨k,rfl⟩:∃j,k=j+1:=by cases k with|zero=>exact h.elim|succ m=>exact#[m,rfl]
 obtain⟨rs,e,hl,hr⟩:=h;cases e;refine ax (body:=MY) rfl hN rfl ?_;show fin (az (ai fs (N-1)) MY [U (.int m),U (.tup (aq (val x)))] y')=_;have turn:bU (cC (.tp [1,2]) (dS (ai fs (N-1)) (.cons (.cmp .Gt (.var 3) (.con (.int 0))) .nil)) (f7 (ai fs (N-1)) (.tup (.cons (.var 1) (.cons (.bin .Mult (.var 3) (.var 2)) .nil)))) [y',y',y',U (.int m)]) (aq (val x)) y'= .ok (aq (mulR m (.tup (val x))),y'):=by
  have e:aq (mulR m (.tup (val x)))=(val x).map λr=>ofD (row (hZ r) (m*tU r)):=by unfold mulR;rw[cg,Vg];rfl
  rw[e];refine ka λr h=>?_
  obtain⟨it,d,rfl,_,_⟩:=hr r h;have m1:=bp (i:=m) (j:=d) (.inl (by have:=hc.1;have:=hc.2;lia));have c1:decide ((0:Int)<m)=B':=T5 hc.1;exact turn_if (b:=B') (y:=ofD (row (hZ (row it d)) (m*tU (row it d)))) (ρ1:=[y',U (ofD it),U (.int d),U (.int m)]) (by rw[vt];rfl) (by simp only[RX,c1]) λ_=>#[by simp only[RX,m1,b8,nE,uU],rfl]
 have kz:=gY (F:=ai fs (N-1)) (cap:=[y',y',y',U 0]) (it:=.seq (.var 1)) (tg:=.tp [1,2]) (cs:=.cons (.cmp .Gt (.var 3) (.con (.int 0))) .nil) (e:=.tup (.cons (.var 1) (.cons (.bin .Mult (.var 3) (.var 2)) .nil))) (ρ:=[U (.int m),U (.tup (aq (val x)))]) (S:=y') (ds:=aq (val x)) rfl (by rw[ba];exact Tz hl (by decide)) rfl turn;refine ae ?_;rw[yy,kz];rfl
theorem wV{k:Nat}{x:TM}(h:FN k x):fD (.times 1 x)=fD x:=by
 obtain⟨k,rfl⟩:∃j,k=j+1:=by cases k with|zero=>exact h.elim|succ m=>exact#[m,rfl]
 obtain⟨rs,e,hl,hr⟩:=h;cases e;have:val (.times 1 x)=val x:=by
  show mulR ((1:Nat):Int) (.tup (val x))=_;unfold mulR;show (val x).map _=val x
  conv=>rhs;rw[<-List.map_id (val x)]
  refine Vf λr h=>?_
  obtain⟨it,c,rfl,_⟩:=hr r h;rw[b8,nE];show row it (1*c)=row it c;rw[Int.one_mul]
 show Dt.tup (aq (val (.times 1 x)))=_;rw[this]
section
variable{z:List Nat}(hz:z.length<=950)
theorem tZ{F:FT}{ρ:aj}{S:Sx}{l s:List Nat}{k:Int}{c:C}(hz:z.length<=950)(hl:l <:+ z)(hk:k=s.length)(h0:bJ ρ 0= .ok (.str (tx z)))(h1:ev F c ρ S= .ok (.int (ps z l:Nat),S)):
  ev F (.sliB (.var 0) c (.bin .Add c (.con (.int k)))) ρ S= .ok (.str (tx (l.take s.length)),S):=by
 have:=dF (F:=F) (ρ:=ρ) (S:=S) (a:=.var 0) (l:=c) (h:=.bin .Add c (.con (.int k))) (z:=z) (i:=ps z l) (j:=ps z l+s.length) (Tz hz (by decide)) ⋯ (VY (R.bind · _) h0) h1 (by simp only[RX,h1];rw[hk];rfl);rw[this,bX hl,Nat.add_sub_cancel_left]
def oN(z:List Nat)(x:TM×List Nat):Dt:=.lst [fD x.1,.int (ps z x.2:Nat)]
def dg(l:List Nat):Prop:=Rx.run 48 57 l≠[]
def Ow(z:List Nat)(r:Dt):Option (TM×List Nat)->Prop
 |none=>r= .aE
 |some x=>r=oN z x\/(r= .aE/\dg x.2)
def OS(z:List Nat)(d N:Nat):Prop:=∀l,l <:+ z->iR d l->∃r,ai fs N 31 [.str (tx z),.int (ps z l:Nat)] y'= .ok (r,y')/\Ow z r (bC aK d l)
def HB(z:List Nat)(d N:Nat)(br:Nat->List Nat->Option (List TM×List Nat)):Prop:=∀l r0,l <:+ z->lit [40] l=U r0->iR d l->∃d',d=d'+1/\br=zE aK (bC aK d')/\OS z d' N
theorem c8{d:Nat}{l r:List Nat}(h:jV d l r)(u:iR d l):iR d r:=by obtain⟨p,rfl,n1,_⟩:=h;have:=(iu.mp u).2;rwa [n1,UK]at this
theorem zD{d:Nat}{l r:List Nat}(h:lit [40] l=U r)(u:iR ((d+1:Nat):Int) l):iR d r:=by obtain⟨_,_,rfl⟩:=aB h;have:=u.2;rwa [show ((d+1:Nat):Int)-wt 40=(d:Nat) by show ((d+1:Nat):Int)-1=_;lia]at this
theorem iT{l s:List Nat}{c:Nat}(h:dg l)(hc:¬(48<=c/\c<=57)):lit (c::s) l=y':=by
 cases e:lit (c::s) l with
 |none=>rfl
 |some r=>
  obtain⟨_,_,rfl⟩:=aB e;refine absurd ?_ h;unfold Rx.run;rw[UT,List.takeWhile_cons];have:(decide (48<=c)&&decide (c<=57))=G':=by rw[Bool.eq_false_iff];intro q;simp at q;exact hc q
  rw[this];rfl
end
def tT:C:=.and (.cmp .Lt (.bi .len (.cons (.mvr 4) .nil)) (.con (.int 4))) (.or (.cmp .Eq (.bi .len (.cons (.mvr 4) .nil)) (.con (.int 0))) (.cmp .Eq (.sliB (.var 0) (.var 2) (.bin .Add (.var 2) (.con (.int 2)))) (.con (.str ", "))))
def tB:Ts:=.cons (.asg 5 (.call 31 (.cons (.var 0) (.cons (.bin .Add (.bin .Add (.var 2) (.con (.int 1))) (.bi .int (.cons (.cmp .Gt (.bi .len (.cons (.mvr 4) .nil)) (.con (.int 0))) .nil))) .nil)) [])) (.cons (.ifs (.cmp .Is (.var 5) (.con .aE)) (.cons (.ret (.con .aE)) .nil) .nil) (.cons (.app 4 (.idx (.var 5) (.con (.int 0)))) (.cons (.asg 2 (.idx (.var 5) (.con (.int 1)))) .nil)))
section
variable{z:List Nat}(hz:z.length<=950){F:FT}{d:Nat}{a:Int}{sg:List Nat}
abbrev tE(z:List Nat)(a:Int)(sg:List Nat)(fsl:List TM)(l:List Nat)(x5:Option Dt):aj:=[U (.str (tx z)),U (.int a),U (.int (ps z l:Nat)),U (.str (tx sg)),U (.lst (fsl.map fD)),x5]
theorem rK(b:Bool):dw .int [.bl b]= .ok (.int (if b then 1 else 0)):=by cases b<;>rfl
include hz
theorem mM{fsl:List TM}{l:List Nat}{x5:Option Dt}(hl:l <:+ z):aQ F tT (tE z a sg fsl l x5) y'= .ok (decide (fsl.length<4)&&(decide (fsl.length=0)||(lit [44,32] l).isSome),y'):=by
 have e2:(", ":Str)=tx [44,32]:=rfl;have t1:=t7 (F:=F) (S:=y') (ρ:=tE z a sg fsl l x5) (i:=2) (k:=2) (s:=[44,32]) ⋯ hl rfl rfl rfl;unfold tT;by_cases c:fsl.length<4
 ·have c1:decide ((fsl.length:Int)<4)=B':=T5 ⋯;by_cases c0:fsl.length=0
  ·have c2:((fsl.length:Int)==0)=B':=by rw[c0];rfl
   simp only[RX,Tw,c1,c2,V3];rw[T5 c,T5 c0];rfl
  ·have c2:((fsl.length:Int)==0)=G':=VW.mpr ⋯;simp only[RX,Tw,c1,c2,V3];rw[T5 c,T1 c0];rw[V1 (by simp),t1,e2];simp only[RX,eT,i8];rfl
 ·have c1:decide ((fsl.length:Int)<4)=G':=T1 ⋯;simp only[RX,Tw,c1];rw[T1 c];rfl
theorem Ax{N:Nat}(hS:OS z d N){fsl:List TM}{l r:List Nat}{x5:Option Dt}(hl:l <:+ z)(hn:fsl.length<=1000)(er:ps z r=ps z l+1+(if 0<fsl.length then 1 else 0))(hr:r <:+ z)(u:iR d r):
  ∃y,Ow z y (bC aK d r)/\ai fs N 31 [.str (tx z),.int (ps z r:Nat)] y'= .ok (y,y')/\
   (y= .aE->∃ρ,az (ai fs N) tB (tE z a sg fsl l x5) y'= .ok (.ret .aE,ρ,y'))/\
   (∀x:TM×List Nat,y=oN z x->az (ai fs N) tB (tE z a sg fsl l x5) y'= .ok (.next,tE z a sg (fsl++[x.1]) x.2 (U y),y')):=by
 obtain⟨y,h1,h2⟩:=hS r hr u;refine#[y,h2,h1,?_,?_]
 ·intro e;subst e;have hc:ev (ai fs N) (.call 31 (.cons (.var 0) (.cons (.bin .Add (.bin .Add (.var 2) (.con (.int 1))) (.bi .int (.cons (.cmp .Gt (.bi .len (.cons (.mvr 4) .nil)) (.con (.int 0))) .nil))) .nil)) []) (tE z a sg fsl l x5) y'= .ok (.aE,y'):=by
   simp only[RX,rK,Tw];rw[show (ps z l:Int)+1+(if decide ((0:Int)<fsl.length)=B' then 1 else 0)=(ps z r:Nat) by
    rw[er];by_cases c:0<fsl.length
    ·rw[V2 (by simpa using c),V2 c];lia
    ·rw[V1 (by simpa using c),V1 c];lia]
   rw[h1];rfl
  exact#[_,cW (d:=.aE) hc rfl (Cj rfl (rZ rfl))]
 ·intro x e;subst e;have hc:ev (ai fs N) (.call 31 (.cons (.var 0) (.cons (.bin .Add (.bin .Add (.var 2) (.con (.int 1))) (.bi .int (.cons (.cmp .Gt (.bi .len (.cons (.mvr 4) .nil)) (.con (.int 0))) .nil))) .nil)) []) (tE z a sg fsl l x5) y'= .ok (oN z x,y'):=by
   simp only[RX,rK,Tw];rw[show (ps z l:Int)+1+(if decide ((0:Int)<fsl.length)=B' then 1 else 0)=(ps z r:Nat) by
    rw[er];by_cases c:0<fsl.length
    ·rw[V2 (by simpa using c),V2 c];lia
    ·rw[V1 (by simpa using c),V1 c];lia]
   rw[h1];rfl
  have RZ:=kR (F:=ai fs N) (S:=y') (ρ:=(tE z a sg fsl l x5).set 5 (U (oN z x))) (i:=4) (c:=.idx (.var 5) (.con (.int 0))) (ds:=fsl.map fD) (d:=fD x.1) (ts:=.cons (.asg 2 (.idx (.var 5) (.con (.int 1)))) .nil) (r:=.ok (.next,tE z a sg (fsl++[x.1]) x.2 (U (oN z x)),y')) rfl rfl rfl (by rw[Tw];exact Tz hn (by decide))
   (cW (d:=.int (ps z x.2:Nat)) rfl rfl (by unfold tE;rw[Um];rfl))
  exact cW (d:=oN z x) hc rfl (rY rfl RZ)
theorem gE{l:List Nat}(hl:l <:+ z):l.length<=1000:=Tz hl.length_le (Tz hz (by decide))
theorem FI{N:Nat}(hS:OS z d N):∀(k n:Nat)(fsl:List TM)(l:List Nat)(x5:Option Dt),1<=fsl.length->fsl.length+k=3->k+2<=n->l <:+ z->iR d l->
  (∃ρ,cQ (aQ (ai fs N) tT) (az (ai fs N) tB) n (tE z a sg fsl l x5) y'= .ok (.ret .aE,ρ,y')/\∀q,d8 aK (bC aK d) k fsl l=U q->lit [41] q.2=y')\/
  ∃xj l' Ln,cQ (aQ (ai fs N) tT) (az (ai fs N) tB) n (tE z a sg fsl l x5) y'= .ok (.next,tE z a sg xj l' Ln,y')/\l' <:+ z/\
   ((3<xj.length/\∀q,d8 aK (bC aK d) k fsl l=U q->lit [41] q.2=y')\/(xj.length<=3/\d8 aK (bC aK d) k fsl l=U (xj,l'))):=by
 intro k
 induction k with
 |zero=>
  intro n fsl l x5 h1 hj hn hl u;obtain⟨n,rfl⟩:∃m,n=m+2:=#[n-2,⋯];cases h0:lit [44,32] l with
  |none=>refine .inr #[fsl,l,x5,?_,hl,.inr #[⋯,rfl]];rw[cQ,mM hz hl,h0,T1 (show¬fsl.length=0 by lia)];simp
  |some r=>
   obtain⟨_,_,el⟩:=aB h0;have Qv:∀q,d8 aK (bC aK d) 0 fsl l=U q->lit [41] q.2=y':=λq hq=>by cases hq;rw[el];rfl
   have hr:r <:+ z:=(dz (by decide) h0 d).sT.trans hl;have er:ps z r=ps z l+1+(if 0<fsl.length then 1 else 0):=by rw[V2 ⋯];obtain⟨e1,e2,_⟩:=aB h0;rw[e1];exact bc hl e2
   have tt:=mM hz (F:=ai fs N) (a:=a) (sg:=sg) (fsl:=fsl) (x5:=x5) hl;rw[h0,T5 (show fsl.length<4 by lia),Option.isSome_some,UE,Uy]at tt;obtain⟨y,y1,y2,y3,y4⟩:=Ax hz (a:=a) (sg:=sg) (x5:=x5) hS hl ⋯ er hr (c8 (dz (by decide) h0 d) u);by_cases ey:y= .aE
   ·obtain⟨ρ,y3⟩:=y3 ey;refine .inl #[ρ,?_,Qv];rw[cQ,tt];simp only[R.ah,V3,y3]
   ·cases hp:bC aK d r with
    |none=>rw[hp]at y1;exact absurd y1 ey
    |some x=>
     rw[hp]at y1;rcases y1 with e|⟨e,_⟩
     ·have hx:=((jn d r x (gE hz hr) hp).1.1.sT).trans hr;refine .inr #[fsl++[x.1],x.2,U y,?_,hx,.inl #[by simp;lia,Qv]];rw[cQ,tt];simp only[R.ah,V3,y4 x e];rw[cQ,mM hz hx,T1 (by simp;lia)];simp
     ·exact absurd e ey
 |succ k ih=>
  intro n fsl l x5 h1 hj hn hl u;obtain⟨n,rfl⟩:∃m,n=m+1:=#[n-1,⋯];have hc:aK.cm l=lit [44,32] l:=rfl;unfold d8;rw[hc];cases h0:lit [44,32] l with
  |none=>refine .inr #[fsl,l,x5,?_,hl,.inr #[⋯,rfl]];rw[cQ,mM hz hl,h0,T1 (show¬fsl.length=0 by lia)];simp
  |some r=>
   have hr:r <:+ z:=(dz (by decide) h0 d).sT.trans hl;have er:ps z r=ps z l+1+(if 0<fsl.length then 1 else 0):=by rw[V2 ⋯];obtain⟨e1,e2,_⟩:=aB h0;rw[e1];exact bc hl e2
   have tt:=mM hz (F:=ai fs N) (a:=a) (sg:=sg) (fsl:=fsl) (x5:=x5) hl;rw[h0,T5 (show fsl.length<4 by lia),Option.isSome_some,UE,Uy]at tt;have ur:=c8 (dz (by decide) h0 d) u;obtain⟨y,y1,y2,y3,y4⟩:=Ax hz (a:=a) (sg:=sg) (x5:=x5) hS hl ⋯ er hr ur;simp only;cases hp:bC aK d r with
   |none=>rw[hp]at y1;obtain⟨ρ,y3⟩:=y3 y1;refine .inl #[ρ,?_,λq hq=>by cases hq];rw[cQ,tt];simp only[R.ah,V3,y3]
   |some x=>
    rw[hp]at y1;simp only[Option.bind_some];obtain⟨⟨g1,_⟩,_⟩:=jn d r x (gE hz hr) hp;rcases y1 with e|⟨e,PC⟩
    ·have:=ih n (fsl++[x.1]) x.2 (U y) (by simp) (by simp;lia) ⋯ (g1.sT.trans hr) (c8 g1 ur);have st:cQ (aQ (ai fs N) tT) (az (ai fs N) tB) (n+1) (tE z a sg fsl l x5) y'=cQ (aQ (ai fs N) tT) (az (ai fs N) tB) n (tE z a sg (fsl++[x.1]) x.2 (U y)) y':=by rw[cQ,tt];simp only[R.ah,V3,y4 x e]
     rw[st];exact this
    ·obtain⟨ρ,y3⟩:=y3 e;refine .inl #[ρ,?_,λq hq=>?_]
     ·rw[cQ,tt];simp only[R.ah,V3,y3]
     ·have Fh:q.2=x.2:=by
       cases k with
       |zero=>cases hq;rfl
       |succ k=>unfold d8 at hq;have lO:aK.cm x.2=lit [44,32] x.2:=rfl;rw[lO,iT PC (by decide)]at hq;cases hq;rfl
      rw[Fh];exact iT PC (by decide)
end
section
variable{z:List Nat}(hz:z.length<=950){d:Nat}
theorem tO{d' m:Nat}{r:List Nat}(h:bC aK d' r=y'):zE aK (bC aK d') m r=y':=by unfold zE;rw[h];rfl
theorem nr{d' m:Nat}{r:List Nat}{x:TM×List Nat}(h:bC aK d' r=U x):zE aK (bC aK d') m r=(d8 aK (bC aK d') (m-1) [x.1] x.2).bind λq=>(lit [41] q.2).map λr=>(q.1,r):=by unfold zE;rw[h];rfl
theorem Dr{d' m:Nat}{r:List Nat}{x:TM×List Nat}(h:bC aK d' r=U x)(g:dg x.2):zE aK (bC aK d') m r=y':=by
 rw[nr h];have:∀k,d8 aK (bC aK d') k [x.1] x.2=U ([x.1],x.2):=λk=>by
  cases k with
  |zero=>rfl
  |succ k=>unfold d8;have lO:aK.cm x.2=lit [44,32] x.2:=rfl;rw[lO,iT g (by decide)]
 rw[this,Option.bind_some,iT g (by decide)];rfl
theorem mT(lo hi:Nat)(l:List Nat):eB lo hi l=if 6<(Rx.run lo hi l).length then y' else U (if Rx.run lo hi l=[] then y' else U (Rx.run lo hi l,l.drop (Rx.run lo hi l).length)):=rfl
include hz
theorem AF{N:Nat}(hN:2<=N){br:Nat->List Nat->Option (List TM×List Nat)}(hb:HB z d (N-1) br){l:List Nat}(hl:l <:+ z)(u:iR d l):
  ∃r,ai fs N 28 [.str (tx z),.int (ps z l:Nat)] y'= .ok (r,y')/\Ow z r ((eB 65 90 l).bind λo=>o.bind λq=>pThing aK br q.1 q.2):=by
 have dC:z.length<=1000:=⋯
 have start:∀{rr:R (Dt×Sx)},fin (az (ai fs (N-1)) M5 [U (.str (tx z)),U (.int (ps z l:Nat)),y',y',y',y'] y')=rr->ai fs N 28 [.str (tx z),.int (ps z l:Nat)] y'=rr:=λh=>ax (body:=M5) rfl ⋯ rfl h
 have he:=rj dC Nk (N:=N-1) ⋯ hl;generalize hw:Rx.run 65 90 l=w at he;have we:=dD 65 90 l;rw[hw]at we;have e1:("(":Str)=tx [40]:=rfl;have e2:(")":Str)=tx [41]:=rfl;have go:=λ {rr:R (Dt×Sx)} (h:fin (az (ai fs (N-1)) _ [U (.str (tx z)),U (.int (ps z l:Nat)),U (.int ((ps z l+w.length:Nat))),y',y',y'] y')=rr)=>start (ao (d:=.int ((ps z l+w.length:Nat))) (VY (R.bind · _) he) rfl h)
 rw[mT,hw];by_cases c0:w=[]
 ·subst c0;refine#[.aE,go (aA ?_ (ae rfl)),?_]
  ·simp only[RX];rw[beq_iff_eq.mpr (by simp)];rfl
  ·rw[V1 (by simp),V2 rfl];exact rfl
 have hpos:0<w.length:=List.length_pos_iff.mpr c0;by_cases c6:6<w.length
 ·refine#[.aE,go (aA ?_ (ae rfl)),?_]
  ·simp only[RX];rw[VW.mpr ⋯,T5 ⋯];rfl
  ·rw[V2 c6];exact rfl
 rw[V1 c6,V1 c0];simp only[Option.bind_some];have dq:l.drop w.length <:+ z:=(List.drop_suffix _ _).trans hl;have u1:iR d (l.drop w.length):=by have:=c8 (gX (lo:=65) (hi:=90) (by decide) d l) u;rwa [hw]at this
 have Ic:ps z (l.drop w.length)=ps z l+w.length:=bc hl we;have wc:l.take w.length=w:=by rw[<-hw];exact eQ 65 90 l
 have mh:=dF (F:=ai fs (N-1)) (S:=y') (ρ:=[U (.str (tx z)),U (.int (ps z l:Nat)),U (.int ((ps z l+w.length:Nat))),y',y',y']) (a:=.var 0) (l:=.var 1) (h:=.var 2) (i:=ps z l) (j:=ps z l+w.length) dC ⋯ rfl rfl rfl;rw[bX hl,Nat.add_sub_cancel_left,wc]at mh;generalize hl1e:l.drop w.length=l1 at dq u1 Ic ⊢;rw[<-Ic]at mh go;have go2:=λ {rr:R (Dt×Sx)} (h:fin (az (ai fs (N-1)) _ (tE z (ps z l:Nat) w [] l1 y') y')=rr)=>go (au (by
  simp only[RX];rw[VW.mpr ⋯,T1 ⋯];rfl) (ao (d:=.str (tx w)) mh rfl (gZ (d:=.lst []) rfl rfl h)))
 have t1:=gw (F:=ai fs (N-1)) (S:=y') (ρ:=tE z (ps z l:Nat) w [] l1 y') (i:=2) (k:=1) (s:=[40]) dC dq rfl rfl rfl;rw[<-e1]at t1;unfold pThing;have BV:aK.op l1=lit [40] l1:=rfl;rw[BV];cases h0:lit [40] l1 with
 |none=>rw[h0]at t1;refine#[oN z (.th0 w,l1),go2 (au t1 (ae ?_)),.inl rfl];unfold oN;rw[show fD (Tm.th0 w)=_ from Ce (w:=w) (l:=[]) (by simp)];rfl
 |some r0=>
  rw[h0]at t1;obtain⟨d',rfl,rfl,hS⟩:=hb l1 r0 dq h0 u1;have ur:=zD h0 u1;obtain⟨q1,q2,_⟩:=aB h0;have hr:r0 <:+ z:=by rw[q1];exact(List.drop_suffix _ _).trans dq
  have er:ps z r0=ps z l1+1+(if 0<([]:List TM).length then 1 else 0):=by rw[q1];exact bc dq q2
  have tt:=mM hz (F:=ai fs (N-1)) (a:=(ps z l:Nat)) (sg:=w) (fsl:=[]) (x5:=y') dq;obtain⟨y,y1,y2,y3,y4⟩:=Ax hz (a:=(ps z l:Nat)) (sg:=w) (x5:=y') hS dq (by simp) er hr ur;obtain⟨m,hm⟩:∃m,c7=m+1:=#[99999,rfl];have RN:4<=m:=by have:c7=100000:=rfl;lia
  have aE:∀{ρ},cQ (aQ (ai fs (N-1)) tT) (az (ai fs (N-1)) tB) c7 (tE z (ps z l:Nat) w [] l1 y') y'= .ok (.ret .aE,ρ,y')->ai fs N 28 [.str (tx z),.int (ps z l:Nat)] y'= .ok (.aE,y'):=λh=>go2 (aA t1 (g6 (by rw[cX];exact h)))
  by_cases ey:y= .aE
  ·obtain⟨ρ,y3⟩:=y3 ey;refine#[.aE,aE (ρ:=ρ) (by
    rw[hm,cQ,tt];simp only[U8,R.ah,y3];rfl),?_]
   cases hp:bC aK d' r0 with
   |none=>simp only[tO hp];exact rfl
   |some x=>
    rw[hp]at y1;rcases y1 with e|⟨_,g⟩
    ·rw[ey]at e;cases e
    ·simp only[Dr hp g];exact rfl
  ·cases hp:bC aK d' r0 with
   |none=>rw[hp]at y1;exact absurd y1 ey
   |some x=>
    rw[hp]at y1;rcases y1 with e|⟨e,_⟩
    ·obtain⟨⟨g1,_⟩,_⟩:=jn d' r0 x (gE hz hr) hp;have st:cQ (aQ (ai fs (N-1)) tT) (az (ai fs (N-1)) tB) c7 (tE z (ps z l:Nat) w [] l1 y') y'=cQ (aQ (ai fs (N-1)) tT) (az (ai fs (N-1)) tB) m (tE z (ps z l:Nat) w [x.1] x.2 (U y)) y':=by rw[hm,cQ,tt];simp only[U8,R.ah,y4 x e];rfl
     simp only[nr hp];rcases FI hz (a:=(ps z l:Nat)) (sg:=w) hS 2 m [x.1] x.2 (U y) (by simp) rfl RN (g1.sT.trans hr) (c8 g1 ur)with ⟨ρ,hw,hc⟩|⟨xj,l',Ln,hw,uk,hc⟩
     ·refine#[.aE,aE (ρ:=ρ) (by rw[st];exact hw),?_];cases hq:d8 aK (bC aK d') (3-1) [x.1] x.2 with
      |none=>exact rfl
      |some q=>simp only[Option.bind_some,hc q hq];exact rfl
     ·have uf:=λ {rr:R (Dt×Sx)} (h:fin (az (ai fs (N-1)) _ (tE z (ps z l:Nat) w xj l' Ln) y')=rr)=>go2 (aA t1 (aN (by rw[cX];exact st.trans hw) h))
      have t2:=t7 (F:=ai fs (N-1)) (S:=y') (ρ:=tE z (ps z l:Nat) w xj l' Ln) (i:=2) (k:=1) (s:=[41]) dC uk rfl rfl rfl;rcases hc with ⟨h4,hc⟩|⟨h3,hc⟩
      ·refine#[.aE,uf (aA ?_ (ae rfl)),?_]
       ·simp only[RX,Tw];rw[T5 ⋯];rfl
       ·cases hq:d8 aK (bC aK d') (3-1) [x.1] x.2 with
        |none=>exact rfl
        |some q=>simp only[Option.bind_some,hc q hq];exact rfl
      ·have hc:d8 aK (bC aK d') (3-1) [x.1] x.2=U (xj,l'):=hc;simp only[hc,Option.bind_some];have t3:aQ (ai fs (N-1)) (.or (.cmp .Gt (.bi .len (.cons (.mvr 4) .nil)) (.con (.int 3))) (.cmp .NotEq (.sliB (.var 0) (.var 2) (.bin .Add (.var 2) (.con (.int 1)))) (.con (.str ")")))) (tE z (ps z l:Nat) w xj l' Ln) y'= .ok (!(lit [41] l').isSome,y'):=by simp only[RX,Tw,t2,e2,eT,i8];rw[T1 ⋯];rfl
       cases h5:lit [41] l' with
       |none=>rw[h5]at t3;exact#[.aE,uf (aA t3 (ae rfl)),rfl]
       |some t=>
        rw[h5]at t3;obtain⟨k1,k2,_⟩:=aB h5;have kp:ps z t=ps z l'+1:=by rw[k1];exact bc uk k2
        refine#[oN z (xu w xj,t),uf (au t3 (ao (d:=.int (ps z t:Nat)) (by simp only[RX];rw[kp];rfl) rfl (ae ?_))),.inl rfl];unfold oN;rw[Ce h3];rfl
    ·exact absurd e ey
end
section
variable{z:List Nat}(hz:z.length<=950){d:Nat}
include hz
theorem Bu{N:Nat}(hN:3<=N){br:Nat->List Nat->Option (List TM×List Nat)}(hb:∀M,N-2<=M->HB z d M br){l:List Nat}(hl:l <:+ z)(u:iR d l):
  ∃r,ai fs N 29 [.str (tx z),.int (ps z l:Nat)] y'= .ok (r,y')/\Ow z r (iA aK br l):=by
 have dC:z.length<=1000:=⋯
 have start:∀{rr:R (Dt×Sx)},fin (az (ai fs (N-1)) M6 [U (.str (tx z)),U (.int (ps z l:Nat)),y',y'] y')=rr->ai fs N 29 [.str (tx z),.int (ps z l:Nat)] y'=rr:=λh=>ax (body:=M6) rfl ⋯ rfl h
 have e1:("(":Str)=tx [40]:=rfl;have e2:(")":Str)=tx [41]:=rfl;have t1:=gw (F:=ai fs (N-1)) (S:=y') (ρ:=[U (.str (tx z)),U (.int (ps z l:Nat)),y',y']) (i:=1) (k:=1) (s:=[40]) dC hl rfl rfl rfl;rw[<-e1]at t1;unfold iA;have BV:aK.op l=lit [40] l:=rfl;have jt:aK.low l=eB 97 122 l:=rfl;have JI:aK.Mu l=eB 65 90 l:=rfl;rw[BV,jt,JI];cases h0:lit [40] l with
 |some r0=>
  rw[h0]at t1;obtain⟨d',rfl,rfl,hS⟩:=hb (N-1) ⋯ l r0 hl h0 u;have ur:=zD h0 u;obtain⟨q1,q2,_⟩:=aB h0;have hr:r0 <:+ z:=by rw[q1];exact(List.drop_suffix _ _).trans hl
  have er:ps z r0=ps z l+1:=by rw[q1];exact bc hl q2
  obtain⟨y,y1,y2⟩:=hS r0 hr ur;have go:=λ {rr:R (Dt×Sx)} (h:fin (az (ai fs (N-1)) _ [U (.str (tx z)),U (.int (ps z l:Nat)),U y,y'] y')=rr)=>start (aA t1 (ao (d:=y) (by simp only[RX];rw[show (ps z l:Int)+1=(ps z r0:Nat) by lia,y1];rfl) rfl h))
  simp only;have ex:∀x,bC aK d' r0=U x->zE aK (bC aK d') 1 r0=(lit [41] x.2).map λr=>([x.1],r):=λx h=>by rw[nr h];rfl
  by_cases ey:y= .aE
  ·subst ey;refine#[.aE,go (aA rfl (ae rfl)),?_];cases hp:bC aK d' r0 with
   |none=>rw[tO hp];exact rfl
   |some x=>
    rw[hp]at y2;rcases y2 with e|⟨_,g⟩
    ·cases e
    ·rw[Dr hp g];exact rfl
  ·cases hp:bC aK d' r0 with
   |none=>rw[hp]at y2;exact absurd y2 ey
   |some x=>
    rw[hp]at y2;rcases y2 with e|⟨e,_⟩
    ·subst e;obtain⟨⟨g1,_⟩,_⟩:=jn d' r0 x (gE hz hr) hp;have hx:=g1.sT.trans hr;have t2:=tZ (F:=ai fs (N-1)) (S:=y') (ρ:=[U (.str (tx z)),U (.int (ps z l:Nat)),U (oN z x),y']) (c:=.idx (.var 2) (.con (.int 1))) (k:=1) (s:=[41]) hz hx rfl rfl rfl;have t3:aQ (ai fs (N-1)) (.or (.cmp .Is (.var 2) (.con .aE)) (.cmp .NotEq (.sliB (.var 0) (.idx (.var 2) (.con (.int 1))) (.bin .Add (.idx (.var 2) (.con (.int 1))) (.con (.int 1)))) (.con (.str ")")))) [U (.str (tx z)),U (.int (ps z l:Nat)),U (oN z x),y'] y'= .ok (!(lit [41] x.2).isSome,y'):=by rw[iD,show aQ (ai fs (N-1)) (.cmp .Is (.var 2) (.con .aE)) [U (.str (tx z)),U (.int (ps z l:Nat)),U (oN z x),y'] y'= .ok (G',y') from rfl];simp only[RX,t2,e2,eT,i8];rfl
     rw[ex x hp];cases h5:lit [41] x.2 with
     |none=>rw[h5]at t3;exact#[.aE,go (aA t3 (ae rfl)),rfl]
     |some t=>
      rw[h5]at t3;obtain⟨k1,k2,_⟩:=aB h5;have kp:ps z t=ps z x.2+1:=by rw[k1];exact bc hx k2
      refine#[oN z (x.1,t),go (au t3 (ae ?_)),.inl rfl];show R.ok _=R.ok _;unfold oN;rw[kp];rfl
    ·exact absurd e ey
 |none=>
  rw[h0]at t1;have he:=rj dC Nl (N:=N-1) ⋯ hl;have we:=dD 97 122 l;have wc:=eQ 97 122 l;have BD:=gX (lo:=97) (hi:=122) (by decide) d l;rw[mT];generalize Rx.run 97 122 l=w at he we wc BD;have go:=λ {rr:R (Dt×Sx)} (h:fin (az (ai fs (N-1)) _ [U (.str (tx z)),U (.int (ps z l:Nat)),y',U (.int ((ps z l+w.length:Nat)))] y')=rr)=>start (au t1 (ao (d:=.int ((ps z l+w.length:Nat))) (VY (R.bind · _) he) rfl h))
  by_cases c0:w=[]
  ·subst c0;obtain⟨y,y1,y2⟩:=AF hz (N:=N-1) ⋯ (hb (N-1-1) ⋯) hl u;refine#[y,go (aA ?_ (ae ?_)),?_]
   ·simp only[RX];rw[beq_iff_eq.mpr (by simp)]
   ·simp only[RX];rw[y1];rfl
   ·rw[V1 (by simp),V2 rfl];exact y2
  have hpos:0<w.length:=List.length_pos_iff.mpr c0;by_cases c6:6<w.length
  ·refine#[.aE,go (au ?_ (aA ?_ (ae rfl))),?_]
   ·simp only[RX];rw[VW.mpr ⋯]
   ·simp only[RX];rw[T5 ⋯]
   ·rw[V2 c6];exact rfl
  ·rw[V1 c6,V1 c0];have mh:=dF (F:=ai fs (N-1)) (S:=y') (ρ:=[U (.str (tx z)),U (.int (ps z l:Nat)),y',U (.int ((ps z l+w.length:Nat)))]) (a:=.var 0) (l:=.var 1) (h:=.var 3) (i:=ps z l) (j:=ps z l+w.length) dC ⋯ rfl rfl rfl;rw[bX hl,Nat.add_sub_cancel_left,wc]at mh;refine#[oN z (.any w,l.drop w.length),go (au ?_ (au ?_ (ae ?_))),.inl rfl]
   ·simp only[RX];rw[VW.mpr ⋯]
   ·simp only[RX];rw[T1 ⋯]
   ·unfold oN;rw[qQ,bc hl we];simp only[RX,mh]
end
theorem Gn{z:List Nat}{d dep:Nat}{l:List Nat}{y:Dt}{o:Option (TM×List Nat)}(hG:∀x,o=U x->FN dep x.1)(h:Ow z y o):Ow z y (o.map λq=>(.times 1 q.1,q.2)):=by
 cases o with
 |none=>exact h
 |some x=>
  rcases h with e|e
  ·refine .inl (e.trans ?_);show oN z x=oN z (.times 1 x.1,x.2);unfold oN;rw[wV (hG x rfl)]
  ·exact .inr e
section
variable{z:List Nat}(hz:z.length<=950){d:Nat}
include hz
def Lz(d:Nat)(br:Nat->List Nat->Option (List TM×List Nat)):Prop:=∀(m:Nat)(l r:List Nat)(x:List TM×List Nat),1<=m->m<=3->lit [40] l=U r->l.length<=1000->br m r=U x->ME d d m l x
omit hz in
theorem tN:∀d:Nat,Lz d (II aK (match d with|0=>y'|e+1=>U (bC aK e)))
 |0=>λ_ _ _ _ _ _ _ _ h=>by cases h
 |d+1=>IG (jn d)
theorem jM{N:Nat}(hN:4<=N){br:Nat->List Nat->Option (List TM×List Nat)}(hG:Lz d br)(hb:∀M,N-3<=M->HB z d M br){l:List Nat}(hl:l <:+ z)(u:iR d l):
  ∃r,ai fs N 30 [.str (tx z),.int (ps z l:Nat)] y'= .ok (r,y')/\Ow z r (cn aK br l):=by
 have dC:z.length<=1000:=⋯
 have NZ:=gE hz hl;have start:∀{rr:R (Dt×Sx)},fin (az (ai fs (N-1)) M7 [U (.str (tx z)),U (.int (ps z l:Nat)),y',y'] y')=rr->ai fs N 30 [.str (tx z),.int (ps z l:Nat)] y'=rr:=λh=>ax (body:=M7) rfl ⋯ rfl h
 have e0:("0":Str)=tx [48]:=rfl;have he:=rj dC Ni (N:=N-1) ⋯ hl;have we:=dD 48 57 l;have wc:=eQ 48 57 l;have BD:=gX (lo:=48) (hi:=57) (by decide) d l;have JC:∀c∈Rx.run 48 57 l,48<=c/\c<=57:=λc hc=>iF hc
 unfold cn;have hi:aK.Mk l=lit [48] l:=rfl;have hn:aK.num l=jx l:=rfl;rw[hi,hn];have pW:jx l=if Rx.run 48 57 l=[] then U (1,l) else if 18<(Rx.run 48 57 l).length then y' else U (PySem.NumText.digitsVal (Rx.run 48 57 l),l.drop (Rx.run 48 57 l).length):=rfl
 generalize hw:Rx.run 48 57 l=w at he we wc BD JC pW;have go:=λ {rr:R (Dt×Sx)} (h:fin (az (ai fs (N-1)) _ [U (.str (tx z)),U (.int (ps z l:Nat)),U (.int ((ps z l+w.length:Nat))),y'] y')=rr)=>start (ao (d:=.int ((ps z l+w.length:Nat))) (VY (R.bind · _) he) rfl h)
 have mh:=dF (F:=ai fs (N-1)) (S:=y') (ρ:=[U (.str (tx z)),U (.int (ps z l:Nat)),U (.int ((ps z l+w.length:Nat))),y']) (a:=.var 0) (l:=.var 1) (h:=.var 2) (i:=ps z l) (j:=ps z l+w.length) dC ⋯ rfl rfl rfl;rw[bX hl,Nat.add_sub_cancel_left,wc]at mh;have Ic:ps z (l.drop w.length)=ps z l+w.length:=bc hl we;have tz:aQ (ai fs (N-1)) (.cmp .Eq (.sliB (.var 0) (.var 1) (.var 2)) (.con (.str "0"))) [U (.str (tx z)),U (.int (ps z l:Nat)),U (.int ((ps z l+w.length:Nat))),y'] y'= .ok (w==[48],y'):=by simp only[RX,mh,e0,eT]
 have body:=λ {m:List Nat} (hm:m <:+ z) (um:iR d m)=>Bu hz (N:=N-1) ⋯ (br:=br) (λM hM=>hb M ⋯) hm um
 by_cases w0:w=[48]
 ·
  rw[beq_iff_eq.mpr w0]at tz;have el:l=48::l.drop w.length:=by
   conv=>lhs;rw[<-Vu w.length l,wc]
   rw[w0];rfl
  have h0:lit [48] l=U (l.drop w.length):=by rw[el,w0];rfl
  rw[h0];refine#[oN z (.nil,l.drop w.length),go (aA tz (ae ?_)),.inl rfl];unfold oN;rw[Ic];rfl
 rw[VW.mpr w0]at tz;by_cases c0:w=[]
 ·
  subst c0;have h0:lit [48] l=y':=by
   cases e:lit [48] l with
   |none=>rfl
   |some r=>obtain⟨_,_,rfl⟩:=aB e;unfold Rx.run at hw;rw[UT,List.takeWhile_cons]at hw;cases hw
  rw[h0,pW,V2 rfl];obtain⟨y,y1,y2⟩:=body hl u;refine#[y,go (au tz (aA ?_ (ae ?_))),Gn (d:=d) (l:=l) (λx hx=>(se hG NZ hx).1.2.1) y2]
  ·simp only[RX];rw[beq_iff_eq.mpr (by simp)]
  ·simp only[RX];rw[y1];rfl
 have hpos:0<w.length:=List.length_pos_iff.mpr c0;obtain⟨c,w',ew⟩:∃c w',w=c::w':=by cases w with|nil=>exact absurd rfl c0|cons c w'=>exact#[c,w',rfl]
 obtain⟨l',el⟩:∃l',l=c::l':=by
  have e:=wc;cases l with
  |nil=>rw[List.take_nil]at e;exact absurd e.symm c0
  |cons a l'=>rw[ew,TN,Vx]at e;exact#[l',by rw[(List.cons.inj e).1]]
 have Qa:=zf dC (bX (el▸hl:(c::l') <:+ z));rw[<-el]at Qa;have tv:aQ (ai fs (N-1)) (.or (.cmp .Eq (.idx (.var 0) (.var 1)) (.con (.str "0"))) (.cmp .Gt (.bin .Sub (.var 2) (.var 1)) (.con (.int 18)))) [U (.str (tx z)),U (.int (ps z l:Nat)),U (.int ((ps z l+w.length:Nat))),y'] y'= .ok (decide (c=48)||decide (18<w.length),y'):=by
  simp only[RX,Qa,e0,eT];by_cases hc:c=48
  ·subst hc;rfl
  ·rw[VW.mpr (λe=>hc (by cases e;rfl)),T1 hc,V1 (by simp)];congr 2;rw[Bool.false_or,decide_eq_decide]
   lia
 have tn:aQ (ai fs (N-1)) (.cmp .Eq (.var 2) (.var 1)) [U (.str (tx z)),U (.int (ps z l:Nat)),U (.int ((ps z l+w.length:Nat))),y'] y'= .ok (G',y'):=by simp only[RX];rw[VW.mpr ⋯]
 by_cases hc:c=48
 ·
  subst hc;rw[T5 rfl,Bool.true_or]at tv;have h0:lit [48] l=U l':=by rw[el];rfl
  rw[h0];refine#[.aE,go (au tz (au tn (aA tv (ae rfl)))),.inr #[rfl,?_]];have e:=hw;rw[el]at e;unfold Rx.run at e;rw[List.takeWhile_cons,V2 (by decide),ew]at e;show l'.takeWhile _≠[];rw[(List.cons.inj e).2];intro z;rw[z]at ew;exact w0 ew
 have h0:lit [48] l=y':=by
  cases e:lit [48] l with
  |none=>rfl
  |some r=>obtain⟨_,_,e2⟩:=aB e;rw[el]at e2;exact absurd (List.cons.inj e2).1 hc
 rw[h0,pW,V1 c0];by_cases c18:18<w.length
 ·rw[V2 c18];rw[T5 c18,UE]at tv;exact#[.aE,go (au tz (au tn (aA tv (ae rfl)))),rfl]
 rw[V1 c18];rw[T1 hc,T1 c18,Bool.or_false]at tv;have b7:l.drop w.length <:+ z:=(List.drop_suffix _ _).trans hl;obtain⟨y,y1,y2⟩:=body b7 (c8 BD u);rw[Ic]at y1;have go2:=λ {rr:R (Dt×Sx)} (h:fin (az (ai fs (N-1)) _ [U (.str (tx z)),U (.int (ps z l:Nat)),U (.int ((ps z l+w.length:Nat))),U y] y')=rr)=>go (au tz (au tn (au tv (ao (d:=y) (VY (R.bind · _) y1) rfl h))))
 simp only[Option.bind_some];cases ho:iA aK br (l.drop w.length) with
 |none=>rw[ho]at y2;subst y2;exact#[.aE,go2 (aA rfl (ae rfl)),rfl]
 |some x=>
  rw[ho]at y2;rcases y2 with e|⟨e,g⟩
  ·subst e;have hx:=(se hG (by rw[U7];lia) ho).1.2.1;have pin:HM (PySem.NumText.digitsVal w:Nat):=by have:=ot h0 (show jx l=U (PySem.NumText.digitsVal w,l.drop w.length) by rw[pW,V1 c0,V1 c18]);exact this.1
   have ht:=mw (N:=N-1) ⋯ pin hx;have A8:dw .int [.str (tx w)]= .ok (.int (PySem.NumText.digitsVal w:Nat)):=by show af (decide ((tx w).length<=640)) _=_;rw[aO,T5 ⋯,guard_true,PySem.intText_digits (by rw[bD];exact JC) (by rw[bD];exact c0) (by rw[aO];lia),bD]
   have JG:=dF (F:=ai fs (N-1)) (S:=y') (ρ:=[U (.str (tx z)),U (.int (ps z l:Nat)),U (.int ((ps z l+w.length:Nat))),U (oN z x)]) (a:=.var 0) (l:=.var 1) (h:=.var 2) (i:=ps z l) (j:=ps z l+w.length) dC ⋯ rfl rfl rfl;rw[bX hl,Nat.add_sub_cancel_left,wc]at JG;refine#[oN z (.times (PySem.NumText.digitsVal w) x.1,x.2),go2 (au rfl (ae ?_)),.inl rfl];have i0:ev (ai fs (N-1)) (.idx (.var 3) (.con (.int 0))) [U (.str (tx z)),U (.int (ps z l:Nat)),U (.int ((ps z l+w.length:Nat))),U (oN z x)] y'= .ok (fD x.1,y'):=rfl;have i1:ev (ai fs (N-1)) (.idx (.var 3) (.con (.int 1))) [U (.str (tx z)),U (.int (ps z l:Nat)),U (.int ((ps z l+w.length:Nat))),U (oN z x)] y'= .ok (.int (ps z x.2:Nat),y'):=rfl;rw[fT];simp only[RX,JG,A8]at i0 i1 ⊢;simp only[i0,i1,R.ah,ht];rfl
  ·subst e;exact#[.aE,go2 (aA rfl (ae rfl)),.inr #[rfl,g]]
end
def tS:C:=.and (.cmp .IsNot (.var 2) (.con .aE)) (.cmp .Eq (.sliB (.var 0) (.idx (.var 2) (.con (.int 1))) (.bin .Add (.idx (.var 2) (.con (.int 1))) (.con (.int 3)))) (.con (.str " + ")))
def Hm:Ts:=.cons (.asg 3 (.call 30 (.cons (.var 0) (.cons (.bin .Add (.idx (.var 2) (.con (.int 1))) (.con (.int 3))) .nil)) [])) (.cons (.ifs (.cmp .Is (.var 3) (.con .aE)) (.cons (.ret (.con .aE)) .nil) .nil) (.cons (.asg 2 (.lst (.cons (.call 19 (.cons (.idx (.var 2) (.con (.int 0))) (.cons (.idx (.var 3) (.con (.int 0))) .nil)) []) (.cons (.idx (.var 3) (.con (.int 1))) .nil)))) .nil))
abbrev sE(z:List Nat)(a:Int)(d2:Dt)(x3:Option Dt):aj:=[U (.str (tx z)),U (.int a),U d2,x3]
section
variable{z:List Nat}(hz:z.length<=950){d:Nat}{a:Int}{F:FT}
include hz
theorem Lg{x:TM×List Nat}{x3:Option Dt}(hx:x.2 <:+ z):aQ F tS (sE z a (oN z x) x3) y'= .ok ((lit [32,43,32] x.2).isSome,y'):=by have e3:(" + ":Str)=tx [32,43,32]:=rfl;have t2:=tZ (F:=F) (S:=y') (ρ:=sE z a (oN z x) x3) (c:=.idx (.var 2) (.con (.int 1))) (k:=3) (s:=[32,43,32]) hz hx rfl rfl rfl;unfold tS;rw[qh,show aQ F (.cmp .IsNot (.var 2) (.con .aE)) (sE z a (oN z x) x3) y'= .ok (B',y') from rfl];simp only[RX,V3,t2,e3,eT,i8]
theorem FS{N:Nat}(hN:4<=N)(hd:d<=20){br:Nat->List Nat->Option (List TM×List Nat)}(hG:Lz d br)(hb:∀M,N-3<=M->HB z d M br):∀(n c:Nat)(x:TM×List Nat)(x3:Option Dt),x.2 <:+ z->x.2.length<n->x.2.length<c->FN (d+1) x.1->4*(val x.1).length+x.2.length<=z.length+3->iR d x.2->
  (∃ρ,cQ (aQ (ai fs N) tS) (az (ai fs N) Hm) n (sE z a (oN z x) x3) y'= .ok (.ret .aE,ρ,y')/\∀q,dh aK (cn aK br) c x.1 x.2=U q->dg q.2)\/
  ∃q x3',cQ (aQ (ai fs N) tS) (az (ai fs N) Hm) n (sE z a (oN z x) x3) y'= .ok (.next,sE z a (oN z q) x3',y')/\dh aK (cn aK br) c x.1 x.2=U q:=by
 intro n
 induction n with
 |zero=>intro c x x3 _ h;lia
 |succ n ih=>
  intro c x x3 hx hn hc hf hv u;obtain⟨c,rfl⟩:∃m,c=m+1:=#[c-1,⋯];have tt:=Lg hz (a:=a) (F:=ai fs N) (x3:=x3) hx;unfold dh;have hp:aK.pl x.2=lit [32,43,32] x.2:=rfl;rw[hp];cases h0:lit [32,43,32] x.2 with
  |none=>rw[h0]at tt;exact .inr #[x,x3,by rw[cQ,tt];rfl,rfl]
  |some r=>
   rw[h0]at tt;obtain⟨e1,e2,e3⟩:=aB h0;have BD:=dz (by decide) h0 d;have hr:r <:+ z:=BD.sT.trans hx;have b7:=VY List.length e3;rw[TK]at b7;have b7:x.2.length=3+r.length:=b7;have er:ps z r=ps z x.2+3:=by rw[e1];exact bc hx e2
   have ur:=c8 BD u;obtain⟨y,y1,y2⟩:=jM hz hN hG hb hr ur;have P3:ev (ai fs N) (.call 30 (.cons (.var 0) (.cons (.bin .Add (.idx (.var 2) (.con (.int 1))) (.con (.int 3))) .nil)) []) (sE z a (oN z x) x3) y'= .ok (y,y'):=by have i1:ev (ai fs N) (.idx (.var 2) (.con (.int 1))) (sE z a (oN z x) x3) y'= .ok (.int (ps z x.2:Nat),y'):=rfl;rw[k9];simp only[RX]at i1 ⊢;simp only[i1,R.ah];simp only[RX];rw[show (ps z x.2:Int)+3=(ps z r:Nat) by lia,y1];rfl
   have aE:y= .aE->∃ρ,cQ (aQ (ai fs N) tS) (az (ai fs N) Hm) (n+1) (sE z a (oN z x) x3) y'= .ok (.ret .aE,ρ,y'):=λe=>by subst e;have b:az (ai fs N) Hm (sE z a (oN z x) x3) y'= .ok (.ret .aE,sE z a (oN z x) (U .aE),y'):=cW (d:=.aE) P3 rfl (Cj rfl (rZ rfl));exact#[sE z a (oN z x) (U .aE),by rw[cQ,tt];simp only[R.ah,Option.isSome_some,V3,b]]
   simp only;cases BW:cn aK br r with
   |none=>rw[BW]at y2;obtain⟨ρ,h⟩:=aE y2;exact .inl #[ρ,h,λq hq=>by cases hq]
   |some w=>
    rw[BW]at y2;simp only[Option.bind_some];obtain⟨⟨g1,g2,g3⟩,g4⟩:=oA hG (gE hz hr) BW;rcases y2 with e|⟨e,g⟩
    ·subst e;have zl:4*((val x.1).length+(val w.1).length)+w.2.length<=z.length+3:=⋯
     have hJ:=p6 (N:=N) ⋯ hd hf g2 ⋯;have b:az (ai fs N) Hm (sE z a (oN z x) x3) y'= .ok (.next,sE z a (oN z (.plus x.1 w.1,w.2)) (U (oN z w)),y'):=by refine cW (d:=oN z w) P3 rfl (rY rfl (cW (d:=oN z (.plus x.1 w.1,w.2)) ?_ rfl rfl));have i0:ev (ai fs N) (.idx (.var 2) (.con (.int 0))) (sE z a (oN z x) (U (oN z w))) y'= .ok (fD x.1,y'):=rfl;have i1:ev (ai fs N) (.idx (.var 3) (.con (.int 0))) (sE z a (oN z x) (U (oN z w))) y'= .ok (fD w.1,y'):=rfl;have i2:ev (ai fs N) (.idx (.var 3) (.con (.int 1))) (sE z a (oN z x) (U (oN z w))) y'= .ok (.int (ps z w.2:Nat),y'):=rfl;show ev (ai fs N) _ (sE z a (oN z x) (U (oN z w))) y'=_;rw[fT];simp only[RX]at i0 i1 i2 ⊢;simp only[i0,i1,i2,R.ah,hJ,Uh];rfl
     have hg:=dY (val x.1++val w.1);rw[TK]at hg;have hg:(val (Tm.plus x.1 w.1)).length<=(val x.1).length+(val w.1).length:=hg;have:=ih c (.plus x.1 w.1,w.2) (U (oN z w)) (g1.sT.trans hr) (by show w.2.length<n;lia) (by show w.2.length<c;lia) (kY hf g2 ⋯) (by show 4*(val (Tm.plus x.1 w.1)).length+w.2.length<=_;lia) (c8 g1 ur);have st:cQ (aQ (ai fs N) tS) (az (ai fs N) Hm) (n+1) (sE z a (oN z x) x3) y'=cQ (aQ (ai fs N) tS) (az (ai fs N) Hm) n (sE z a (oN z (.plus x.1 w.1,w.2)) (U (oN z w))) y':=by rw[cQ,tt];simp only[R.ah,Option.isSome_some,V3,b]
     rw[st];exact this
    ·obtain⟨ρ,h⟩:=aE e;refine .inl #[ρ,h,λq hq=>?_];cases c with
     |zero=>lia
     |succ c=>unfold dh at hq;have hp:aK.pl w.2=lit [32,43,32] w.2:=rfl;rw[hp,iT g (by decide)]at hq;cases hq;exact g
theorem vB{N:Nat}(hN:5<=N)(hd:d<=20){br:Nat->List Nat->Option (List TM×List Nat)}(hG:Lz d br)(hb:∀M,N-4<=M->HB z d M br){l:List Nat}(hl:l <:+ z)(u:iR d l):
  ∃r,ai fs N 31 [.str (tx z),.int (ps z l:Nat)] y'= .ok (r,y')/\Ow z r (jk aK br l):=by
 have NZ:=gE hz hl;have start:∀{rr:R (Dt×Sx)},fin (az (ai fs (N-1)) M8 [U (.str (tx z)),U (.int (ps z l:Nat)),y',y'] y')=rr->ai fs N 31 [.str (tx z),.int (ps z l:Nat)] y'=rr:=λh=>ax (body:=M8) rfl ⋯ rfl h
 obtain⟨y,y1,y2⟩:=jM hz (N:=N-1) ⋯ hG (λM hM=>hb M ⋯) hl u;have go:=λ {rr:R (Dt×Sx)} (h:fin (az (ai fs (N-1)) _ (sE z (ps z l:Nat) y y') y')=rr)=>start (ao (d:=y) (VY (R.bind · _) y1) rfl h)
 have hw:c7=99999+1:=rfl;have Ke:y= .aE->ai fs N 31 [.str (tx z),.int (ps z l:Nat)] y'= .ok (.aE,y'):=λe=>by subst e;exact go (aN (by rw[cX,hw];rfl) (ae rfl))
 unfold jk;cases hp:cn aK br l with
 |none=>rw[hp]at y2;exact#[.aE,Ke y2,rfl]
 |some x=>
  rw[hp]at y2;obtain⟨⟨g1,g2,g3⟩,g4⟩:=oA hG NZ hp;simp only[Option.bind_some];rcases y2 with e|⟨e,g⟩
  ·subst e;have Qc:=hl.length_le;rcases FS hz (a:=(ps z l:Nat)) (N:=N-1) ⋯ hd hG (λM hM=>hb M ⋯) c7 1000 x y' (g1.sT.trans hl) ⋯ ⋯ g2 ⋯ (c8 g1 u)with ⟨ρ,h1,h2⟩|⟨q,x3,h1,h2⟩
   ·refine#[.aE,go (g6 (by rw[cX];exact h1)),?_];cases hm:dh aK (cn aK br) 1000 x.1 x.2 with
    |none=>exact rfl
    |some q=>exact .inr #[rfl,h2 q hm]
   ·exact#[oN z q,go (aN (by rw[cX];exact h1) (ae rfl)),by rw[h2];exact .inl rfl]
  ·refine#[.aE,Ke e,?_];have:dh aK (cn aK br) 1000 x.1 x.2=U x:=by unfold dh;have hp:aK.pl x.2=lit [32,43,32] x.2:=rfl;rw[hp,iT g (by decide)]
   rw[this];exact .inr #[rfl,g]
theorem xF:∀(d N:Nat),d<=20->4*d+8<=N->OS z d N
 |0,N,hd,hN=>λl hl u=>vB hz ⋯ hd (tN 0) (λM _ l r0 _ h0 u=>by
   obtain⟨_,_,rfl⟩:=aB h0;have:=ou u.2;exact absurd this (by show¬(0:Int)<=((0:Nat):Int)-1;lia)) hl u
 |d+1,N,hd,hN=>λl hl u=>vB hz ⋯ hd (tN (d+1)) (λM hM l r0 _ _ _=>#[d,rfl,rfl,xF d M ⋯ ⋯]) hl u
end
def wz:Int->List Nat->Bool
 |_,[]=>B'
 |e,c::l=>decide (e+wt c<=20)&&wz (e+wt c) l
theorem iy:∀{e:Int}{l:List Nat},e<=20->(wz e l=B'↔iR (20-e) l)
 |e,[],h=>by
  constructor
  ·intro _;show (0:Int)<=20-e;lia
  ·intro _;rfl
 |e,c::l,h=>by
  rw[wz,Ti,VZ,iR,show 20-e-wt c=20-(e+wt c) by lia];constructor
  ·rintro⟨a,b⟩;exact#[⋯,(iy a).mp b]
  ·rintro⟨a,b⟩;have:=ou b;have h2:e+wt c<=20:=⋯
   exact#[h2,(iy h2).mpr b]
section
variable{z:List Nat}(hz:z.length<=950){F:FT}
def oB:Ts:=.cons (.asg 1 (.bin .Sub (.bin .Add (.var 1) (.bi .int (.cons (.cmp .Eq (.var 2) (.con (.str "("))) .nil))) (.bi .int (.cons (.cmp .Eq (.var 2) (.con (.str ")"))) .nil)))) (.cons (.ifs (.cmp .Gt (.var 1) (.con (.int 20))) (.cons (.ret (.con .aE)) .nil) .nil) .nil)
theorem Kg{e:Int}{c:Nat}{x3:Option Dt}:az F oB [U (.str (tx z)),U (.int e),U (.str ⟨#[c]⟩),x3] y'= .ok (if e+wt c<=20 then .next else .ret .aE,[U (.str (tx z)),U (.int (e+wt c)),U (.str ⟨#[c]⟩),x3],y'):=by
 have e1:("(":Str)=tx [40]:=rfl;have e2:(")":Str)=tx [41]:=rfl;have e0:(⟨#[c]⟩:Str)=tx [c]:=rfl;refine cW (d:=.int (e+wt c)) ?_ rfl ?_
 ·simp only[RX,e0,e1,e2,eT,rK];congr 3;unfold wt;by_cases a:c=40
  ·subst a;show e+1-0=e+1
   lia
  ·rw[V1 a];have q:([c]==[40])=G':=VW.mpr (λz=>a (List.cons.inj z).1);rw[q];by_cases b:c=41
   ·subst b;show e+0-1=e + -1
    lia
   ·rw[V1 b];have q:([c]==[41])=G':=VW.mpr (λz=>b (List.cons.inj z).1);rw[q];show e+0-0=e+0
    lia
 ·by_cases h:e+wt c<=20
  ·rw[V2 h];exact rY (VY (λb=>R.ok (b,_)) (T1 ⋯)) rfl
  ·rw[V1 h];exact Cj (VY (λb=>R.ok (b,_)) (T5 ⋯)) (rZ rfl)
theorem DR:∀(l:List Nat)(e:Int)(x2 x3:Option Dt),∃Pj e',forL (.nm 2) (az F oB) (l.map λc=>.str ⟨#[c]⟩) [U (.str (tx z)),U (.int e),x2,x3] y'= .ok (if wz e l=B' then .next else .ret .aE,[U (.str (tx z)),U (.int e'),Pj,x3],y')
 |[],e,x2,x3=>#[x2,e,rfl]
 |c::l,e,x2,x3=>by
  rw[Ul,wz];have b:=Kg (F:=F) (z:=z) (e:=e) (c:=c) (x3:=x3);by_cases h:e+wt c<=20
  ·rw[V2 h]at b;obtain⟨Pj,e',ih⟩:=DR l (e+wt c) (U (.str ⟨#[c]⟩)) x3;refine#[Pj,e',?_];rw[T5 h,Bool.true_and,<-ih];show (az F oB [U (.str (tx z)),U (.int e),U (.str ⟨#[c]⟩),x3] y').bind _=_;rw[b];rfl
  ·rw[V1 h]at b;refine#[U (.str ⟨#[c]⟩),e+wt c,?_];rw[T1 h,Bool.false_and,V1 (by simp)];show (az F oB [U (.str (tx z)),U (.int e),U (.str ⟨#[c]⟩),x3] y').bind _=_;rw[b];rfl
include hz
theorem Gp{N:Nat}(hN:90<=N):∃r,ai fs N 32 [.str (tx z)] y'= .ok (r,y')/\(match qb z with|none=>r= .aE|some x=>r=fD x):=by
 have dC:z.length<=1000:=⋯
 have start:∀{rr:R (Dt×Sx)},fin (az (ai fs (N-1)) M9 [U (.str (tx z)),y',y',y'] y')=rr->ai fs N 32 [.str (tx z)] y'=rr:=λh=>ax (body:=M9) rfl ⋯ rfl h
 obtain⟨x2,e',Mc⟩:=DR (F:=ai fs (N-1)) (z:=z) z 0 y' y';have it:eI (ai fs (N-1)) (.seq (.var 0)) [U (.str (tx z)),U (.int 0),y',y'] y'= .ok (z.map λc=>.str ⟨#[c]⟩,y'):=by simp only[RX,bD]
 have hlen:=zm dC;unfold qb;by_cases u:wz 0 z=B'
 ·rw[V2 u]at Mc;have hu:iR ((20:Nat):Int) z:=(iy (e:=0) (by decide)).mp u;obtain⟨y,y1,y2⟩:=xF hz 20 (N-1) ⋯ ⋯ z (List.suffix_refl _) hu;have p0:ps z z=0:=by unfold ps;lia
  rw[p0]at y1;have y1:ai fs (N-1) 31 [.str (tx z),.int 0] y'= .ok (y,y'):=y1;have go:=λ {rr:R (Dt×Sx)} (h:fin (az (ai fs (N-1)) _ [U (.str (tx z)),U (.int e'),x2,U y] y')=rr)=>start (ao (d:=.int 0) rfl rfl (dB it rfl Mc (ao (d:=y) (VY (R.bind · _) y1) rfl h)))
  by_cases c:600<z.length
  ·rw[V2 c];refine#[.aE,go (aA ?_ (ae rfl)),rfl];simp only[RX,hlen];rw[T5 ⋯];rfl
  ·rw[V1 c];cases hp:bC aK 20 z with
   |none=>rw[hp]at y2;subst y2;refine#[.aE,go (aA ?_ (ae rfl)),rfl];rw[iD];simp only[RX,hlen];rw[T1 ⋯];rfl
   |some x=>
    rw[hp]at y2;simp only[Option.bind_some];have hx:=(jn 20 z x dC hp).1.1.sT;have Qp:=hx.length_le;rcases y2 with e|⟨e,g⟩
    ·subst e;have t:aQ (ai fs (N-1)) (.or (.cmp .Gt (.bi .len (.cons (.var 0) .nil)) (.con (.int 600))) (.or (.cmp .Is (.var 3) (.con .aE)) (.cmp .NotEq (.idx (.var 3) (.con (.int 1))) (.bi .len (.cons (.var 0) .nil))))) [U (.str (tx z)),U (.int e'),x2,U (oN z x)] y'= .ok (!((ps z x.2:Int)==(z.length:Int)),y'):=by have i1:bB (oN z x) (.int 1)= .ok (.int (ps z x.2:Nat)):=rfl;have i2:bT .Is (oN z x) .aE= .ok G':=rfl;rw[iD];simp only[RX,hlen];rw[T1 ⋯,V1 (by simp)];simp only[i1,i2,RX];rfl
     by_cases e:x.2=[]
     ·rw[V2 e];have:((ps z x.2:Int)==(z.length:Int))=B':=by rw[beq_iff_eq];unfold ps;rw[e];simp
      rw[this]at t;exact#[fD x.1,go (au t (ae rfl)),rfl]
     ·rw[V1 e];have hpos:=List.length_pos_iff.mpr e;have:((ps z x.2:Int)==(z.length:Int))=G':=VW.mpr (by unfold ps;lia);rw[this]at t;exact#[.aE,go (aA t (ae rfl)),rfl]
    ·subst e;rw[V1 (show¬x.2=[] from λq=>by rw[q]at g;exact g rfl)];refine#[.aE,go (aA ?_ (ae rfl)),rfl];rw[iD];simp only[RX,hlen];rw[T1 ⋯];rfl
 ·rw[V1 u]at Mc;refine#[.aE,start (ao (d:=.int 0) rfl rfl (g6 (d:=.aE) (by rw[sJ];show (eI _ _ [U (.str (tx z)),U (.int 0),y',y'] y').bind _=_;rw[it,R.ah];exact Mc))),?_];by_cases c:600<z.length
  ·rw[V2 c]
  ·rw[V1 c];cases hp:bC aK 20 z with
   |none=>exact rfl
   |some x=>
    simp only[Option.bind_some];by_cases e:x.2=[]
    ·obtain⟨p,h1,_,h2⟩:=(jn 20 z x dC hp).1.1;rw[e,Uh]at h1;rw[<-h1]at h2;exact absurd ((iy (e:=0) (by decide)).mpr h2) u
    ·rw[V1 e];exact trivial
omit hz in
theorem Mr:LM fs 0 1 2 4 5 6 7 8 9 10 0:=#[rfl,rfl,rfl,rfl,rfl,rfl,rfl,rfl,rfl,rfl]
omit hz in
theorem GU{N:Nat}(hN:1<=N){d:Dt}(h:ai fs (N-1) 3 [d] y'= .ex 0):ai fs N 33 [d] y'= .ok (.bl B',y'):=by refine ax (body:=Na) rfl hN rfl ?_;show fin (az (ai fs (N-1)) Na [U d,y',y'] y')=_;refine g6 (ρ1:=[U d,y',y']) (d:=.bl B') ?_;rw[Ai];have e:az (ai fs (N-1)) (.cons (.HS (.call 3 (.cons (.var 0) .nil) [])) .nil) [U d,y',y'] y'= .ex 0:=rq (by rw[vi];simp only[RX,h];rfl);rw[e];rfl
theorem qm{N:Nat}(hN:100<=N):ai fs N 34 [.str (tx z)] y'= .ok (.bl B',y'):=by
 refine ax (body:=Nb) rfl ⋯ rfl ?_;show fin (az (ai fs (N-1)) Nb [U (.str (tx z)),y'] y')=_;obtain⟨r,h1,h2⟩:=Gp hz (N:=N-1) ⋯;refine ao (d:=r) (VY (R.bind · _) h1) rfl ?_;cases hp:qb z with
 |none=>rw[hp]at h2;subst h2;have Ib:pc z<=z.length:=List.count_le_length;have rb:=vk Mr (rd:=3) rfl (N:=N-1-1) ⋯ (z:=z) ⋯ (λh=>D2 Mr ⋯ ⋯ h);rw[hp]at rb;have hr:=GU (N:=N-1) ⋯ rb;exact aA rfl (ae (VY (R.bind · _) hr))
 |some x=>
  rw[hp]at h2;subst h2;have Ib:pc z<=z.length:=List.count_le_length;have rg:=vk Mr (rd:=3) rfl (N:=N-1) ⋯ (z:=z) ⋯ (λh=>D2 Mr ⋯ ⋯ h);rw[hp]at rg;obtain⟨r1,r2⟩:=rg;have hs:ai fs (N-1) 17 [fD x,fD x] y'= .ok (.bl B',y'):=by
   have e:fD x=ofD (.tup (val x)):=by rw[jL]
   rw[e];refine vo rfl (N-1) _ (D1 _) ?_;rw[yq];have:=tV r2
   lia
  exact au rfl (ae (by simp only[RX,r1,hs]))
end
theorem dZ:mV fs 12:=#[11,rfl,rfl]
def W3(d:Dt):Prop:=∃a b c:List Nat,d= .lst [.str (tx a),.str (tx b),.str (tx c)]/\∀w,w=a\/w=b\/w=c->w≠[]/\w.length<=8
theorem D9{a b c:Str}(h1:1<=a.length)(h2:a.length<=6)(h3:1<=b.length/\b.length<=8)(h4:1<=c.length/\c.length<=8):W3 (.lst [.str a,.str b,.str c]):=by
 have key:∀z:Str,1<=z.length->z.length<=8->z.cps.toList≠[]/\z.cps.toList.length<=8:=λz a b=>by
  have e:z.cps.toList.length=z.length:=by simp[Str.length]
  exact#[List.length_pos_iff.mp ⋯,⋯]
 refine#[a.cps.toList,b.cps.toList,c.cps.toList,by rw[qB,qB,qB],?_];rintro w (rfl|rfl|rfl)
 ·exact key a h1 ⋯
 ·exact key b h3.1 h3.2
 ·exact key c h4.1 h4.2
theorem names14{ns:List Int}{N:Nat}(hN:4<=N):∃d,ai fs N 14 [.aW ns,.int 0] y'= .ok (d,y')/\W3 d:=by obtain⟨a,b,c,h,h1,h2,h3,h4,h5⟩:=uQ dZ (im:=13) rfl (n:=N-1) ⋯ (ns:=ns) (k:=0) (L:="abcdefghijklmnopqrstuvwxyz") (by decide) (by decide) (by decide);have h:ai fs (N-1) 13 [.aW ns,.int 0,.str "abcdefghijklmnopqrstuvwxyz"] y'=_:=h;exact#[_,ax (body:=Pq) rfl ⋯ rfl (ae (by simp only[RX,Ul,Vh,UT,Vn,h])),D9 h2 h3 h4 h5]
theorem names15{ns:List Int}{N:Nat}(hN:4<=N):∃d,ai fs N 15 [.aW ns,.int 3] y'= .ok (d,y')/\W3 d:=by obtain⟨a,b,c,h,h1,h2,h3,h4,h5⟩:=uQ dZ (im:=13) rfl (n:=N-1) ⋯ (ns:=ns) (k:=3) (L:="ABCDEFGHIJKLMNOPQRSTUVWXYZ") (by decide) (by decide) (by decide);have h:ai fs (N-1) 13 [.aW ns,.int 3,.str "ABCDEFGHIJKLMNOPQRSTUVWXYZ"] y'=_:=h;exact#[_,ax (body:=Pt) rfl ⋯ rfl (ae (by simp only[RX,Ul,Vh,UT,Vn,h])),D9 h2 h3 h4 h5]
theorem D8{d:Dt}(h:W3 d){k:Nat}(hk:k<3):∃w:List Nat,bB d (.int k)= .ok (.str (tx w))/\w≠[]/\w.length<=8:=by
 obtain⟨a,b,c,rfl,h⟩:=h;rcases (by lia:k=0\/k=1\/k=2)with rfl|rfl|rfl
 ·exact#[a,rfl,h a (.inl rfl)]
 ·exact#[b,rfl,h b (.inr (.inl rfl))]
 ·exact#[c,rfl,h c (.inr (.inr rfl))]
theorem yh{ns:List Int}{N k:Nat}(hN:4<=N)(hk:k<100000):∃m:Nat,ai fs N 21 [.aW ns,.int k] y'= .ok (.int m,y')/\m<1000000000000000000:=by
 have start:∀{rr:R (Dt×Sx)},fin (az (ai fs (N-1)) MZ [U (.aW ns),U (.int k),y'] y')=rr->ai fs N 21 [.aW ns,.int k] y'=rr:=λh=>ax (body:=MZ) rfl ⋯ rfl h
 have p1:=bW dZ (n:=N-1) ⋯ (ns:=ns) (k:=k) (many:=7) ⋯ (by decide);have l1:=aZ (ns:=ns) (k:=k) (many:=7) (by decide);have p1:ai fs (N-1) 12 [.aW ns,.int k,.int 7] y'=_:=p1;generalize bg ns k 7=way at p1 l1;have go:=λ {rr:R (Dt×Sx)} (h:fin (az (ai fs (N-1)) _ [U (.aW ns),U (.int k),U (.int way)] y')=rr)=>start (ao (d:=.int way) (VY (R.bind · _) p1) rfl h)
 by_cases c3:way<3
 ·exact#[0,go (aA (VY (λb=>R.ok (b,_)) (T5 ⋯)) (ae rfl)),by decide]
 have f3:aQ (ai fs (N-1)) (.cmp .Lt (.var 2) (.con (.int 3))) [U (.aW ns),U (.int k),U (.int way)] y'= .ok (G',y'):=by simp only[RX];rw[T1 ⋯]
 by_cases c5:way<5
 ·have p2:=bW dZ (n:=N-1) ⋯ (ns:=ns) (k:=k+1) (many:=12) ⋯ (by decide);have l2:=aZ (ns:=ns) (k:=k+1) (many:=12) (by decide);have p2:ai fs (N-1) 12 [.aW ns,.int ((k:Int)+1),.int 12] y'=_:=p2;generalize bg ns (k+1) 12=q at p2 l2;refine#[1+q,go (au f3 (aA (VY (λb=>R.ok (b,_)) (T5 ⋯)) (ae ?_))),⋯];simp only[RX,p2];rw[UJ];rfl
 have f5:aQ (ai fs (N-1)) (.cmp .Lt (.var 2) (.con (.int 5))) [U (.aW ns),U (.int k),U (.int way)] y'= .ok (G',y'):=by simp only[RX];rw[T1 ⋯]
 have hc:=tP (fs:=fs) (ic:=11) rfl (n:=N-1) ⋯ (ns:=ns) (k:=k) ⋯;generalize gU ns k=x at hc;have pw:oz .Pow (.int 10) (.int 18)= .ok (.int 1000000000000000000):=rfl;rcases (by lia:way=5\/way=6)with rfl|rfl
 ·have m1:=ck (i:=x) (j:=999999999999999999) (by decide);have r1:=Ue x (b:=999999999999999999) (by decide);have r2:=Ug x (b:=999999999999999999) (by decide);refine#[(1+x % 999999999999999999).toNat,go (au f3 (au f5 (ae ?_))),⋯];have i0:bB (.lst [.int 1000000000000000000,.int 1000]) (.int (((5:Nat):Int)-5))= .ok (.int 1000000000000000000):=rfl;simp only[RX,hc,pw,i0];rw[show (1000000000000000000:Int)-1=999999999999999999 from rfl,m1];simp only[RX];rw[Int.toNat_of_nonneg ⋯]
 ·have m1:=ck (i:=x) (j:=999) (by decide);have r1:=Ue x (b:=999) (by decide);have r2:=Ug x (b:=999) (by decide);refine#[(1+x % 999).toNat,go (au f3 (au f5 (ae ?_))),⋯];have i0:bB (.lst [.int 1000000000000000000,.int 1000]) (.int (((6:Nat):Int)-5))= .ok (.int 1000):=rfl;simp only[RX,hc,pw,i0];rw[show (1000:Int)-1=999 from rfl,m1];simp only[RX];rw[Int.toNat_of_nonneg ⋯]
theorem C8{m:Nat}(h:m<1000000000000000000):∃w:List Nat,dw .str [.int m]= .ok (.str (tx w))/\w≠[]/\w.length<=19:=by
 have hlen:(toString (m:Int):Str).cps.toList=(Nat.toDigits 10 m).map Char.toNat:=PySem.W.KIN.signs_num m;refine#[(toString (m:Int):Str).cps.toList,?_,?_,?_]
 ·show af (decide ((m:Int).natAbs.log2<1920)) _=_;rw[qB,T5,guard_true];rw[Int.natAbs_natCast];by_cases c:m=0
  ·subst c;decide
  ·exact(Nat.log2_lt c).mpr (TU h (by decide))
 ·rw[hlen];intro z;exact Nat.toDigits_ne_nil (List.map_eq_nil_iff.mp z)
 ·rw[hlen,Tw];exact Tz ((Nat.length_toDigits_le_iff (b:=10) (k:=18) (by decide) (by decide)).mpr ⋯) (by decide)
theorem strs_map:∀ws:List (List Nat),strsOf (ws.map λw=>Dt.str (tx w))=U (ws.map tx)
 |[]=>rfl
 |w::ws=>by show (strsOf (ws.map λw=>Dt.str (tx w))).map (tx w:: ·)=_;rw[strs_map ws];rfl
theorem zg{sep x:Str}(h:1<=x.length):∀r:List Str,1<=(Str.join sep (x::r)).length
 |[]=>h
 |y::r=>by
  show 1<=(x++sep++Str.join sep (y::r)).length;rw[Rx.len_cat,Rx.len_cat]
  lia
theorem uG{z:Str}{B:Nat}{w:List Nat}{ws:List (List Nat)}(h:∀v∈w::ws,v≠[]/\v.length<=B)(hn:(w::ws).length*(B+z.length)<=900000):
  ∃v:List Nat,J6 .join (.str z) [.lst ((w::ws).map λw=>.str (tx w))]= .ok (.str (tx v))/\v≠[]/\v.length<=(w::ws).length*(B+z.length):=by
 have hs:(((w::ws).map tx).map (·.length)).sum<=(w::ws).length*B:=by
  have:∀l:List (List Nat),(∀v∈l,v.length<=B)->((l.map tx).map (·.length)).sum<=l.length*B:=by
   intro l
   induction l with
   |nil=>intro _;exact VL _
   |cons a l ih=>
    intro h;rw[Ul,Ul,List.sum_cons,TN,Nat.add_mul,Nat.one_mul,aO];have:=ih λv hv=>h v (Tp _ hv)
    have:=h a Tt
    lia
  exact this _ λv hv=>(h v hv).2
 have e:PySem.Txt.join z ((w::ws).map tx)=Str.join z ((w::ws).map tx):=PySem.StrLaws.glued_eq_join z _;have hl:=PySem.StrLaws.join_length_le z ((w::ws).map tx);rw[<-e,Tw]at hl;have hp:1<=(PySem.Txt.join z ((w::ws).map tx)).length:=by rw[e];exact zg (by rw[aO];exact List.length_pos_iff.mpr (h w Tt).1) _
 have hm:(w::ws).length*(B+z.length)=(w::ws).length*B+(w::ws).length*z.length:=Nat.mul_add _ _ _;have hc:(PySem.Txt.join z ((w::ws).map tx)).cps.toList.length=(PySem.Txt.join z ((w::ws).map tx)).length:=by simp[Str.length]
 refine#[(PySem.Txt.join z ((w::ws).map tx)).cps.toList,?_,List.length_pos_iff.mp ⋯,⋯];show (match strsOf ((w::ws).map λw=>Dt.str (tx w))with|some ys=>af (decide ((ys.map Str.length).sum+ys.length*z.length<=lim)) (R.ok (Dt.str (PySem.Txt.join z ys)))|none=>R.bad)=_;rw[strs_map,qB];show af (decide ((((w::ws).map tx).map (·.length)).sum+((w::ws).map tx).length*z.length<=lim)) _=_;rw[T5 (by rw[Tw];have:lim=1000000:=rfl;lia),guard_true]
def LW(n r dep:Nat)(d:Dt):Prop:=∃(w:List Nat)(f:TM),d= .lst [.str (tx w),fD f]/\w≠[]/\w.length<=n/\FN dep f/\(val f).length<=r
theorem pF{f:Dt->Sx->R (List Dt×Sx)}{g:Dt->Dt}{S:Sx}:∀{ds:List Dt},(∀d∈ds,f d S= .ok ([g d],S))->bU f ds S= .ok (ds.map g,S)
 |[],_=>rfl
 |d::ds,h=>by rw[bU,h d Tt,R.ah,pF λy hy=>h y (Tp _ hy)];rfl
theorem qZ{F:FT}{ρ:aj}{j:Nat}{ds:List Dt}{i:Nat}(g:Dt->Dt)(hg:∀d∈ds,bB d (.int i)= .ok (g d)/\cJ (.idx (.var 1) (.con (.int i))) (g d)=B')(hj:bJ ρ j= .ok (.lst ds))(hl:ds.length<=lim)(hk:(decide (uK (.seq (.var j))<=1)||jr F (.seq (.var j)) ρ y')=B'):
  ev F (.comp [y',y'] (.seq (.var j)) (.nm 1) .nil (.idx (.var 1) (.con (.int i)))) ρ y'= .ok (.lst (ds.map g),y'):=by
 refine gY (ds:=ds) (by simp only[RX,hj]) hl hk ?_;refine pF λd hd=>?_
 obtain⟨h1,h2⟩:=hg d hd;exact iM (ρ1:=[y',U d]) rfl (VY (R.bind · _) h1) h2
def g0:Dt->Dt
 |.lst [a,_]=>a
 |d=>d
def g1:Dt->Dt
 |.lst [_,b]=>b
 |d=>d
theorem yW{n r dep:Nat}{ds:List Dt}(h:∀d∈ds,LW n r dep d):∃ws:List (List Nat),ds.map g0=ws.map (λw=>Dt.str (tx w))/\ws.length=ds.length/\∀w∈ws,w≠[]/\w.length<=n:=by
 induction ds with
 |nil=>exact#[[],rfl,rfl,λ_ h=>by cases h]
 |cons d ds ih=>
  obtain⟨ws,e,l1,h1⟩:=ih λd hd=>h d (Tp _ hd)
  obtain⟨w,f,rfl,a,b,c,g⟩:=h d Tt;refine#[w::ws,by rw[Ul,Ul,e];rfl,by simp[l1],λv hv=>?_];rcases TC.mp hv with rfl|hv
  ·exact#[a,b]
  ·exact h1 v hv
theorem E3{n r dep:Nat}{ds:List Dt}(h:∀d∈ds,LW n r dep d):∃fl:List TM,ds.map g1=fl.map fD/\fl.length=ds.length/\∀f∈fl,FN dep f/\(val f).length<=r:=by
 induction ds with
 |nil=>exact#[[],rfl,rfl,λ_ h=>by cases h]
 |cons d ds ih=>
  obtain⟨ws,e,l1,h1⟩:=ih λd hd=>h d (Tp _ hd)
  obtain⟨w,f,rfl,a,b,c,g⟩:=h d Tt;refine#[f::ws,by rw[Ul,Ul,e];rfl,by simp[l1],λv hv=>?_];rcases TC.mp hv with rfl|hv
  ·exact#[c,g]
  ·exact h1 v hv
theorem Es{n r dep:Nat}{d:Dt}(h:LW n r dep d):(bB d (.int 0)= .ok (g0 d))/\bB d (.int 1)= .ok (g1 d):=by obtain⟨w,f,rfl,_⟩:=h;exact#[rfl,rfl]
theorem j9{f:Dt->Sx->R (List Dt×Sx)}{S:Sx}{P:Dt->Prop}:∀{xs:List Dt},(∀x∈xs,∃d,f x S= .ok ([d],S)/\P d)->∃ds,bU f xs S= .ok (ds,S)/\ds.length=xs.length/\∀d∈ds,P d
 |[],_=>#[[],rfl,rfl,λ_ h=>by cases h]
 |x::xs,h=>by
  obtain⟨d,h1,h2⟩:=h x Tt;obtain⟨ds,k1,k2,k3⟩:=j9 (λy hy=>h y (Tp _ hy)) (f:=f) (S:=S) (P:=P) (xs:=xs);refine#[d::ds,by rw[bU,h1,R.ah,k1,R.ah];rfl,by simp[k2],λe he=>?_];rcases TC.mp he with rfl|he
  ·exact h2
  ·exact k3 e he
theorem wo{N n r d m:Nat}(hN:3<=N)(hd:d<=20)(hr:5*r<=600)(hn:4*(n+3)<=900000){ds:List Dt}(h0:ds≠[])(h4:ds.length<=m)(hm:m<=4)(h:∀x∈ds,LW n r (d+1) x):
  ∃y,ai fs N 26 [.lst ds] y'= .ok (y,y')/\LW (m*(n+3)) (m*r) (d+1) y:=by
 have loop:=dW (S:=y') (tg:=.tp [2,3]) (body:=az (ai fs (N-1)) (.cons (.asg 1 (.call 19 (.cons (.var 1) (.cons (.var 3) .nil)) [])) .nil)) (ds:=ds) (ρ:=[U (.lst ds),U (.tup []),y',y'])
  (λpre ρ=>∃(f:TM)(x2 x3:Option Dt),ρ=[U (.lst ds),U (fD f),x2,x3]/\FN (d+1) f/\(val f).length<=pre.length*r) #[.nil,y',y',rfl,nP d,VL _] (by
   rintro pre x post ρ e ⟨f,x2,x3,rfl,f1,f2⟩;have v8:pre.length<=3:=by
    have:=VY List.length e;rw[TK,TN]at this
    lia
   have hmul:pre.length*r<=3*r:=VH r v8;obtain⟨w,g,rfl,a,b,c,k⟩:=h x (by rw[e];simp);have hp:=p6 (N:=N-1) ⋯ hd f1 c ⋯;refine#[_,_,rfl,cW (d:=fD (.plus f g)) (by simp only[RX,List.set];rw[hp];rfl) rfl rfl,.plus f g,U (.str (tx w)),U (fD g),rfl,kY f1 c ⋯,?_];have hg:=dY (val f++val g);rw[TK]at hg;have hg:(val (Tm.plus f g)).length<=(val f).length+(val g).length:=hg;rw[TK,Vd,Nat.add_mul,Nat.one_mul]
   lia)
 obtain⟨ρ',hl,f,x2,x3,rfl,f1,f2⟩:=loop;obtain⟨ws,e,l1,hw⟩:=yW h;have hc:=qZ (F:=ai fs (N-1)) (ρ:=[U (.lst ds),U (fD f),x2,x3]) (j:=0) (ds:=ds) (i:=0) g0 (λx hx=>#[(Es (h x hx)).1,rfl]) rfl (by have:lim=1000000:=rfl;lia) rfl;rw[e]at hc;cases ws with
 |nil=>exact absurd (List.length_eq_zero_iff.mp (l1.symm.trans rfl)) h0
 |cons w ws=>
  have hlen:(w::ws).length<=4:=⋯
  have hz:(" + ":Str).length=3:=by decide
  have hb:(w::ws).length*(n+(" + ":Str).length)<=m*(n+3):=by rw[hz];exact VH _ ⋯
  have SV:m*(n+3)<=4*(n+3):=VH _ hm;obtain⟨v,j1,j2,j3⟩:=uG (z:=" + ") (B:=n) hw ⋯;refine#[.lst [.str (tx v),fD f],ax (body:=Pu) rfl ⋯ rfl (ao (d:=.tup []) rfl rfl (dB (ds:=ds) rfl rfl hl (ae ?_))),v,f,rfl,j2,Tz j3 hb,f1,Tz f2 (VH _ h4)];have hj:ev (ai fs (N-1)) (.mt .join (.con (.str " + ")) (.cons (.comp [y',y'] (.seq (.var 0)) (.nm 1) .nil (.idx (.var 1) (.con (.int 0)))) .nil)) [U (.lst ds),U (fD f),x2,x3] y'= .ok (.str (tx v),y'):=by rw[sI,vd,R.ah];simp only[RX];have hc:ev (ai fs (N-1)) (.comp [y',y'] (.seq (.var 0)) (.nm 1) .nil (.idx (.var 1) (.con (.int 0)))) [U (.lst ds),U (fD f),x2,x3] y'=_:=hc;rw[hc];simp only[R.ah];show af B' _=_;rw[guard_true,j1];rfl
  rw[fT];simp only[RX,hj];rfl
def TX(ns:List Int)(nm sg:Dt)(N n r dep:Nat)(k:Int):Prop:=∀κ:Nat,κ<10000->∃y,ai fs N 25 [.aW ns,.int κ,.int k,nm,sg] y'= .ok (y,y')/\LW n r dep y
section
variable{ns:List Int}{nm sg:Dt}
theorem bO(a b:List Nat)(h:a.length+b.length<=1000000):oz .Add (.str (tx a)) (.str (tx b))= .ok (.str (tx (a++b))):=by rw[Rx.dI (by rw[aO,aO];exact h),Hs]
theorem sW{N n r d:Nat}{k:Nat}(hN:4<=N)(uu:W3 sg)(hd:d<=20)(hr:r<=600)(hn:4*(n+3)<=900000)(hT:0<k->TX ns nm sg (N-1) n r (d+1) ((k:Int)-1)){κ:Nat}(hκ:κ<10000):
  ∃y,ai fs N 22 [.aW ns,.int κ,.int k,nm,sg] y'= .ok (y,y')/\LW (3*n+20) 1 (d+2) y:=by
 have p1:=bW dZ (n:=N-1) ⋯ (ns:=ns) (k:=κ+3) (many:=3) ⋯ (by decide);have l1:=aZ (ns:=ns) (k:=κ+3) (many:=3) (by decide);have p1:ai fs (N-1) 12 [.aW ns,.int ((κ:Int)+3),.int 3] y'=_:=p1;have p2:=bW dZ (n:=N-1) ⋯ (ns:=ns) (k:=κ+4) (many:=4) ⋯ (by decide);have l2:=aZ (ns:=ns) (k:=κ+4) (many:=4) (by decide);have p2:ai fs (N-1) 12 [.aW ns,.int ((κ:Int)+4),.int 4] y'=_:=p2;generalize bg ns (κ+3) 3=q1 at p1 l1;generalize bg ns (κ+4) 4=q2 at p2 l2;obtain⟨s,s1,s2,s3⟩:=D8 uu l1;obtain⟨m,hm,SZ⟩:∃m:Nat,(if k=0 then 0 else q2)=m/\m<4:=#[_,rfl,by split<;>lia];have eG:∀{rr:R (Dt×Sx)},fin (az (ai fs (N-1)) (match LR with|.cons _ (.cons _ (.cons _ ts))=>ts|t=>t) [U (.aW ns),U (.int κ),U (.int k),U nm,U sg,U (.str (tx s)),U (.int m),y',y'] y')=rr->ai fs N 22 [.aW ns,.int κ,.int k,nm,sg] y'=rr:=λh=>by
  refine ax (body:=LR) rfl ⋯ rfl ?_;show fin (az (ai fs (N-1)) LR [U (.aW ns),U (.int κ),U (.int k),U nm,U sg,y',y',y',y'] y')=_;refine ao (d:=.str (tx s)) (by simp only[RX,p1,s1]) rfl (ao (d:=.int q2) (by simp only[RX,List.set,p2]) rfl ?_);by_cases c:k=0
  ·rw[V2 c]at hm;refine aA (by simp only[RX,List.set];rw[beq_iff_eq.mpr (by rw[c];rfl)]) (ao (d:=.int m) (by rw[<-hm];rfl) rfl h)
  ·rw[V1 c]at hm;rw[hm];exact au (by simp only[RX,List.set];rw[VW.mpr ⋯]) h
 obtain⟨ds,c1,c2,c3⟩:∃ds,bU (cC (.nm 1) (dS (ai fs (N-1)) .nil) (f7 (ai fs (N-1)) (.call 25 (.cons (.var 5) (.cons (.call 16 (.cons (.var 3) (.cons (.bin .Add (.con (.int 20)) (.var 1)) .nil)) []) (.cons (.bin .Sub (.var 2) (.con (.int 1))) (.cons (.var 4) (.cons (.var 6) .nil))))) []))
   [y',y',U (.int k),U (.int κ),U nm,U (.aW ns),U sg]) (bL 0 m) y'= .ok (ds,y')/\ds.length=(bL 0 m).length/\∀d'∈ds,LW n r (d+1) d':=by
  refine j9 λx hx=>?_
  obtain⟨j,rfl,hj⟩:∃j:Nat,x= .int j/\j<m:=by obtain⟨i,hi,rfl⟩:=Ub.mp hx;exact#[i,by simp,Uq.mp hi]
  have hk:0<k:=by
   rcases Nat.eq_zero_or_pos k with c|c
   ·rw[V2 c]at hm;lia
   ·exact c
  have nx:=om (fs:=fs) (i:=16) rfl (n:=N-1) ⋯ (k:=κ) (j:=20+j);rw[show ((20+j:Nat):Int)=20+(j:Int) by lia]at nx;obtain⟨y,y1,y2⟩:=hT hk (kP κ (20+j)) (Nat.lt_trans kQ (by decide));refine#[y,iM (ρ1:=[y',U (.int j),U (.int k),U (.int κ),U nm,U (.aW ns),U sg]) rfl ?_ rfl,y2];simp only[RX,nx,y1]
 have c2:ds.length=m:=by rw[c2];simp[bL]
 have kz:=gY (F:=ai fs (N-1)) (cap:=[y',y',U 2,U 1,U 3,U 0,U 4]) (it:=.rng1 (.var 6)) (tg:=.nm 1) (cs:=.nil) (e:=.call 25 (.cons (.var 5) (.cons (.call 16 (.cons (.var 3) (.cons (.bin .Add (.con (.int 20)) (.var 1)) .nil)) []) (.cons (.bin .Sub (.var 2) (.con (.int 1))) (.cons (.var 4) (.cons (.var 6) .nil))))) [])
  (ρ:=[U (.aW ns),U (.int κ),U (.int k),U nm,U sg,U (.str (tx s)),U (.int m),y',y']) (S:=y') (ds:=bL 0 m) (kG rfl (by have:lim=1000000:=rfl;lia)) (by simp[bL];have:lim=1000000:=rfl;lia) rfl c1
 obtain⟨fl,e1,e2,e3⟩:=E3 c3;have P8:fl.length<=3:=⋯
 have i1:∀v:Dt,ev (ai fs (N-1)) (.comp [y',y'] (.seq (.var 7)) (.nm 1) .nil (.idx (.var 1) (.con (.int 1)))) [U (.aW ns),U (.int κ),U (.int k),U nm,U sg,U (.str (tx s)),U (.int m),U (.lst ds),U v] y'= .ok (.lst (fl.map fD),y'):=λv=>by have:=qZ (F:=ai fs (N-1)) (ρ:=[U (.aW ns),U (.int κ),U (.int k),U nm,U sg,U (.str (tx s)),U (.int m),U (.lst ds),U v]) (j:=7) (ds:=ds) (i:=1) g1 (λx hx=>#[(Es (c3 x hx)).2,rfl]) rfl (by have:lim=1000000:=rfl;lia) rfl;rw[e1]at this;exact this
 have Jg:∀v:List Nat,v≠[]->v.length<=3*n+20->fin (az (ai fs (N-1)) (.cons (.ret (.lst (.cons (.var 8) (.cons (.tup (.cons (.tup (.cons (.tup (.cons (.con (.str "of")) (.cons (.var 5) (.cons (.bi .tuple (.cons (.comp [y',y'] (.seq (.var 7)) (.nm 1) .nil (.idx (.var 1) (.con (.int 1)))) .nil)) .nil)))) (.cons (.con (.int 1)) .nil))) .nil)) .nil)))) .nil)
   [U (.aW ns),U (.int κ),U (.int k),U nm,U sg,U (.str (tx s)),U (.int m),U (.lst ds),U (.str (tx v))] y')= .ok (.lst [.str (tx v),fD (xu s fl)],y')/\LW (3*n+20) 1 (d+2) (.lst [.str (tx v),fD (xu s fl)]):=λv v1 v2=>by
  refine#[ae ?_,v,xu s fl,rfl,v1,v2,pM P8 λf hf=>(e3 f hf).1,by rw[uV];exact Tr _];rw[Ce P8];have i1:=i1 (.str (tx v));rw[fT];simp only[RX]at i1 ⊢;rw[i1];rfl
 have go:=λ {rr:R (Dt×Sx)} (h:fin (az (ai fs (N-1)) _ [U (.aW ns),U (.int κ),U (.int k),U nm,U sg,U (.str (tx s)),U (.int m),U (.lst ds),U (.str (tx s))] y')=rr)=>eG (ao (d:=.lst ds) kz rfl (ao (d:=.str (tx s)) rfl rfl h))
 by_cases c:m=0
 ·obtain⟨h1,h2⟩:=Jg s s2 ⋯;exact#[_,go (au (VY (λb=>R.ok (b,_)) (T1 ⋯)) h1),h2]
 ·obtain⟨ws,w1,w2,w3⟩:=yW c3;cases ws with
  |nil=>exact absurd (by rw[<-c2,<-w2];rfl) c
  |cons w ws=>
   have hz:(", ":Str).length=2:=by decide
   have hb:(w::ws).length*(n+(", ":Str).length)<=3*(n+2):=by rw[hz];exact VH _ ⋯
   obtain⟨v,j1,j2,j3⟩:=uG (z:=", ") (B:=n) w3 ⋯;have i0:=qZ (F:=ai fs (N-1)) (ρ:=[U (.aW ns),U (.int κ),U (.int k),U nm,U sg,U (.str (tx s)),U (.int m),U (.lst ds),U (.str (tx s))]) (j:=7) (ds:=ds) (i:=0) g0 (λx hx=>#[(Es (c3 x hx)).1,rfl]) rfl (by have:lim=1000000:=rfl;lia) rfl;rw[w1]at i0;have hj:ev (ai fs (N-1)) (.mt .join (.con (.str ", ")) (.cons (.comp [y',y'] (.seq (.var 7)) (.nm 1) .nil (.idx (.var 1) (.con (.int 0)))) .nil)) [U (.aW ns),U (.int κ),U (.int k),U nm,U sg,U (.str (tx s)),U (.int m),U (.lst ds),U (.str (tx s))] y'= .ok (.str (tx v),y'):=by rw[sI,vd,R.ah];have i0:ev (ai fs (N-1)) (.comp [y',y'] (.seq (.var 7)) (.nm 1) .nil (.idx (.var 1) (.con (.int 0)))) [U (.aW ns),U (.int κ),U (.int k),U nm,U sg,U (.str (tx s)),U (.int m),U (.lst ds),U (.str (tx s))] y'=_:=i0;simp only[RX];rw[i0];simp only[R.ah];show af B' _=_;rw[guard_true,j1];rfl
   have eo:("(":Str)=tx [40]:=rfl;have ec:(")":Str)=tx [41]:=rfl;have k1:=bO s [40] (by rw[Vd];lia);have k2:=bO (s++[40]) v (by rw[TK,Vd];lia);have k3:=bO (s++[40]++v) [41] (by rw[TK,TK,Vd,Vd];lia);obtain⟨h1,h2⟩:=Jg (s++[40]++v++[41]) (by simp) (by rw[TK,TK,TK,Vd,Vd];lia);refine#[_,go (aA (VY (λb=>R.ok (b,_)) (T5 ⋯)) (ao (d:=.str (tx (s++[40]++v++[41]))) ?_ rfl h1)),h2];simp only[RX,hj,eo,ec,k1,k2,k3]
end
section
variable{ns:List Int}{nm sg:Dt}
theorem wB{N n r d:Nat}{k:Nat}(hN:5<=N)(rH:W3 nm)(uu:W3 sg)(hd:d<=18)(h1:1<=r)(hr:r<=600)(hn:4*(n+3)<=300000)(hT:∀M,N-2<=M->0<k->TX ns nm sg M n r (d+1) ((k:Int)-1)){κ:Nat}(hκ:κ<10000):
  ∃y,ai fs N 23 [.aW ns,.int κ,.int k,nm,sg] y'= .ok (y,y')/\LW (3*n+40) r (d+2) y:=by
 have start:∀{rr:R (Dt×Sx)},fin (az (ai fs (N-1)) M0 [U (.aW ns),U (.int κ),U (.int k),U nm,U sg,y',y',y',y',y',y'] y')=rr->ai fs N 23 [.aW ns,.int κ,.int k,nm,sg] y'=rr:=λh=>ax (body:=M0) rfl ⋯ rfl h
 have p1:=bW dZ (n:=N-1) ⋯ (ns:=ns) (k:=κ+2) (many:=8) ⋯ (by decide);have l1:=aZ (ns:=ns) (k:=κ+2) (many:=8) (by decide);have p1:ai fs (N-1) 12 [.aW ns,.int ((κ:Int)+2),.int 8] y'=_:=p1;generalize bg ns (κ+2) 8=way at p1 l1;have go:=λ {rr:R (Dt×Sx)} (h:fin (az (ai fs (N-1)) _ [U (.aW ns),U (.int κ),U (.int k),U nm,U sg,U (.int way),y',y',y',y',y'] y')=rr)=>start (ao (d:=.int way) (VY (R.bind · _) p1) rfl h)
 by_cases c0:way=0
 ·refine#[.lst [.str "0",.tup []],go (aA (VY (λb=>R.ok (b,_)) (beq_iff_eq.mpr ⋯)) (ae rfl)),[48],.nil,rfl,by simp,by simp,nP _,VL _]
 have rest:∀(x6 x8 x9:Option Dt)(w:List Nat)(f:TM),w≠[]->w.length<=3*n+20->FN (d+2) f->(val f).length<=r->∃y,fin (az (ai fs (N-1)) (.cons (.asg 10 (.call 21 (.cons (.var 0) (.cons (.bin .Add (.var 1) (.con (.int 5))) .nil)) [])) (.cons (.ifs (.cmp .Eq (.var 10) (.con (.int 0))) (.cons (.ret (.var 7)) .nil) .nil) (.cons (.ret (.lst (.cons (.bin .Add (.bi .str (.cons (.var 10) .nil)) (.idx (.var 7) (.con (.int 0)))) (.cons (.call 20 (.cons (.var 10) (.cons (.idx (.var 7) (.con (.int 1))) .nil)) []) .nil)))) .nil)))
   [U (.aW ns),U (.int κ),U (.int k),U nm,U sg,U (.int way),x6,U (.lst [.str (tx w),fD f]),x8,x9,y'] y')= .ok (y,y')/\LW (3*n+40) r (d+2) y:=λx6 x8 x9 w f w1 w2 f1 f2=>by
  obtain⟨m,m1,m2⟩:=yh (ns:=ns) (N:=N-1) (k:=κ+5) ⋯ ⋯;have m1:ai fs (N-1) 21 [.aW ns,.int ((κ:Int)+5)] y'=_:=m1;by_cases cm:m=0
  ·refine#[.lst [.str (tx w),fD f],ao (d:=.int m) (VY (R.bind · _) m1) rfl (aA (by simp only[RX,List.set];rw[beq_iff_eq.mpr ⋯]) (ae rfl)),w,f,rfl,w1,⋯,f1,f2]
  ·have pin:HM (m:Nat):=#[⋯,⋯];obtain⟨sw,s1,s2,s3⟩:=C8 m2;have ht:=mw (N:=N-1) ⋯ pin f1;have cat:=bO sw w ⋯;refine#[.lst [.str (tx (sw++w)),fD (.times m f)],ao (d:=.int m) (VY (R.bind · _) m1) rfl (au (by simp only[RX,List.set];rw[VW.mpr ⋯]) (ae ?_)),sw++w,.times m f,rfl,by simp[w1],by rw[TK];lia,qx f1 ⋯,?_]
   ·show ev (ai fs (N-1)) _ [U (.aW ns),U (.int κ),U (.int k),U nm,U sg,U (.int way),x6,U (.lst [.str (tx w),fD f]),x8,x9,U (.int m)] y'=_;have i0:bB (.lst [.str (tx w),fD f]) (.int 0)= .ok (.str (tx w)):=rfl;have i1:bB (.lst [.str (tx w),fD f]) (.int 1)= .ok (fD f):=rfl;rw[fT];simp only[RX,s1,i0,i1,cat,ht];rfl
   ·show (mulR m (.tup (val f))).length<=r;unfold mulR;rw[Tw];exact f2
 have f0:aQ (ai fs (N-1)) (.cmp .Eq (.var 5) (.con (.int 0))) [U (.aW ns),U (.int κ),U (.int k),U nm,U sg,U (.int way),y',y',y',y',y'] y'= .ok (G',y'):=by simp only[RX];rw[VW.mpr ⋯]
 by_cases c3:way<3
 ·have p2:=bW dZ (n:=N-1) ⋯ (ns:=ns) (k:=κ+3) (many:=3) ⋯ (by decide);have l2:=aZ (ns:=ns) (k:=κ+3) (many:=3) (by decide);have p2:ai fs (N-1) 12 [.aW ns,.int ((κ:Int)+3),.int 3] y'=_:=p2;generalize bg ns (κ+3) 3=q at p2 l2;obtain⟨w,w0,w1,w2⟩:=D8 rH l2;obtain⟨y,y1,y2⟩:=rest (U (.str (tx w))) y' y' w (.any w) w1 ⋯ (nQ rfl (.inl #[_,rfl])) h1;refine#[y,go (au f0 (aA (VY (λb=>R.ok (b,_)) (T5 ⋯)) (ao (d:=.str (tx w)) (by simp only[RX,p2,w0]) rfl (ao (d:=.lst [.str (tx w),fD (.any w)]) ?_ rfl y1)))),y2];rw[qQ];rfl
 have f3:aQ (ai fs (N-1)) (.cmp .Lt (.var 5) (.con (.int 3))) [U (.aW ns),U (.int κ),U (.int k),U nm,U sg,U (.int way),y',y',y',y',y'] y'= .ok (G',y'):=by simp only[RX];rw[T1 ⋯]
 by_cases c6:way<6\/k=0
 ·obtain⟨y0,t1,w,f,rfl,t2,t3,t4,t5⟩:=sW (N:=N-1) ⋯ uu ⋯ hr ⋯ (hT (N-1-1) ⋯) hκ (nm:=nm) (ns:=ns);obtain⟨y,y1,y2⟩:=rest y' y' y' w f t2 t3 t4 ⋯;refine#[y,go (au f0 (au f3 (aA ?_ (ao (d:=.lst [.str (tx w),fD f]) (VY (R.bind · _) t1) rfl y1)))),y2];simp only[RX];rcases c6 with c|c
  ·rw[T5 ⋯];rfl
  ·subst c;cases decide ((way:Int)<6)<;>rfl
 ·have hk:0<k:=⋯
  have nx:=om (fs:=fs) (i:=16) rfl (n:=N-1) ⋯ (k:=κ) (j:=9);have nx:ai fs (N-1) 16 [.int κ,.int 9] y'=_:=nx;obtain⟨y0,t1,w,f,rfl,t2,t3,t4,t5⟩:=hT (N-1) ⋯ hk (kP κ 9) (Nat.lt_trans kQ (by decide));have eo:("(":Str)=tx [40]:=rfl;have ec:(")":Str)=tx [41]:=rfl;have k1:=bO [40] w (by rw[Vd];lia);have k2:=bO ([40]++w) [41] (by rw[TK,Vd,Vd];lia);obtain⟨y,y1,y2⟩:=rest y' (U (.str (tx w))) (U (fD f)) ([40]++w++[41]) f (by simp) (by rw[TK,TK,Vd,Vd];lia) (t4.mono (Tr _) (λ_ h=>h) ⋯) t5;refine#[y,go (au f0 (au f3 (au ?_ (aN (ρ1:=[U (.aW ns),U (.int κ),U (.int k),U nm,U sg,U (.int way),y',y',U (.str (tx w)),U (fD f),y']) ?_ (ao (d:=.lst [.str (tx ([40]++w++[41])),fD f]) ?_ rfl y1))))),y2]
  ·simp only[RX];rw[T1 ⋯,VW.mpr ⋯];rfl
  ·rw[fH];simp only[RX,nx,t1];rfl
  ·simp only[RX,eo,ec,k1,k2]
theorem sj{N n r d c:Nat}{k:Nat}(hN:6<=N)(rH:W3 nm)(uu:W3 sg)(hd:d<=18)(h1:1<=r)(hr:r<=600)(hn:4*(n+3)<=300000)(hc:bB (.lst [.int 2,.int 2,.int 3,.int 4]) (.int k)= .ok (.int c))(DH:0<c)(NT:c<=4)(hT:∀M,N-3<=M->0<k->TX ns nm sg M n r (d+1) ((k:Int)-1)){κ:Nat}(hκ:κ<10000):
  ∃ds,ai fs N 24 [.aW ns,.int κ,.int k,nm,sg] y'= .ok (.lst ds,y')/\ds≠[]/\ds.length<=c/\∀x∈ds,LW (3*n+40) r (d+2) x:=by
 have start:∀{rr:R (Dt×Sx)},fin (az (ai fs (N-1)) M1 [U (.aW ns),U (.int κ),U (.int k),U nm,U sg,y'] y')=rr->ai fs N 24 [.aW ns,.int κ,.int k,nm,sg] y'=rr:=λh=>ax (body:=M1) rfl ⋯ rfl h
 have p1:=bW dZ (n:=N-1) ⋯ (ns:=ns) (k:=κ) (many:=c) ⋯ DH;have l1:=aZ (ns:=ns) (k:=κ) (many:=c) DH;generalize bg ns κ c=q at p1 l1;obtain⟨ds,c1,c2,c3⟩:∃ds,bU (cC (.nm 1) (dS (ai fs (N-1)) .nil) (f7 (ai fs (N-1)) (.call 23 (.cons (.var 5) (.cons (.call 16 (.cons (.var 3) (.cons (.var 1) .nil)) []) (.cons (.var 2) (.cons (.var 4) (.cons (.var 6) .nil))))) []))
   [y',y',U (.int k),U (.int κ),U nm,U (.aW ns),U sg]) (bL 0 (1+q)) y'= .ok (ds,y')/\ds.length=(bL 0 (1+q)).length/\∀d'∈ds,LW (3*n+40) r (d+2) d':=by
  refine j9 λx hx=>?_
  obtain⟨j,rfl,hj⟩:∃j:Nat,x= .int j/\j<1+q:=by obtain⟨i,hi,rfl⟩:=Ub.mp hx;exact#[i,by simp,Uq.mp hi]
  have nx:=om (fs:=fs) (i:=16) rfl (n:=N-1) ⋯ (k:=κ) (j:=j);obtain⟨y,y1,y2⟩:=wB (N:=N-1) ⋯ rH uu hd h1 hr hn (λM hM=>hT M ⋯) (κ:=kP κ j) (Nat.lt_trans kQ (by decide));refine#[y,iM (ρ1:=[y',U (.int j),U (.int k),U (.int κ),U nm,U (.aW ns),U sg]) rfl ?_ rfl,y2];simp only[RX,nx,y1]
 have c2:ds.length=1+q:=by rw[c2];simp[bL]
 have kz:=gY (F:=ai fs (N-1)) (cap:=[y',y',U 2,U 1,U 3,U 0,U 4]) (it:=.rng1 (.var 5)) (tg:=.nm 1) (cs:=.nil) (e:=.call 23 (.cons (.var 5) (.cons (.call 16 (.cons (.var 3) (.cons (.var 1) .nil)) []) (.cons (.var 2) (.cons (.var 4) (.cons (.var 6) .nil))))) [])
  (ρ:=[U (.aW ns),U (.int κ),U (.int k),U nm,U sg,U (.int ((1+q:Nat):Int))]) (S:=y') (ds:=bL 0 (1+q)) (kG rfl (by have:lim=1000000:=rfl;lia)) (by simp[bL];have:lim=1000000:=rfl;lia) rfl c1
 refine#[ds,start (ao (d:=.int ((1+q:Nat):Int)) ?_ rfl (ae kz)),λe=>by rw[e]at c2;simp at c2;lia,⋯,c3];simp only[RX];rw[show bB (.lst [.int 2,.int 2,.int 3,.int 4]) (.int (k:Int))=_ from hc];simp only[RX,p1];rw[UJ];rfl
theorem fY{N n r d c:Nat}{k:Nat}(hN:8<=N)(rH:W3 nm)(uu:W3 sg)(hd:d<=18)(h1:1<=r)(hr:5*r<=600)(hn:4*(n+3)<=200000)(hc:bB (.lst [.int 2,.int 2,.int 3,.int 4]) (.int k)= .ok (.int c))(DH:0<c)(NT:c<=4)(hT:∀M,N-4<=M->0<k->TX ns nm sg M n r (d+1) ((k:Int)-1)):
  TX ns nm sg N (c*(3*n+43)) (c*r) (d+2) k:=λκ hκ=>by
 obtain⟨ds,h2,h3,h4,h5⟩:=sj (N:=N-1) ⋯ rH uu hd h1 ⋯ ⋯ hc DH NT (λM hM=>hT M ⋯) hκ;obtain⟨y,y1,y2⟩:=wo (N:=N-1) (n:=3*n+40) (r:=r) (d:=d+1) (m:=c) ⋯ ⋯ hr ⋯ h3 h4 NT h5;refine#[y,ax (body:=M3) rfl ⋯ rfl ?_,y2];show fin (az (ai fs (N-1)) M3 [U (.aW ns),U (.int κ),U (.int k),U nm,U sg] y')=_;exact ae (by simp only[RX,h2,y1])
theorem Lk{N:Nat}(hN:30<=N)(rH:W3 nm)(uu:W3 sg):TX ns nm sg N 66736 48 5 3:=by
 have t0:∀M,8<=M->TX ns nm sg M 86 2 2 0:=λM hM=>fY (n:=0) (r:=1) (d:=0) (c:=2) (k:=0) hM rH uu (by decide) (by decide) (by decide) (by decide) rfl (by decide) (by decide) (λ_ _ h=>absurd h (by decide))
 have t1:∀M,12<=M->TX ns nm sg M 602 4 3 1:=λM hM=>fY (n:=86) (r:=2) (d:=1) (c:=2) (k:=1) ⋯ rH uu (by decide) (by decide) (by decide) (by decide) rfl (by decide) (by decide) (λM' h _=>t0 M' ⋯)
 have t2:∀M,16<=M->TX ns nm sg M 5547 12 4 2:=λM hM=>fY (n:=602) (r:=4) (d:=2) (c:=3) (k:=2) ⋯ rH uu (by decide) (by decide) (by decide) (by decide) rfl (by decide) (by decide) (λM' h _=>t1 M' ⋯)
 exact fY (n:=5547) (r:=12) (d:=3) (c:=4) (k:=3) ⋯ rH uu (by decide) (by decide) (by decide) (by decide) rfl (by decide) (by decide) (λM' h _=>t2 M' ⋯)
end
def SG:Str:="abzAZ0123456789()()+ ,, ++  xyXY1020.-_*[\n"
theorem sQ{ns:List Int}{N κ:Nat}(hN:4<=N)(hκ:κ<100000){z:List Nat}(h0:z≠[])(hz:z.length<=900):∃v:List Nat,ai fs N 35 [.aW ns,.int κ,.str (tx z)] y'= .ok (.str (tx v),y')/\v.length<=950:=by
 have v7:lim=1000000:=rfl;have hpos:=List.length_pos_iff.mpr h0;have start:∀{rr:R (Dt×Sx)},fin (az (ai fs (N-1)) Nc [U (.aW ns),U (.int κ),U (.str (tx z)),y',y',y',y',y'] y')=rr->ai fs N 35 [.aW ns,.int κ,.str (tx z)] y'=rr:=λh=>ax (body:=Nc) rfl ⋯ rfl h
 have hlen:=zm (z:=z) ⋯;have p1:=bW dZ (n:=N-1) ⋯ (ns:=ns) (k:=κ) (many:=z.length) ⋯ hpos;have l1:=aZ (ns:=ns) (k:=κ) (many:=z.length) hpos;generalize bg ns κ z.length=at' at p1 l1;have p2:=bW dZ (n:=N-1) ⋯ (ns:=ns) (k:=κ+1) (many:=9) ⋯ (by decide);have l2:=aZ (ns:=ns) (k:=κ+1) (many:=9) (by decide);have p2:ai fs (N-1) 12 [.aW ns,.int ((κ:Int)+1),.int 9] y'=_:=p2;generalize bg ns (κ+1) 9=q at p2 l2;have uu:SG.length=42:=by decide
 have p3:=bW dZ (n:=N-1) ⋯ (ns:=ns) (k:=κ+2) (many:=42) ⋯ (by decide);have l3:=aZ (ns:=ns) (k:=κ+2) (many:=42) (by decide);have p3:ai fs (N-1) 12 [.aW ns,.int ((κ:Int)+2),.int 42] y'=_:=p3;generalize bg ns (κ+2) 42=s at p3 l3;have p4:=bW dZ (n:=N-1) ⋯ (ns:=ns) (k:=κ+3) (many:=7) ⋯ (by decide);have l4:=aZ (ns:=ns) (k:=κ+3) (many:=7) (by decide);have p4:ai fs (N-1) 12 [.aW ns,.int ((κ:Int)+3),.int 7] y'=_:=p4;generalize bg ns (κ+3) 7=way at p4 l4;obtain⟨c,hc⟩:=ux (z:=SG) (k:=s) ⋯ ⋯;have hc:bB (.str SG) (.int s)= .ok (.str (tx [c])):=hc;have E7:dw .len [.str SG]= .ok (.int 42):=by have:=len_str (z:=SG) ⋯;rw[this,uu];rfl
 have go:=λ {rr:R (Dt×Sx)} (h:fin (az (ai fs (N-1)) _ [U (.aW ns),U (.int κ),U (.str (tx z)),U (.int at'),U (.int ((1+q:Nat):Int)),U (.str SG),U (.str (tx [c])),U (.int way)] y')=rr)=>
  start (ao (d:=.int at') (by simp only[RX,hlen,p1]) rfl (ao (d:=.int ((1+q:Nat):Int)) (by simp only[RX,List.set,p2];rw[UJ];rfl) rfl (ao (d:=.str SG) rfl rfl (ao (d:=.str (tx [c])) (by simp only[RX,List.set,E7,p3,hc]) rfl (ao (d:=.int way) (by simp only[RX,List.set,p4]) rfl h)))))
 have H:∀j:Nat,fm (.str (tx z)) y' (U (j:Int))= .ok (.str (tx (z.take j))):=λj=>by rw[iG (z:=tx z) (lo:=y') (hi:=U (j:Int)) (by rw[aO];lia),kc,bD]
 have D:∀j:Nat,fm (.str (tx z)) (U (j:Int)) y'= .ok (.str (tx (z.drop j))):=λj=>by rw[iG (z:=tx z) (lo:=U (j:Int)) (hi:=y') (by rw[aO];lia),kb,bD]
 have ix:bB (.str (tx z)) (.int at')= .ok (.str (tx [z.getD at' 0])):=by rw[fz (d:=0) (by rw[aO];lia) (by rw[aO];exact l1),bD];rfl
 have e1:((at':Int)+1)=((at'+1:Nat):Int):=⋯
 have e2:((at':Int)+2)=((at'+2:Nat):Int):=⋯
 have e3:((at':Int)+((1+q:Nat):Int))=((at'+(1+q):Nat):Int):=⋯
 have tk:∀j,(z.take j).length<=900:=λj=>by rw[Ve];lia
 have dr:∀j,(z.drop j).length=z.length-j:=λj=>U7
 have tl:∀j,(z.take j).length<=j:=λj=>by rw[Ve];lia
 by_cases w1:way<2
 ·refine#[z.take at'++[c]++z.drop at',go (aA (VY (λb=>R.ok (b,_)) (T5 ⋯)) (ae ?_)),?_]
  ·have k1:=bO (z.take at') [c] (by have:=tk at';rw[Vd];lia);have k2:=bO (z.take at'++[c]) (z.drop at') (by have:=tk at';have:=dr at';rw[TK,Vd];lia);simp only[RX,H,D,k1,k2]
  ·have:=tl at';have:=dr at';rw[TK,TK,Vd];lia
 have f1:aQ (ai fs (N-1)) (.cmp .Lt (.var 7) (.con (.int 2))) [U (.aW ns),U (.int κ),U (.str (tx z)),U (.int at'),U (.int ((1+q:Nat):Int)),U (.str SG),U (.str (tx [c])),U (.int way)] y'= .ok (G',y'):=by simp only[RX];rw[T1 ⋯]
 have PL:∀j:Nat,aQ (ai fs (N-1)) (.cmp .Eq (.var 7) (.con (.int j))) [U (.aW ns),U (.int κ),U (.str (tx z)),U (.int at'),U (.int ((1+q:Nat):Int)),U (.str SG),U (.str (tx [c])),U (.int way)] y'= .ok (decide (way=j),y'):=λj=>by
  simp only[RX];by_cases c:way=j
  ·rw[T5 c,beq_iff_eq.mpr ⋯]
  ·rw[T1 c,VW.mpr ⋯]
 have T:=λ {j:Nat} (h:way=j)=>(T5 h▸PL j:aQ (ai fs (N-1)) (.cmp .Eq (.var 7) (.con (.int j))) _ y'= .ok (B',y'))
 have Fa:=λ {j:Nat} (h:¬way=j)=>(T1 h▸PL j:aQ (ai fs (N-1)) (.cmp .Eq (.var 7) (.con (.int j))) _ y'= .ok (G',y'))
 by_cases w2:way=2
 ·refine#[z.take at'++[c]++z.drop (at'+1),go (au f1 (aA (T w2) (ae ?_))),?_]
  ·have k1:=bO (z.take at') [c] (by have:=tk at';rw[Vd];lia);have k2:=bO (z.take at'++[c]) (z.drop (at'+1)) (by have:=tk at';have:=dr (at'+1);rw[TK,Vd];lia);simp only[RX,H,e1,D,k1,k2]
  ·have:=tl at';have:=dr (at'+1);rw[TK,TK,Vd];lia
 by_cases w3:way=3
 ·refine#[z.take at'++z.drop (at'+1),go (au f1 (au (Fa w2) (aA (T w3) (ae ?_)))),?_]
  ·have k1:=bO (z.take at') (z.drop (at'+1)) (by have:=tk at';have:=dr (at'+1);lia);simp only[RX,H,e1,D,k1]
  ·have:=tl at';have:=dr (at'+1);rw[TK];lia
 by_cases w4:way=4
 ·have hb:=dF (F:=ai fs (N-1)) (S:=y') (ρ:=[U (.aW ns),U (.int κ),U (.str (tx z)),U (.int at'),U (.int ((1+q:Nat):Int)),U (.str SG),U (.str (tx [c])),U (.int way)]) (a:=.var 2) (l:=.bin .Add (.var 3) (.con (.int 1))) (h:=.bin .Add (.var 3) (.con (.int 2))) (z:=z) (i:=at'+1) (j:=at'+2) ⋯ ⋯ (by simp only[RX]) (by simp only[RX,e1]) (by simp only[RX,e2]);generalize hm:(z.drop (at'+1)).take (at'+2-(at'+1))=mid at hb;have S4:mid.length<=1:=by rw[<-hm,Ve];lia
  refine#[z.take at'++mid++[z.getD at' 0]++z.drop (at'+2),go (au f1 (au (Fa w2) (au (Fa w3) (aA (T w4) (ae ?_))))),?_]
  ·have k1:=bO (z.take at') mid (by have:=tk at';lia);have k2:=bO (z.take at'++mid) [z.getD at' 0] (by have:=tk at';rw[TK,Vd];lia);have k3:=bO (z.take at'++mid++[z.getD at' 0]) (z.drop (at'+2)) (by have:=tk at';have:=dr (at'+2);rw[TK,TK,Vd];lia);simp only[RX,H,hb,k1,ix,k2,e2,D,k3]
  ·have:=tl at';have:=dr (at'+2);rw[TK,TK,TK,Vd];lia
 by_cases w5:way=5
 ·refine#[z.take (at'+(1+q))++z.drop at',go (au f1 (au (Fa w2) (au (Fa w3) (au (Fa w4) (aA (T w5) (ae ?_)))))),?_]
  ·have k1:=bO (z.take (at'+(1+q))) (z.drop at') (by have:=tk (at'+(1+q));have:=dr at';lia);simp only[RX,e3,H,D,k1]
  ·have:=tl (at'+(1+q));have:=dr at';rw[TK];lia
 ·refine#[z.take at'++z.drop (at'+(1+q)),go (au f1 (au (Fa w2) (au (Fa w3) (au (Fa w4) (au (Fa w5) (ae ?_)))))),?_]
  ·have k1:=bO (z.take at') (z.drop (at'+(1+q))) (by have:=tk at';have:=dr (at'+(1+q));lia);simp only[RX,H,e3,D,k1]
  ·have:=tl at';have:=dr (at'+(1+q));rw[TK];lia
def IC:Ts:=.cons (.ifs (.nt (.call 34 (.cons (.call 35 (.cons (.var 0) (.cons (.var 3) (.cons (.var 1) .nil))) []) .nil) [])) (.cons (.ret (.con (.bl G'))) .nil) .nil) .nil
theorem law_true:∀ns:List Int,ns.length<=63->∃S,ai fs 120 36 [.aW ns] y'= .ok (.bl B',S):=λns JE=>by
 have v7:lim=1000000:=rfl;refine#[y',ax (body:=Nd) rfl (by decide) rfl ?_];show fin (az (ai fs 119) Nd [U (.aW ns),y',y',y'] y')=_;obtain⟨nm,n1,n2⟩:=names14 (ns:=ns) (N:=119) (by decide);obtain⟨sg,g1,g2⟩:=names15 (ns:=ns) (N:=119) (by decide);obtain⟨y,t1,w,f,rfl,w1,w2,w3,w4⟩:=Lk (ns:=ns) (nm:=nm) (sg:=sg) (N:=119) (by decide) n2 g2 7 (by decide);have t1:ai fs 119 25 [.aW ns,.int 7,.int 3,nm,sg] y'=_:=t1;have hlen:dw .len [.str (tx w)]= .ok (.int w.length):=by have:=len_str (z:=tx w) (by rw[aO];lia);rwa [aO]at this
 refine aN (ρ1:=[U (.aW ns),U (.str (tx w)),U (fD f),y']) (by rw[fH];simp only[RX,n1,g1,t1];rfl) ?_;by_cases c:900<w.length
 ·have e:decide ((900:Int)<(w.length:Int))=B':=T5 ⋯;refine aA ?_ (ae ?_)
  ·simp only[RX,hlen,e];rfl
  ·simp only[RX,hlen,e]
 have hw:w.length<=900:=⋯
 have hr:=qm (z:=w) ⋯ (N:=119) (by decide);refine au ?_ ?_
 ·simp only[RX,hlen];rw[T1 ⋯];simp only[RX,hr];rfl
 obtain⟨j,hj,Ia,Ba⟩:∃j:Int,(if (if (ns.length:Int)<60 then(ns.length:Int) else 60)>25 then(if (ns.length:Int)<60 then(ns.length:Int) else 60) else 25)=j/\0<=j/\j<=63:=by refine#[_,rfl,?_,?_]<;>split<;>(try split)<;>lia
 have hs:Mx.et 5 j 5<=300:=by unfold Mx.et Builtin.Range.rangeSize;rw[V2 (by decide)];split<;>lia
 have it:eI (ai fs 119) (.rng3 (.con (.int 5)) (.bi .max2 (.cons (.con (.int 25)) (.cons (.bi .min2 (.cons (.con (.int 60)) (.cons (.bi .len (.cons (.var 0) .nil)) .nil))) .nil))) (.con (.int 5))) [U (.aW ns),U (.str (tx w)),U (fD f),y'] y'= .ok (jy 5 5 (Mx.et 5 j 5),y'):=by rw[k8];simp only[RX,hj];rw[T5 (show (5:Int).natAbs<=lim by decide),T5 (show j.natAbs<=lim by lia)];rfl
 have loop:=dW (S:=y') (tg:=.nm 3) (body:=az (ai fs 119) IC) (ds:=jy 5 5 (Mx.et 5 j 5)) (ρ:=[U (.aW ns),U (.str (tx w)),U (fD f),y'])
  (λ_ ρ=>∃y3,ρ=[U (.aW ns),U (.str (tx w)),U (fD f),y3]) #[y',rfl] (by
   rintro pre d post ρ e ⟨y3,rfl⟩;have hd:d∈jy 5 5 (Mx.et 5 j 5):=by rw[e];simp
   unfold jy at hd;obtain⟨i,hi,rfl⟩:=Ub.mp hd;have hi:=Uq.mp hi;obtain⟨v,v1,v2⟩:=sQ (ns:=ns) (N:=119) (κ:=5+5*i) (by decide) ⋯ w1 hw;have hv:=qm (z:=v) v2 (N:=119) (by decide);have ek:(5:Int)+(i:Int)*5=((5+5*i:Nat):Int):=⋯
   rw[ek];refine#[_,_,rfl,rY (ρ:=[U (.aW ns),U (.str (tx w)),U (fD f),U (.int ((5+5*i:Nat):Int))]) ?_ rfl,U (.int ((5+5*i:Nat):Int)),rfl];simp only[RX,v1,hv];rfl)
 obtain⟨ρ',hl,y3,rfl⟩:=loop;exact dB (ds:=jy 5 5 (Mx.et 5 j 5)) it rfl hl (ae rfl)
end K13
end
end Lake
section
namespace PySem.W.Fast
def tw7488457578669673733:=0
def tw12323060508169244556:=0
def tw9840866827919690097:=0
def tw175670389061091544:=0
def tw14907072771865705728:=0
def tw8000815201929840344:=0
def tw10748454047004744285:=0
def tw6960761751068670710:=0
def tw15568847914039590063:=0
def tw12712791592788753973:=0
def tw13328566711330433976:=0
def tw15962405328455597282:=0
def tw16024534949640886882:=0
def tw5910558308870051305:=0
def tw15067979412069594893:=0
def tw9087392366734822252:=0
def tw5159618210107293200:=0
def tw16963667968234387585:=0
def tw5451839985879987149:=0
def tw3252306317460888920:=0
def tw16541701900401303149:=0
def tw12627304379795474946:=0
def tw18280755839868399964:=0
def tw11409846326508510598:=0
def tw6214099856937557536:=0
def tw14947287364774771958:=0
def tw13298701613537829751:=0
def tw13886366103029013012:=0
def tw15237577817732758025:=0
def tw312172373440277325:=0
def tw15124229296060179552:=0
def tw6746021385710727494:=0
def tw11493332518002773382:=0
def tw13571671984227368426:=0
def tw5928807266465258835:=0
def tw12538270538886066305:=0
def tw7046067922685937027:=0
def tw3410552595488838765:=0
def tw14558968139895493214:=0
def tw13400163479648646100:=0
def tw15817138567477869183:=0
def tw9519867244799802823:=0
def tw16695144895638382690:=0
def tw7212727672041132112:=0
def tw14956544136340204724:=0
def tw15665784894097815738:=0
def tw1127639321724258681:=0
def tw6403516964354542696:=0
def tw6976341556663400798:=0
def tw15052505853820753423:=0
def tw12366342322856190996:=0
def tw2034953899119366354:=0
def tw9033290608662132230:=0
def tw10402541162556366611:=0
def tw1463531234589521697:=0
def tw17129246416659323026:=0
def tw9605784124617044002:=0
def tw7936485313262411994:=0
def tw16734294928583826258:=0
def tw18385859813331340512:=0
def tw2627402398739694849:=0
def tw14890054071441427913:=0
def tw552162146998734471:=0
def tw10910310814462918337:=0
def tw17733846810320440962:=0
def tw7120598002761974872:=0
def tw3839693388800927629:=0
def tw13245614194812535918:=0
def tw4343818957580039259:=0
def tw8453807249944338425:=0
def tw3985252391072673252:=0
def tw4976840495248177840:=0
def tw15516858396134401383:=0
def tw14866508915717396397:=0
def tw17863783791566612966:=0
def tw8166586991129448642:=0
def tw1030793158299010391:=0
def tw17031502745583998916:=0
def tw14328375871815107161:=0
def tw1527561520730358536:=0
def tw15642863056156311271:=0
def tw7157834939635942399:=0
def tw1794690138862676840:=0
def tw18001249402639362175:=0
def tw1565061457096929983:=0
def tw1732605712037874517:=0
def tw7753377260438836699:=0
def tw3330820120189137427:=0
def tw7777485292926033083:=0
def tw7075660719856386055:=0
def tw6770498187240673595:=0
def tw9761078944504273825:=0
def tw8911234121218886797:=0
def tw6863436631616974424:=0
def tw3131079386646770059:=0
def tw16462901519621818191:=0
def tw1897043751301225250:=0
def tw17896587760158337809:=0
def tw12536057499075714262:=0
def tw13690919231042531513:=0
def tw11956132634204833060:=0
def tw10990048923748197048:=0
def tw10132939368444797084:=0
def tw14053353821358013576:=0
def tw7810814150442902058:=0
def tw17273290743455575516:=0
def tw3516517731826026387:=0
def tw4637313749893003367:=0
def tw4451818510733518375:=0
def tw15033318603327490320:=0
def tw10765704463646952912:=0
def tw17239386982702673839:=0
def tw11346210814858422146:=0
def tw5306339090250548389:=0
def tw18071269389003895445:=0
def tw9230066328230035408:=0
def tw2875334491196326013:=0
def tw2272010509693698497:=0
def tw17183131589776093137:=0
def tw9467197374254340023:=0
def tw1428603622912025020:=0
def tw3408084911225713310:=0
def tw7761494079838116222:=0
def tw1546323997250115463:=0
def tw5747699043256761293:=0
def tw17384935206909328260:=0
def tw10612277911123462864:=0
def tw17847778419469839833:=0
def tw9641098759327856590:=0
def tw18030680068872729239:=0
def tw10581747539696707351:=0
def tw11599039124840337336:=0
def tw8309798854932684456:=0
def tw2805171249847587808:=0
def tw1863530636715597933:=0
def tw8509346467104750755:=0
def tw448321701702208670:=0
def tw13408470089460255601:=0
def tw13122970324472948843:=0
def tw10762813144428457696:=0
def tw10496433953923308347:=0
def tw6549583025004369865:=0
def tw17848596851928560269:=0
def tw2830952167783422882:=0
def tw16297602932870808695:=0
def tw16162348825466816012:=0
def tw11220505305000378163:=0
def tw15772411099093592351:=0
def tw16804462710660142616:=0
def tw16509173730301686810:=0
def tw8678120835272639826:=0
def tw7512676587010113315:=0
def tw632743350510964227:=0
def tw17031251445225642402:=0
def tw10554485466637862687:=0
def tw17978310666005180228:=0
def tw10140801964417787402:=0
def tw10087602635270496838:=0
def tw3966680187315621160:=0
def tw12407873856256918035:=0
def tw9749287684510469114:=0
def tw9180822860109891110:=0
def tw15056800500404200760:=0
def tw513899583360598207:=0
def tw5481300054847130471:=0
def tw14739714142622469308:=0
def tw13544579863335588645:=0
def tw2256242638453831013:=0
def tw9793530968175060624:=0
def tw1890932828208201088:=0
def tw2466407870739726659:=0
def tw4933324939200231744:=0
def tw15754073844724181377:=0
def tw16261277787057294131:=0
def tw1316254350445959675:=0
def tw8791081987760104307:=0
def tw17306696412365617011:=0
def tw9045527743287347587:=0
def tw9935019344070739098:=0
def tw4320470063403942729:=0
def tw4692168177624930736:=0
def tw2655330462758212267:=0
def tw15640904933397288048:=0
def tw6455552263320139803:=0
def tw6834311593879228449:=0
def tw15868250714023464796:=0
def tw13073833698298801748:=0
def tw16171162103826591957:=0
def tw13088520111694876303:=0
def tw4787882527878797084:=0
end PySem.W.Fast
open PySem PySem.W PyProof.Rows Lake.Rx
set_option maxHeartbeats 0 in
theorem PySem.Challenge.cw_mixform_k13_read_as_written_holds : PySem.Challenge.rw_mixform_k13_read_as_written.Holds := by
 w_on;o_law;k_head;(case hw=>w_witness2)
 k_fill
 refine walkR (k:=120) (l:=PySem.Challenge.rw_mixform_k13_read_as_written) rfl rfl #[rfl,by decide,by decide] (λw h Y=>kIn_of Y) ?F
 case F=>
  intro w mg fa h KX G hmg;refine law_mk (rs:=Lake.K13.rows) (cons:=Lake.K13.cons) (bls:=Lake.K13.bls) (xs:=Lake.K13.xs) (L:=36) (n:=119) KX G hmg rfl Lake.K13.hok Lake.K13.hfs (λs v _ _ _ _ _ _=>.of_eq rfl) Lake.K13.law_true ?B ?C ?D ?E
  case B=>exact#[by k_is,by k_is,by k_is,by k_is,by k_is,by k_is,by k_is,by k_is,by k_is,by k_is,by k_is,by k_is,trivial]
  case C=>exact#[#[_,by k_is,rfl,by first|rfl|exact#[_,rfl]],#[_,by k_is,rfl,by first|rfl|exact#[_,rfl]],#[_,by k_is,rfl,by first|rfl|exact#[_,rfl]],#[_,by k_is,rfl,by first|rfl|exact#[_,rfl]],#[_,by k_is,rfl,by first|rfl|exact#[_,rfl]],trivial]
  case D=>
   refine#[?_,?_,?_,?_,?_,?_,?_,?_,?_,?_,?_,?_,?_,?_,?_,?_,?_,?_,?_,?_,?_,?_,?_,?_,?_,?_,?_,?_,?_,?_,?_,?_,?_,?_,?_,?_,?_,trivial]
   all_goals exact#[_,_,_,_,_,_,_,_,_,_,_,by k_is,by k_is,by k_is,by k_is,λ_=>rfl,binds0 (by repeat first|exact len0 rfl|refine lenS λ_=>?_)]
  case E=>exact#[#[_,by k_is,by k_exc,#[by k_is,by k_is,by k_is,by k_is,by k_is,by k_is,by k_is],#[#[_,.inl #[by k_is,_,rfl],by kit_is,λ_=>by kts_exm],#[_,.inl #[by k_is,_,rfl],by kit_is,nofun],#[_,.inl #[by k_is,_,rfl],by kit_is,nofun],#[_,.inl #[by k_is,_,rfl],by kit_is,λ_=>by kts_exm],#[_,.inl #[by k_is,_,rfl],by kit_is,nofun],#[_,.inr #[by k_is,rfl,rfl],by kit_is,λ_=>by kts_exm],trivial]],trivial]
end