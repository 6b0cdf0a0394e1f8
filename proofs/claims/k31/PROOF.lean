import PyProof.Rows.All
import Wide.All
import OpenK.AllK
import Wide.FinOn
import Lean
import PyProof.EqAt
import PyProof.EqKinds
import PyProof.TupleCall
import PyProof.NeKinds
import PyProof.AttrMissHeap
import KE.KDictOf
import PyProof.ExcBaseAll.ValueError
import KE.KTryMore
import PyProof.Rows.CallKwBuiltin
import PySem.Challenge.RW_mixform_k31_put_in
set_option Elab.async false
set_option linter.all false
set_option maxRecDepth 100000
set_option maxHeartbeats 4000000
set_option bootstrap.genMatcherCode false
section
open PySem PySem.W PySem.Spec PyProof.Rows
def Qb:=@wpAny_bind
def Qc:=@Option.bind_eq_some_iff
def Qd:=@Heap.get?_push_of_some
def Qe:=@wpAny_pure
def Qf:=@Bool.and_eq_true
def Qg:=@List.size_toArray
def Qh:=@of_decide_eq_true
def Qi:=@List.getElem?_eq_some_iff
def Qj:=@List.mem_cons_of_mem
def Qk:=@kasC_bind
def Ql:=@Nat.le_refl
def Qm:=@List.mem_cons_self
def Qn:=@Heap.get?_push_size
def Qo:=@kasC_pure
def Qp:=@List.length_map
def Qq:=@Heap.lt_size
def Qr:=@Nat.le_trans
def Qs:=@List.mem_cons
def Qt:=@List.not_mem_nil
def Qu:=@List.append_assoc
def Qv:=@Option.map_eq_some_iff
def Qw:=@List.length_append
def Qx:=@List.getElem?_set_ne
def Qy:=@List.length_cons
def Qz:=@List.getElem?_map
def QA:=@Array.length_toList
def QB:=@Nat.lt_of_lt_of_le
def QC:=@List.mem_append
def QD:=@eq_of_beq
def QE:=@List.getElem?_eq_getElem
def QF:=@decide_eq_false
def QG:=@List.lookup_cons
def QH:=@KeyOrd.kle_trans
def QI:=@Heap.get?_update_other
def QJ:=@decide_eq_true
def QK:=@Heap.size_push
def QL:=@Nat.ne_of_lt
def QM:=@List.mem_append_right
def QN:=@wpAny_setField_rec
def QO:=@List.mem_singleton
def QP:=@List.mem_map
def QQ:=@List.all_eq_true
def QR:=@List.any_eq_true
def QS:=@Int.emod_nonneg
def QT:=@Int.emod_lt_of_pos
def QU:=@List.append_nil
def QV:=@Bool.or_eq_true
def QW:=@List.getElem?_append_left
def QX:=@List.getElem?_append_right
def QY:=@List.map_cons
def QZ:=@List.map_append
def Q0:=@List.getElem?_set_self
def Q1:=@List.mem_range
end
section
namespace L2
open PySem PySem.Spec PyProof.Rows
noncomputable abbrev Key:=Sum Int Str
noncomputable def sY:Key->Value->Bool
 | .inl k,v=>Value.isInt k v
 | .inr x,v=>Value.isStrOf x v
noncomputable def Lp (w:World):Key->Int
 | .inl k=>hashInt k
 | .inr x=>hashStr w x
theorem bj:∀{k:Key} {v:Value},sY k v=true->(∃i t,k=Sum.inl i/\v=Value.int i t)\/(∃x t,k=Sum.inr x/\v=Value.str x t)
 | .inl i,v,h=>by obtain⟨t,e⟩:=Value.isInt_shape (k:=i) (v:=v) h;exact .inl ⟨i,t,rfl,e⟩
 | .inr x,v,h=>by obtain⟨t,e⟩:=Value.isStrOf_shape (x:=x) (v:=v) h;exact .inr ⟨x,t,rfl,e⟩
theorem uS (x:Str) (t:Tok):sY (.inr x) (.str x t)=true:=by simp[sY,Value.isStrOf]
theorem DD (a b:Int):decide ((Sum.inl a:Key)=Sum.inl b)=(a==b):=by
 by_cases e:a=b
 ·subst e;simp
 ·have h:¬(Sum.inl a:Key)=Sum.inl b:=λq=>e (Sum.inl.inj q)
  rw[QF h];exact(beq_eq_false_iff_ne.mpr e).symm
theorem DG (a b:Str):decide ((Sum.inr a:Key)=Sum.inr b)=decide (a=b):=by
 by_cases e:a=b
 ·subst e;simp
 ·have h:¬(Sum.inr a:Key)=Sum.inr b:=λq=>e (Sum.inr.inj q)
  rw[QF h,QF e]
theorem DE (a:Int) (b:Str):decide ((Sum.inl a:Key)=Sum.inr b)=false:=QF (λq=>nomatch q)
theorem DF (a:Str) (b:Int):decide ((Sum.inr a:Key)=Sum.inl b)=false:=QF (λq=>nomatch q)
noncomputable def cw (prog:Program) (w:World):PySem.KeyKind prog w Key where
 is:=sY
 hash:=Lp w
 inj:=λv a b ha hb=>by
  rcases bj ha with ⟨i,t,rfl,rfl⟩ | ⟨x,t,rfl,rfl⟩
  ·rcases bj hb with ⟨j,u,rfl,e⟩ | ⟨y,u,rfl,e⟩
   ·injection e with e1 _;rw[e1]
   ·exact nomatch e
  ·rcases bj hb with ⟨j,u,rfl,e⟩ | ⟨y,u,rfl,e⟩
   ·exact nomatch e
   ·injection e with e1 _;rw[e1]
 byValue:=λk v h=>by rcases bj h with ⟨i,t,rfl,rfl⟩ | ⟨x,t,rfl,rfl⟩ <;> rfl
 pyHash:=λhv h=>by
  rcases bj hv with ⟨i,t,rfl,rfl⟩ | ⟨x,t,rfl,rfl⟩
  ·exact wpAny_pyHash_int h
  ·exact wpAny_pyHash_str h
 eqBool:=λhu hv h=>by
  rcases bj hu with ⟨i,t,rfl,rfl⟩ | ⟨x,t,rfl,rfl⟩
  ·rcases bj hv with ⟨j,u,rfl,rfl⟩ | ⟨y,u,rfl,rfl⟩
   ·rw[DD] at h;exact wpAny_eqBool_int h
   ·rw[DE] at h;exact SeqAt.EqAt.int_str i t y u _ _ _ _ h
  ·rcases bj hv with ⟨j,u,rfl,rfl⟩ | ⟨y,u,rfl,rfl⟩
   ·rw[DF] at h;exact SeqAt.EqAt.str_int x t j u _ _ _ _ h
   ·rw[DG] at h;exact wpAny_eqBool_str h
 «strs»:=λk x t v h=>by
  rcases bj h with ⟨i,u,rfl,e⟩ | ⟨y,u,rfl,e⟩
  ·exact nomatch e
  ·injection e with e1 _;subst e1;cases v <;> rfl
theorem jf (prog:Program) (w:World) (x:Str) (t:Tok):(cw prog w).is (.inr x) (.str x t)=true:=uS x t
end L2
namespace L2
open PySem PySem.Spec PyProof.Rows
inductive V where
 | bb | bl (b:Bool) | int (i:Int) | str (x:Str) | CQ (b:Array UInt8) | zq (b:UInt64) | ref (a:Addr) | ty (n:String)
 deriving DecidableEq
noncomputable def RelV:V->Value->Prop
 | .bb,u=>u=Value.none
 | .bl b,u=>u=Value.bool b
 | .int i,u=>∃t,u=Value.int i t
 | .str x,u=>∃t,u=Value.str x t
 | .CQ b,u=>∃t,u=Value.bytes b t
 | .zq b,u=>∃t,u=Value.float b t
 | .ref a,u=>u=Value.ref a
 | .ty n,u=>u=Value.type n
noncomputable abbrev aw:List V->List Value->Prop:=Paired RelV
theorem aw.length {xs:List V} {us:List Value} (r:aw xs us):xs.length=us.length:=Paired.length r
theorem aw.get:∀{xs:List V} {us:List Value} {i:Nat} {x:V},aw xs us->xs[i]?=some x->∃u,us[i]?=some u/\RelV x u
 | _,_,_,_,.nil,e=>by simp at e
 | _,_,0,_,.cons r _,e=>by simp at e;subst e;exact⟨_,rfl,r⟩
 | _,_,i + 1,x,.cons _ t,e=>by obtain⟨u,h1,h2⟩:=aw.get (i:=i) (x:=x) t (by simpa using e);exact⟨u,by simpa using h1,h2⟩
theorem aw.set {x:V} {u:Value} (r:RelV x u):∀{xs:List V} {us:List Value} (i:Nat),aw xs us->aw (xs.set i x) (us.set i u)
 | _,_,_,.nil=> .nil
 | _,_,0,.cons _ t=> .cons r t
 | _,_,i + 1,.cons q t=> .cons q (aw.set r i t)
theorem aw.append:∀{xs ys:List V} {us ws:List Value},aw xs us->aw ys ws->aw (xs++ys) (us++ws)
 | _,_,_,_,.nil,s=>s
 | _,_,_,_,.cons r t,s=> .cons r (aw.append t s)
theorem aw.take:∀{xs:List V} {us:List Value} (n:Nat),aw xs us->aw (xs.take n) (us.take n)
 | _,_,0,_=> .nil
 | _,_,_ + 1,.nil=> .nil
 | _,_,n + 1,.cons r t=> .cons r (aw.take n t)
theorem aw.drop:∀{xs:List V} {us:List Value} (n:Nat),aw xs us->aw (xs.drop n) (us.drop n)
 | _,_,0,r=>r
 | _,_,_ + 1,.nil=> .nil
 | _,_,n + 1,.cons _ t=>aw.drop n t
noncomputable def zK:Option V->Option Value->Prop
 | some v,some u=>RelV v u
 | none,none=>True
 | _,_=>False
noncomputable def KV {κ:Type}:List (κ×V)->List (κ×Value)->Prop:=Paired λ(p:κ×V) (q:κ×Value)=>p.1=q.1/\RelV p.2 q.2
noncomputable def kV:Key->V
 | .inl i=> .int i
 | .inr x=> .str x
inductive HO where
 | lst (xs:List V)
 | tup (xs:List V)
 | dK (bq:List (Key×V)) | dT (bq:List (List Key×V))
 | set (S:Int->Bool) (n:Nat)
 | ins (C dx:Addr) (fs:List (Str×V))
 | own (x:Addr)
 | xd (fs:List (Str×V))
 | met (f x:Addr)
 | L5 (lo hi:Int)
 | sE (o:Obj) (u:HO)
 | vG (ps:Array Value)
 | ext (φ:Heap->Prop)
noncomputable abbrev Hp:=Addr->Option HO
noncomputable def upd (H:Hp) (a:Addr) (o:HO):Hp:=λb=>if b=a then some o else H b
theorem aE {H:Hp} {a:Addr} {o:HO}:upd H a o a=some o:=by unfold upd;rw[if_pos rfl]
theorem aG {H:Hp} {a b:Addr} {o:HO} (h:b≠a):upd H a o b=H b:=by unfold upd;rw[if_neg h]
theorem aW {H:Hp} {a b:Addr} {o:HO} (h:H a=some o) (h':H b=none):a≠b:=by intro e;subst e;rw[h] at h';cases h'
noncomputable def jS (h:Heap) (a:Addr) (items:Array Value):Prop:=∃o,h.get? a=some o/\o.cls= .type "tuple"/\∃n,o.data= .seq items n/\o.dict=none/\o.slots=#[]
theorem jS.is {h:Heap} {a:Addr} {items:Array Value}:jS h a items->IsTup h a items
 | ⟨o,a,b,n,c,_⟩=>⟨o,a,b,n,c⟩
theorem jS.new (h:Heap) (items:Array Value):jS (h.push {cls:= .type "tuple",data:= .seq items}) h.objs.size items:=⟨_,Qn _ rfl,rfl,_,rfl,rfl,rfl⟩
section
variable (P:Program) (w:World)
noncomputable def bw (H:Hp) (h:Heap) (a:Addr):HO->Prop
 | .lst xs=>xs.length<=sizeLine/\∃(its:List Value) (n:Nat),aw xs its/\h.get? a=some {cls:= .type "list",data:= .seq its.toArray n}
 | .tup xs=>xs.length<=sizeLine/\∃its:List Value,aw xs its/\jS h a its.toArray
 | .dK bq=>bq.length<=sizeLine/\(a==sysModules)=false/\∃vs,KV bq vs/\h.DictOf (cw P w) a vs
 | .dT bq=>bq.length<=sizeLine/\(a==sysModules)=false/\∃xs:List (List Key×Addr×Value),
   Paired (λ(p:List Key×V) (q:List Key×Addr×Value)=>p.1=q.1/\H q.2.1=some (.tup (p.1.map kV))/\RelV p.2 q.2.2) bq xs/\
   ∃o es ep,h.get? a=some o/\o.ExactDict/\o.data= .dict es ep/\es.toList=xs.map (entryOfKey (tupleKind (cw P w)))/\(xs.map (·.1)).Nodup
 | .set S n=>h.SetOf (intKind P w) a S n
 | .ins C dx fs=>H dx=some (.own a)/\fs.length<=1000/\dx≠a/\h.get? a=some (PySem.W.instObj C dx)/\
   ∃mA,h.Ns1 dx mA/\(∀f,zK (fs.lookup f) (mA f))/\PySem.Within mA (fs.map (·.1))
 | .own _=>∃o,h.get? a=some o
 | .xd fs=>∃mA,h.Ns1 a mA/\∀f,zK (fs.lookup f) (mA f)
 | .L5 lo hi=>∃t u v,h.get? a=some {cls:= .type "range",data:= .fields #[.int lo t,.int hi u,.int 1 v]}
 | .sE o u=>h.get? a=some o/\bw H h a u
 | .vG ps=>h.get? a=some {cls:= .none,data:= .fields ps}
 | .met f x=>h.get? a=some (PySem.W.methodObj (.ref f) (.ref x))
 | .ext φ=>φ h/\(∃o,h.get? a=some o)/\∀h1 h2:Heap,φ h1->(∀o,h1.get? a=some o->h2.get? a=some o)->φ h2
noncomputable def d9 (H:Hp) (h:Heap):Prop:=∀a o,H a=some o->bw P w H h a o
end
section
variable {P:Program} {w:World} {H H':Hp} {h h':Heap} {a:Addr} {o:HO}
theorem bw.lt (x:bw P w H h a o):a < h.objs.size:=by
 cases o with
 | lst xs=>obtain⟨_,_,_,_,e⟩:=x;exact Qq e
 | tup xs=>obtain⟨_,_,_,p⟩:=x;exact p.is.lt
 | dK bq=>obtain⟨_,_,_,_,o,_,_,e,_⟩:=x;exact Qq e
 | dT bq=>obtain⟨_,_,_,_,o,_,_,e,_⟩:=x;exact Qq e
 | set S n=>obtain⟨o,_,_,_,e,_⟩:=x;exact Qq e
 | ins C dx fs=>obtain⟨_,_,_,e,_⟩:=x;exact Qq e
 | own y=>obtain⟨_,e⟩:=x;exact Qq e
 | xd fs=>obtain⟨_,⟨_,_,_,e,_⟩,_⟩:=x;exact Qq e
 | L5 lo hi=>obtain⟨_,_,_,e⟩:=x;exact Qq e
 | sE ob u=>obtain⟨e,_⟩:=x;exact Qq e
 | vG ps=>exact Qq (show h.get? a=some _ from x)
 | met f y=>exact Qq (show h.get? a=some _ from x)
 | ext φ=>obtain⟨_,⟨_,e⟩,_⟩:=x;exact Qq e
theorem Paired.DN {α β:Type} {F G:α->β->Prop}:∀{l₁:List α} {l₂:List β},Paired F l₁ l₂->(∀a b,F a b->G a b)->Paired G l₁ l₂
 | _,_,.nil,_=> .nil
 | _,_,.cons r t,f=> .cons (f _ _ r) (Paired.DN t f)
theorem Paired.imp' {α β:Type} {F G:α->β->Prop} (f:∀a b,F a b->G a b) {l₁:List α} {l₂:List β} (r:Paired F l₁ l₂):Paired G l₁ l₂:=Paired.DN r f
theorem bw.nz (x:bw P w H h a o) (k:∀b u,(b=a\/H b=some (.own a))->h.get? b=some u->h'.get? b=some u)
  (ho:∀b,H b=some (.own a)->H' b=some (.own a)) (ht:∀b xs,H b=some (.tup xs)->H' b=some (.tup xs)):bw P w H' h' a o:=by
 induction o with
 | lst xs=>obtain⟨z,its,n,r,e⟩:=x;exact⟨z,its,n,r,k _ _ (.inl rfl) e⟩
 | tup xs=>obtain⟨z,its,r,ob,e,c⟩:=x;exact⟨z,its,r,ob,k _ _ (.inl rfl) e,c⟩
 | dK bq=>obtain⟨z,y,vs,r,ob,es,ep,e,c⟩:=x;exact⟨z,y,vs,r,ob,es,ep,k _ _ (.inl rfl) e,c⟩
 | dT bq=>obtain⟨z,y,xs,r,ob,es,ep,e,c⟩:=x;exact⟨z,y,xs,Paired.DN r λp q z=>⟨z.1,ht _ _ z.2.1,z.2.2⟩,ob,es,ep,k _ _ (.inl rfl) e,c⟩
 | set S n=>obtain⟨ob,es,ep,t,e,c⟩:=x;exact⟨ob,es,ep,t,k _ _ (.inl rfl) e,c⟩
 | ins C dx fs=>obtain⟨d,z,ne,e,mA,⟨od,es,ep,e2,c⟩,r⟩:=x;exact⟨ho _ d,z,ne,k _ _ (.inl rfl) e,mA,⟨od,es,ep,k _ _ (.inr d) e2,c⟩,r⟩
 | own y=>obtain⟨ob,e⟩:=x;exact⟨ob,k _ _ (.inl rfl) e⟩
 | xd fs=>obtain⟨mA,⟨od,es,ep,e,c⟩,r⟩:=x;exact⟨mA,⟨od,es,ep,k _ _ (.inl rfl) e,c⟩,r⟩
 | L5 lo hi=>obtain⟨t,u,v,e⟩:=x;exact⟨t,u,v,k _ _ (.inl rfl) e⟩
 | sE ob u ih=>obtain⟨e,q⟩:=x;exact⟨k _ _ (.inl rfl) e,ih q⟩
 | vG ps=>have e:h.get? a=some {cls:= .none,data:= .fields ps}:=x;show h'.get? a=some {cls:= .none,data:= .fields ps};exact k a _ (.inl rfl) e
 | met f y=>have e:h.get? a=some (PySem.W.methodObj (.ref f) (.ref y)):=x;show h'.get? a=some (PySem.W.methodObj (.ref f) (.ref y));exact k a _ (.inl rfl) e
 | ext φ=>obtain⟨p,⟨o,e⟩,st⟩:=x;exact⟨st _ _ p λo q=>k _ _ (.inl rfl) q,⟨o,k _ _ (.inl rfl) e⟩,st⟩
theorem d9.lt (x:d9 P w H h) (e:H a=some o):a < h.objs.size:=(x a o e).lt
theorem d9.fresh (x:d9 P w H h) (e:h.objs.size<=a):H a=none:=by
 cases q:H a with
 | none=>rfl
 | some u=>exact absurd (QB (x.lt q) e) (Nat.lt_irrefl _)
theorem d9.kept (x:d9 P w H h) (k:∀b u,h.get? b=some u->h'.get? b=some u):d9 P w H h':=λa o e=>
 (x a o e).nz (λb u _ q=>k b u q) (λ_ q=>q) λ_ _ q=>q
theorem d9.laid (x:d9 P w H h) (k:∀b u,h.get? b=some u->h'.get? b=some u) (hp:h.objs.size<=a) (new:bw P w (upd H a o) h' a o):d9 P w (upd H a o) h':=λb u e=>by
 have hn:=x.fresh hp;by_cases hb:b=a
 ·subst hb;rw[aE] at e;cases e;exact new
 ·rw[aG hb] at e;exact(x b u e).nz (λc v _ q=>k c v q) (λc q=>by rw[aG (aW q hn)];exact q) λc xs q=>by rw[aG (aW q hn)];exact q
end
noncomputable def Rd (H:Hp) (a:Addr) (u:HO):Prop:=H a=some u\/∃o,H a=some (.sE o u)
theorem Rd.ok {P:Program} {w:World} {H:Hp} {h:Heap} {a:Addr} {u:HO} (r:Rd H a u) (x:d9 P w H h):bw P w H h a u:=by
 rcases r with r | ⟨o,r⟩
 ·exact x a u r
 ·obtain⟨_,q⟩:=x a _ r;exact q
noncomputable def Jm:Option HO->Prop
 | some (.lst _)=>True
 | some (.dK _)=>True
 | some (.dT _)=>True
 | some (.set _ _)=>True
 | some (.ins _ _ _)=>True
 | some (.ext _)=>True
 | _=>False
section
variable {P:Program} {w:World} {H:Hp} {h h':Heap} {x e:Addr} {o':HO}
theorem d9.write (ok:d9 P w H h) (mu:Jm (H x)) (he:e=x\/H e=some (.own x)) (k:∀b u,b≠e->h.get? b=some u->h'.get? b=some u) (FK:∃u,h'.get? e=some u)
  (new:bw P w (upd H x o') h' x o'):d9 P w (upd H x o') h':=λb u q=>by
 have HB:∀c y,H c=some (.own y)->c≠x:=λc y r z=>by subst z;rw[r] at mu;exact mu
 have LG:∀c xs,H c=some (.tup xs)->c≠x:=λc xs r z=>by subst z;rw[r] at mu;exact mu
 by_cases hb:b=x
 ·subst hb;rw[aE] at q;cases q;exact new
 ·rw[aG hb] at q;by_cases hbe:b=e
  ·have q':H b=some (.own x):=by
    rcases he with z | z
    ·exact absurd (hbe.trans z) hb
    ·rw[hbe];exact z
   rw[q] at q';cases q';obtain⟨v,hv⟩:=FK;exact⟨v,by rw[hbe];exact hv⟩
  ·refine(ok b u q).nz (λc v hc r=>k c v ?_ r) (λc r=>by rw[aG (HB c b r)];exact r) λc xs r=>by rw[aG (LG c xs r)];exact r
   rcases hc with rfl | hc
   ·exact hbe
   ·rintro rfl;rcases he with z | z
    ·exact HB c b hc z
    ·rw[hc] at z;cases z;exact hb rfl
end
structure Un (fs ex:List Addr) (H H':Hp) (h h':Heap):Prop where
 keep:∀b o,h.get? b=some o->H b=none->b∉fs->b∉ex->h'.get? b=some o
 slot:∀b o,h.get? b=some o->H b=none->b∈fs->b∉ex->∃sl,h'.get? b=some {o with slots:=sl}
 free:∀b o,h.get? b=some o->H b=none->b∉ex->H' b=none
 there:∀b o,h.get? b=some o->b∉ex->∃o',h'.get? b=some o'
 tups:∀b xs,H b=some (.tup xs)->H' b=some (.tup xs)
 frzs:∀b o u,H b=some (.sE o u)->H' b=some (.sE o u)
 tbls:∀b ps,H b=some (.vG ps)->∃more,H' b=some (.vG (ps++more))
section
variable {fs Ku ex PN:List Addr} {H H1 H2:Hp} {h h1 h2 h':Heap} {a x e:Addr} {o:HO}
theorem Un.any (u:Un fs ex H H1 h h1) {b:Addr} {ob:Obj} (q:h.get? b=some ob) (n:H b=none) (hx:b∉ex):∃sl,h1.get? b=some {ob with slots:=sl}:=by
 by_cases hb:b∈fs
 ·exact u.slot b ob q n hb hx
 ·exact⟨ob.slots,u.keep b ob q n hb hx⟩
theorem Un.trans (a:Un fs ex H H1 h h1) (b:Un fs ex H1 H2 h1 h2):Un fs ex H H2 h h2 where
 keep:=λc ob q n hc hx=>b.keep c ob (a.keep c ob q n hc hx) (a.free c ob q n hx) hc hx
 slot:=λc ob q n hc hx=>by obtain⟨sl,e1⟩:=a.slot c ob q n hc hx;obtain⟨Iy,e2⟩:=b.slot c _ e1 (a.free c ob q n hx) hc hx;exact⟨Iy,e2⟩
 free:=λc ob q n hx=>by obtain⟨o',e1⟩:=a.there c ob q hx;exact b.free c o' e1 (a.free c ob q n hx) hx
 there:=λc ob q hx=>by obtain⟨o',e1⟩:=a.there c ob q hx;exact b.there c o' e1 hx
 tups:=λc xs q=>b.tups c xs (a.tups c xs q)
 frzs:=λc ob xs q=>b.frzs c ob xs (a.frzs c ob xs q)
 tbls:=λc ps q=>by obtain⟨m1,e1⟩:=a.tbls c ps q;obtain⟨m2,e2⟩:=b.tbls c _ e1;exact⟨m1++m2,by rw[e2,Array.append_assoc]⟩
theorem Un.kept (k:∀b u,h.get? b=some u->h'.get? b=some u):Un fs ex H H h h':=
 ⟨λb ob q _ _ _=>k b ob q,λb ob q _ _ _=>⟨ob.slots,k b ob q⟩,λ_ _ _ n _=>n,λb ob q _=>⟨ob,k b ob q⟩,λ_ _ q=>q,λ_ _ _ q=>q,λ_ ps q=>⟨#[],by rw[q];simp⟩⟩
theorem Un.refl:Un fs ex H H h h:=Un.kept λ_ _ q=>q
theorem Un.laid (k:∀b u,h.get? b=some u->h'.get? b=some u) (hp:h.objs.size<=a) (hn:H a=none):Un fs ex H (upd H a o) h h' where
 keep:=λb u q _ _ _=>k b u q
 slot:=λb u q _ _ _=>⟨u.slots,k b u q⟩
 free:=λb u q n _=>by rw[aG (QL (QB (Qq q) hp))];exact n
 there:=λb u q _=>⟨u,k b u q⟩
 tups:=λb xs q=>by rw[aG (aW q hn)];exact q
 frzs:=λb u xs q=>by rw[aG (aW q hn)];exact q
 tbls:=λb ps q=>⟨#[],by rw[aG (aW q hn),q];simp⟩
theorem Un.write (mu:Jm (H x)) (he:e=x\/H e=some (.own x)) (k:∀b u,b≠e->h.get? b=some u->h'.get? b=some u) (FK:∃u,h'.get? e=some u):Un fs ex H (upd H x o) h h':=by
 have hx:∀b,H b=none->b≠x:=λb n z=>by subst z;rw[n] at mu;exact mu
 have hb:∀b,H b=none->b≠e:=λb n z=>by
  subst z;rcases he with r | r
  ·exact hx b n r
  ·rw[n] at r;cases r
 have hm:∀b u,H b=some u->¬Jm (some u)->b≠x:=λb u q nm z=>by subst z;rw[q] at mu;exact nm mu
 refine⟨λb u q n _ _=>k b u (hb b n) q,λb u q n _ _=>⟨u.slots,k b u (hb b n) q⟩,λb u q n _=>by rw[aG (hx b n)];exact n,λb u q _=>?_,
  λb xs q=>by rw[aG (hm b _ q λz=>z)];exact q,λb u xs q=>by rw[aG (hm b _ q λz=>z)];exact q,λb ps q=>⟨#[],by rw[aG (hm b _ q λz=>z),q];simp⟩⟩
 by_cases hbe:b=e
 ·subst hbe;exact FK
 ·exact⟨u,k b u hbe q⟩
end
noncomputable def E6 (h:Heap) (H:Hp):List Addr:=(List.range h.objs.size).filter λa=>(H a).isSome
noncomputable def mI (h:Heap) (H:Hp):Heap:=PySem.W.hideAll h (E6 h H)
theorem uO (h:Heap) (H:Hp):(mI h H).objs.size=h.objs.size:=PySem.W.hideAll_size _ _
theorem xu {h:Heap} {H:Hp} {b:Addr} {o:Obj} (e:h.get? b=some o) (n:H b=none):(mI h H).get? b=some o:=
 PySem.W.hideAll_get _ e λhm=>by have q:(H b).isSome=true:=(List.mem_filter.mp hm).2;rw[n] at q;simp at q
theorem A3 {h:Heap} {H:Hp} {b:Addr} {o:Obj} (e:(mI h H).get? b=some o):h.get? b=some o/\H b=none:=by
 have e':h.get? b=some o:=PySem.W.of_hideAll (E6 h H) e;refine⟨e',?_⟩;cases q:H b with
 | none=>rfl
 | some x=>have hm:b∈E6 h H:=List.mem_filter.mpr ⟨Q1.mpr (Qq e'),by simp[q]⟩;have z:(mI h H).get? b=none:=PySem.W.hideAll_none (E6 h H) hm;rw[z] at e;cases e
noncomputable def zO (g h:Heap) (L:Addr):List (Addr×Obj):=(List.range h.objs.size).filterMap λa=>if a=L\/(g.get? a).isSome=true then none else(h.get? a).map λo=>(a,o)
noncomputable def rest (g h:Heap) (L d:Addr):List (Addr×Obj):=(zO g h L).filter λp=>decide (p.1≠d)
end L2
namespace L2
open PySem PySem.Spec PyProof.Rows
structure Mod (K:PySem.W.Frag) (mg:Str->Option Value) (base:Heap):Prop where
 Lr:K.In base
 glob:base.Ns mainGlobals mg
 blt:∃mb,base.Ns builtinsNs mb/\∀x:Str,x≠"__name__"->mb x=bootBuiltins x
 nolimit:base.NoLimit
structure Cx where
 prog:Program
 w:World
 K:PySem.W.Frag
 mg:Str->Option Value
 base:Heap
 A:Around
 N:List Str
 s₀:Shared
 H₀:Hp
 env:Env
 outer:List Env
 stack:List Env
 ex:List Addr
 fn:Str->Bool
 calm:Bool
 pn:List (Addr×Obj)
 xe:Value->Shared->Prop
noncomputable def ec (l:List Env):List Addr:=l.filterMap (·.frame)
noncomputable abbrev Cx.fs (X:Cx):List Addr:=ec X.outer
noncomputable def FB (sc:Scope) (x:Str):Prop:=sc.names.lookup x=some .local\/sc.names.lookup x=some .cell\/sc.names.lookup x=some .free
noncomputable def Loc (sc:Scope) (x:Str):Prop:=sc.names.lookup x=some .local\/sc.names.lookup x=some .cell
noncomputable def Look (env:Env) (h:Heap) (m:Str->Option Value) (x:Str) (u:Value):Prop:=
 (env.kindOf x=some .local/\m x=some u)\/((env.kindOf x=some .cell\/env.kindOf x=some .free)/\∃c,env.cells.lookup x=some c/\h.IsCell c (some u))
structure Cx.Ok (X:Cx):Prop where
 mod:Mod X.K X.mg X.base
 kind:X.env.scope.kind= .function
 glob:X.env.globals=mainGlobals
 blt:X.env.builtins=builtinsNs
 above:X.s₀.heap.objs.size<=X.env.locals
 inj:∀x y c,X.env.cells.lookup x=some c->X.env.cells.lookup y=some c->x=y
 has:∀x,(X.env.kindOf x=some .cell\/X.env.kindOf x=some .free)->∃c,X.env.cells.lookup x=some c
 zl:∀x c,X.fn x=true->X.env.cells.lookup x=some c->X.s₀.heap.objs.size<=c
 hd:X.calm=true->X.A.handled=none
 frames:X.A.frames=some X.stack
 By:X.stack=X.outer\/(X.stack=X.env::X.outer/\X.env.frame=some X.env.locals)
 BV:∀b∈X.ex,b≠X.env.locals/\∀x c,X.env.cells.lookup x=some c->c≠b
 bs:∀b o,X.base.get? b=some o->X.s₀.heap.get? b=some o/\X.H₀ b=none
 we:X.base.objs.size<=X.s₀.heap.objs.size
 lh:∀b o,X.base.get? b=some o->b∉X.ex
 mq:∀b∈X.ex,b∉X.fs
 gw:X.s₀.heap.FunFrames X.base X.outer
 Aj:∀b∈X.fs,X.H₀ b=none
structure Inv (X:Cx) (pins:List (Addr×Obj)) (σ:List (Option V)) (H:Hp) (s:Shared):Prop where
 ok:X.Ok
 os:s.os=X.s₀.os
 bare:AllBare s.gens
 base:Un X.fs X.ex X.H₀ H X.s₀.heap s.heap
 loc:∃m,s.heap.Ns X.env.locals m/\∀(i:Nat) (x:Str) (v:V),X.N[i]?=some x->σ[i]?=some (some v)->FB X.env.scope x->∃u,RelV v u/\Look X.env s.heap m x u
 cell:∀x c,X.env.cells.lookup x=some c->∃v,s.heap.IsCell c v
 free:H X.env.locals=none
 cG:∀x c,X.env.cells.lookup x=some c->H c=none
 pin:∀p∈X.pn++pins,s.heap.get? p.1=some p.2/\H p.1=none/\p.1≠X.env.locals/\p.1∉X.fs/\∀v,p.2.data≠ .cell v
 hok:d9 X.prog X.w H s.heap
 len:σ.length=X.N.length
section
variable {X:Cx} {pins:List (Addr×Obj)} {σ:List (Option V)} {H H':Hp} {s:Shared} {h':Heap}
theorem Cx.Ok.LD (ok:X.Ok) {b:Addr} {o:Obj} (e:X.base.get? b=some o):b∉X.fs:=λhb=>by have:=(ok.gw.mem hb).1;rw[e] at this;cases this
theorem Inv.bs (I:Inv X pins σ H s):∀b o,X.base.get? b=some o->s.heap.get? b=some o/\H b=none:=λb o e=>
 ⟨I.base.keep b o (I.ok.bs b o e).1 (I.ok.bs b o e).2 (I.ok.LD e) (I.ok.lh b o e),I.base.free b o (I.ok.bs b o e).1 (I.ok.bs b o e).2 (I.ok.lh b o e)⟩
theorem Inv.bk (I:Inv X pins σ H s):∀b o,X.base.get? b=some o->s.heap.get? b=some o:=λb o e=>(I.bs b o e).1
theorem Inv.mod (I:Inv X pins σ H s):Mod X.K X.mg X.base:=I.ok.mod
theorem Inv.jE (I:Inv X pins σ H s):X.K.In s.heap:=I.ok.mod.Lr.keeps I.bk
theorem Inv.fr (I:Inv X pins σ H s):∃m,Fr X.base X.env.locals s.heap m:=
 let ⟨m,hn,_⟩:=I.loc
 ⟨m,hn,I.bk,Qr I.ok.we I.ok.above⟩
theorem Inv.lt (I:Inv X pins σ H s):X.env.locals < s.heap.objs.size:=let ⟨_,hn,_⟩:=I.loc;hn.lt
theorem Inv.sz (I:Inv X pins σ H s):X.s₀.heap.objs.size<=s.heap.objs.size:=Qr I.ok.above (Nat.le_of_lt I.lt)
theorem Inv.LF (I:Inv X pins σ H s) {a:Addr} (h:s.heap.objs.size<=a):a∉X.fs:=λhb=>by obtain⟨_,o,ho,_⟩:=I.ok.gw.mem hb;exact absurd (QB (Qq ho) (Qr I.sz h)) (Nat.lt_irrefl _)
theorem Inv.CV (I:Inv X pins σ H s):∀x c,X.env.cells.lookup x=some c->c≠X.env.locals:=λx c e z=>by obtain⟨v,o,ho,hd⟩:=I.cell x c e;obtain⟨m,⟨o',es,ep,qD,oM,_⟩,_⟩:=I.loc;rw[z,qD] at ho;cases ho;rw[oM] at hd;cases hd
theorem Inv.gw (I:Inv X pins σ H s):s.heap.FunFrames X.base X.outer:=by
 have all:∀(l:List Env),(∀b∈ec l,b∈X.fs)->X.s₀.heap.FunFrames X.base l->s.heap.FunFrames X.base l:=by
  intro l
  induction l with
  | nil=>intro _ _;trivial
  | cons env r ih=>
   intro hs hl;obtain⟨hk,⟨L,o,hf,hn,ho,hd⟩,hr⟩:=hl;have hL:L∈X.fs:=hs L (by unfold ec;rw[List.filterMap_cons,hf];exact Qm);obtain⟨sl,e⟩:=I.base.slot L o ho (I.ok.Aj L hL) hL λz=>I.ok.mq L z hL
   exact⟨hk,⟨L,_,hf,hn,e,hd⟩,ih (λb hb=>hs b (by unfold ec;rw[List.filterMap_cons,hf];exact Qj _ hb)) hr⟩
 exact all X.outer (λ_ hb=>hb) I.ok.gw
theorem Inv.stack (I:Inv X pins σ H s):s.heap.FunFrames X.base X.stack:=by
 rcases I.ok.By with e | ⟨e,hf⟩
 ·rw[e];exact I.gw
 ·rw[e];obtain⟨m,hn,_⟩:=I.loc;refine .cons (by rw[I.ok.kind];decide) hf hn ?_ I.gw;exact Heap.get?_none_of_le (Qr I.ok.we I.ok.above)
theorem Inv.kL (I:Inv X pins σ H s):∀b∈ec X.stack,b∈X.env.locals::X.fs:=λb hb=>by
 rcases I.ok.By with e | ⟨e,hf⟩
 ·rw[e] at hb;exact Qj _ hb
 ·rw[e] at hb;unfold ec at hb;rw[List.filterMap_cons,hf] at hb;exact hb
theorem Inv.nB (I:Inv X pins σ H s):∀b∈ec X.stack,H b=none:=λb hb=>by
 rcases Qs.mp (I.kL b hb) with e | hb
 ·rw[e];exact I.free
 ·obtain⟨_,o,ho,_⟩:=I.ok.gw.mem hb;exact I.base.free b o ho (I.ok.Aj b hb) λz=>I.ok.mq b z hb
theorem Inv.step {g':Array GenState} {t':Nat} {d':Drawn} {ch:List Addr} (I:Inv X pins σ H s)
  (zr:∀b∈ch,(b∈X.ex\/X.s₀.heap.objs.size<=b)/\b≠X.env.locals/\(∀x c,X.env.cells.lookup x=some c->c≠b)/\∀p∈X.pn++pins,p.1≠b)
  (keep:∀b o,b≠X.env.locals->b∉X.fs->b∉ch->s.heap.get? b=some o->H b=none->h'.get? b=some o)
  (slot:∀b o,b≠X.env.locals->b∈X.fs->b∉ch->s.heap.get? b=some o->H b=none->∃sl,h'.get? b=some {o with slots:=sl}) (free:∀b o,b∉ch->s.heap.get? b=some o->H b=none->H' b=none)
  (there:∀b o,b∉ch->s.heap.get? b=some o->∃o',h'.get? b=some o')
  (tups:∀b xs,H b=some (.tup xs)->H' b=some (.tup xs)) (frzs:∀b o u,H b=some (.sE o u)->H' b=some (.sE o u)) (tbls:∀b ps,H b=some (.vG ps)->∃more,H' b=some (.vG (ps++more)))
  (ns:∀m,s.heap.Ns X.env.locals m->h'.Ns X.env.locals m) (hok:d9 X.prog X.w H' h') (hg:AllBare g'):
  Inv X pins σ H' {s with heap:=h',gens:=g',drawn:=d',toks:=t'}:=by
 have JG:∀b o,X.s₀.heap.get? b=some o->b≠X.env.locals:=λb o e=>QL (QB (Qq e) I.ok.above)
 have JF:∀b o,X.s₀.heap.get? b=some o->b∉X.ex->b∉ch:=λb o e hx hb=>by
  rcases (zr b hb).1 with z | z
  ·exact hx z
  ·exact absurd (QB (Qq e) z) (Nat.lt_irrefl _)
 have cellK:∀x c,X.env.cells.lookup x=some c->∀v,s.heap.IsCell c v->h'.IsCell c v:=λx c e v ⟨o,ho,hd⟩=>by
  have Hx:c∉ch:=λz=>(zr c z).2.2.1 x c e rfl
  by_cases hc:c∈X.fs
  ·obtain⟨sl,q⟩:=slot c o (I.CV x c e) hc Hx ho (I.cG x c e);exact⟨_,q,hd⟩
  ·exact⟨o,keep c o (I.CV x c e) hc Hx ho (I.cG x c e),hd⟩
 refine⟨I.ok,I.os,hg,⟨λb o e n hb hx=>?_,λb o e n hb hx=>?_,λb o e n hx=>?_,λb o e hx=>?_,λb xs e=>tups b xs (I.base.tups b xs e),λb o xs e=>frzs b o xs (I.base.frzs b o xs e),λb ps e=>?_⟩,?_,λx c e=>?_,?_,λx c e=>?_,λp hp=>?_,hok,I.len⟩
 ·exact keep b o (JG b o e) hb (JF b o e hx) (I.base.keep b o e n hb hx) (I.base.free b o e n hx)
 ·obtain⟨sl,e1⟩:=I.base.slot b o e n hb hx;obtain⟨Iy,e2⟩:=slot b _ (JG b o e) hb (JF b o e hx) e1 (I.base.free b o e n hx);exact⟨Iy,e2⟩
 ·obtain⟨o',e1⟩:=I.base.there b o e hx;exact free b o' (JF b o e hx) e1 (I.base.free b o e n hx)
 ·obtain⟨o',e1⟩:=I.base.there b o e hx;exact there b o' (JF b o e hx) e1
 ·obtain⟨m1,e1⟩:=I.base.tbls b ps e;obtain⟨m2,e2⟩:=tbls b _ e1;exact⟨m1++m2,by rw[e2,Array.append_assoc]⟩
 ·obtain⟨m,hn,hl⟩:=I.loc;refine⟨m,ns m hn,λi x v e1 e2 e3=>?_⟩;obtain⟨u,r,l⟩:=hl i x v e1 e2 e3;refine⟨u,r,?_⟩;rcases l with l | ⟨k,c,e,z⟩
  ·exact .inl l
  ·exact .inr ⟨k,c,e,cellK x c e _ z⟩
 ·obtain⟨v,z⟩:=I.cell x c e;exact⟨v,cellK x c e v z⟩
 ·obtain⟨m,⟨o,_,_,ho,_⟩,_⟩:=I.loc;exact free _ o (λz=>(zr _ z).2.1 rfl) ho I.free
 ·obtain⟨v,o,ho,hd⟩:=I.cell x c e;exact free c o (λz=>(zr c z).2.2.1 x c e rfl) ho (I.cG x c e)
 ·obtain⟨e,n,ne,nf,d⟩:=I.pin p hp;have Hx:p.1∉ch:=λz=>(zr p.1 z).2.2.2 p hp rfl
  exact⟨keep p.1 p.2 ne nf Hx e n,free p.1 p.2 Hx e n,ne,nf,d⟩
theorem Inv.un {t':Nat} (I:Inv X pins σ H s) (u:Un X.fs [] H H' s.heap h') (hok:d9 X.prog X.w H' h'):Inv X pins σ H' {s with heap:=h',toks:=t'}:=by
 obtain⟨m,⟨o,es,ep,ho,r⟩,_⟩:=id I.loc;obtain⟨sl,hL⟩:=u.any ho I.free (by simp);exact I.step (g':=s.gens) (d':=s.drawn) (ch:=[]) (λ_ z=>nomatch z) (λb o _ hb _ e n=>u.keep b o e n hb (by simp)) (λb o _ hb _ e n=>u.slot b o e n hb (by simp)) (λb o _ e n=>u.free b o e n (by simp)) (λb o _ e=>u.there b o e (by simp)) u.tups u.frzs u.tbls (λm' hm=>by
  obtain⟨o',gj,Ko,qD,r'⟩:=hm;rw[ho] at qD;cases qD;exact⟨_,gj,Ko,hL,r'⟩) hok I.bare
theorem Inv.call {g':Array GenState} {t':Nat} {d':Drawn} {ch:List Addr} (I:Inv X pins σ H s) (u:Un (ec X.stack) ch H H' s.heap h') (hok:d9 X.prog X.w H' h') (hg:AllBare g')
  (zr:∀b∈ch,(b∈X.ex\/X.s₀.heap.objs.size<=b)/\b≠X.env.locals/\(∀x c,X.env.cells.lookup x=some c->c≠b)/\∀p∈X.pn++pins,p.1≠b):
  Inv X pins σ H' {s with heap:=h',gens:=g',drawn:=d',toks:=t'}:=by
 obtain⟨m,⟨o,es,ep,ho,r⟩,_⟩:=id I.loc;obtain⟨sl,hL⟩:=u.any ho I.free λz=>(zr _ z).2.1 rfl
 exact I.step (ch:=ch) zr (λb o hL hb hc e n=>u.keep b o e n (λz=>(Qs.mp (I.kL b z)).elim hL hb) hc) (λb o _ _ hc e n=>u.any e n hc) (λb o hc e n=>u.free b o e n hc) (λb o hc e=>u.there b o e hc) u.tups u.frzs u.tbls (λm' hm=>by
  obtain⟨o',gj,Ko,qD,r'⟩:=hm;rw[ho] at qD;cases qD;exact⟨_,gj,Ko,hL,r'⟩) hok hg
theorem Inv.turned {t':Nat} {it:Addr} (I:Inv X pins σ H s) (k:∀b o,b≠it->s.heap.get? b=some o->h'.get? b=some o) (hn:H it=none) (hL:it≠X.env.locals)
  (h1:it∈X.ex\/X.s₀.heap.objs.size<=it) (h2:∀x c,X.env.cells.lookup x=some c->c≠it) (h3:∀p∈X.pn++pins,p.1≠it):Inv X pins σ H {s with heap:=h',toks:=t'}:=by
 have Np:∀b u,H b=some u->b≠it:=λb u e z=>by rw[z,hn] at e;cases e
 refine I.step (g':=s.gens) (d':=s.drawn) (ch:=[it]) (λb hb=>?_) (λb o _ _ hc e _=>k b o (λz=>hc (by simp[z])) e) (λb o _ _ hc e _=>⟨o.slots,k b o (λz=>hc (by simp[z])) e⟩) (λ_ _ _ _ n=>n)
  (λb o hc e=>⟨o,k b o (λz=>hc (by simp[z])) e⟩) (λ_ _ e=>e) (λ_ _ _ e=>e) (λb ps e=>⟨#[],by rw[e];simp⟩) (λm hm=>?_) (λb u e=>?_) I.bare
 ·have e:b=it:=by simpa using hb
  subst e;exact⟨h1,hL,h2,h3⟩
 ·obtain⟨o,es,ep,ho,r⟩:=hm;exact⟨o,es,ep,k _ o (Ne.symm hL) ho,r⟩
 ·refine(I.hok b u e).nz (λc v hc q=>k c v ?_ q) (λ_ q=>q) λ_ _ q=>q
  rcases hc with z | z
  ·rw[z];exact Np b u e
  ·exact Np c _ z
theorem Inv.tok (I:Inv X pins σ H s) (t:Nat):Inv X pins σ H {s with toks:=t}:=I.un (h':=s.heap) (t':=t) Un.refl I.hok
theorem Inv.kept {t':Nat} (I:Inv X pins σ H s) (k:∀b u,s.heap.get? b=some u->h'.get? b=some u):Inv X pins σ H {s with heap:=h',toks:=t'}:=I.un (Un.kept k) (I.hok.kept k)
theorem Inv.laid {a:Addr} {o:HO} {t':Nat} (I:Inv X pins σ H s) (k:∀b u,s.heap.get? b=some u->h'.get? b=some u) (hp:s.heap.objs.size<=a) (new:bw X.prog X.w (upd H a o) h' a o):
  Inv X pins σ (upd H a o) {s with heap:=h',toks:=t'}:=I.un (Un.laid k hp (I.hok.fresh hp)) (I.hok.laid k hp new)
theorem Inv.write {x e:Addr} {o:HO} {t':Nat} (I:Inv X pins σ H s) (mu:Jm (H x)) (he:e=x\/H e=some (.own x)) (k:∀b u,b≠e->s.heap.get? b=some u->h'.get? b=some u) (FK:∃u,h'.get? e=some u)
  (new:bw X.prog X.w (upd H x o) h' x o):Inv X pins σ (upd H x o) {s with heap:=h',toks:=t'}:=I.un (Un.write mu he k FK) (I.hok.write mu he k FK new)
theorem Inv.weak {σ':List (Option V)} (I:Inv X pins σ H s) (hl:σ'.length=σ.length) (w:∀(i:Nat) v,σ'[i]?=some (some v)->σ[i]?=some (some v)):Inv X pins σ' H s:=
 ⟨I.ok,I.os,I.bare,I.base,let ⟨m,hn,Dh⟩:=I.loc;⟨m,hn,λi x v e1 e2 e3=>Dh i x v e1 (w i v e2) e3⟩,I.cell,I.free,I.cG,I.pin,I.hok,hl.trans I.len⟩
theorem Inv.fU {pins':List (Addr×Obj)} (I:Inv X pins σ H s) (h:∀p∈pins',s.heap.get? p.1=some p.2/\H p.1=none/\p.1≠X.env.locals/\p.1∉X.fs/\∀v,p.2.data≠ .cell v):Inv X pins' σ H s:=
 ⟨I.ok,I.os,I.bare,I.base,I.loc,I.cell,I.free,I.cG,λp hp=>(QC.mp hp).elim (λz=>I.pin p (List.mem_append_left _ z)) (h p),I.hok,I.len⟩
theorem iw {N:List Str} (hN:N.Nodup) {i j:Nat} {x:Str} (a:N[i]?=some x) (b:N[j]?=some x):i=j:=by obtain⟨h1,e1⟩:=Qi.mp a;obtain⟨h2,e2⟩:=Qi.mp b;exact(List.getElem_inj hN).mp (e1.trans e2.symm)
theorem lU {M:Model} {A:Around} {E:Value->Shared->Prop} {i:Nat} {x:Str} {v:V} {u:Value} {Q:Unit->Shared->Prop} (I:Inv X pins σ H s) (hN:X.N.Nodup) (hi:X.N[i]?=some x) (hx:Loc X.env.scope x) (r:RelV v u)
  (h:∀s',Inv X pins (σ.set i (some v)) H s'->(∃a,Heap.SameBut a s.heap s'.heap/\(a=X.env.locals\/X.env.cells.lookup x=some a))->Q () s') (hf:X.fn x=true\/X.env.scope.names.lookup x=some .local:=by first | exact .inl rfl | exact .inr rfl | assumption):wpAny M A (storeName X.env x u) Q E s:=by
 obtain⟨m,hn,hl⟩:=id I.loc;have oK:(X.env.scope.kind== .class||(X.env.scope.kind== .module&&X.env.locals != X.env.globals))=false:=by rw[I.ok.kind];rfl
 have hiσ:i < σ.length:=by rw[I.len];exact(Qi.mp hi).1
 have CV:=I.CV;have tracked:∀{a:Addr} {h':Heap},(∃o,s.heap.get? a=some o/\H a=none)->Heap.SameBut a s.heap h'->d9 X.prog X.w H h':=λ {a h'} ha hs b ob e=>by
  obtain⟨_,_,B1⟩:=ha;refine(I.hok b ob e).nz (λc w' hc q=>(hs.2 c ?_).trans q) (λ_ q=>q) λ_ _ q=>q
  rintro rfl;rcases hc with rfl | hc
  ·rw[B1] at e;cases e
  ·rw[B1] at hc;cases hc
 rcases hx with hk | hk
 ·refine wpAny_storeName_local hk hn (λh' OP hs=>?_) oK;obtain⟨oL,_,_,Jz,_⟩:=id hn;refine h _ ⟨I.ok,I.os,I.bare,⟨λb o e n hb hx=>?_,λb o e n hb hx=>?_,I.base.free,λb o e hx=>?_,I.base.tups,I.base.frzs,I.base.tbls⟩,⟨_,OP,λj y v' e1 e2 e3=>?_⟩,λy c e=>?_,I.free,I.cG,λp hp=>?_,tracked ⟨oL,Jz,I.free⟩ hs,by simpa using I.len⟩ ⟨_,hs,.inl rfl⟩
  ·exact(hs.2 b (QL (QB (Qq e) I.ok.above))).trans (I.base.keep b o e n hb hx)
  ·obtain⟨sl,e1⟩:=I.base.slot b o e n hb hx;exact⟨sl,(hs.2 b (QL (QB (Qq e) I.ok.above))).trans e1⟩
  ·obtain⟨o',e1⟩:=I.base.there b o e hx;exact⟨o',(hs.2 b (QL (QB (Qq e) I.ok.above))).trans e1⟩
  ·by_cases hj:j=i
   ·subst hj;rw[hi] at e1;cases e1;rw[Q0 hiσ] at e2;cases e2;exact⟨u,r,.inl ⟨hk,by simp⟩⟩
   ·rw[Qx (Ne.symm hj)] at e2;obtain⟨u',r',q⟩:=hl j y v' e1 e2 e3;refine⟨u',r',?_⟩;rcases q with ⟨k,e⟩ | ⟨k,c,e,z⟩
    ·refine .inl ⟨k,?_⟩;have:y≠x:=λe=>hj (iw hN e1 (e▸hi))
     simp[this,e]
    ·exact .inr ⟨k,c,e,z.sameBut hs (CV y c e)⟩
  ·obtain⟨w',z⟩:=I.cell y c e;exact⟨w',z.sameBut hs (CV y c e)⟩
  ·obtain⟨e,n,ne,nf,d⟩:=I.pin p hp;exact⟨(hs.2 p.1 ne).trans e,n,ne,nf,d⟩
 ·have xt:X.fn x=true:=by
   rcases hf with z | z
   ·exact z
   ·rw[z] at hk;cases hk
  obtain⟨c,hc⟩:=I.ok.has x (.inl hk);obtain⟨w',z⟩:=I.cell x c hc;refine wpAny_storeName_cell I.ok.kind hk hc z (λh' k9 hs=>?_);obtain⟨oc,M8,K0⟩:=id z;refine h {s with heap:=h'} ⟨I.ok,I.os,I.bare,⟨λb o e n hb hx=>?_,λb o e n hb hx=>?_,I.base.free,λb o e hx=>?_,I.base.tups,I.base.frzs,I.base.tbls⟩,⟨m,hn.sameBut hs (Ne.symm (CV x c hc)),λj y v' e1 e2 e3=>?_⟩,λy c' e=>?_,I.free,I.cG,λp hp=>?_,tracked ⟨oc,M8,I.cG x c hc⟩ hs,by simpa using I.len⟩ ⟨c,hs,.inr hc⟩
  ·exact(hs.2 b (QL (QB (Qq e) (I.ok.zl x c xt hc)))).trans (I.base.keep b o e n hb hx)
  ·obtain⟨sl,e1⟩:=I.base.slot b o e n hb hx;exact⟨sl,(hs.2 b (QL (QB (Qq e) (I.ok.zl x c xt hc)))).trans e1⟩
  ·obtain⟨o',e1⟩:=I.base.there b o e hx;exact⟨o',(hs.2 b (QL (QB (Qq e) (I.ok.zl x c xt hc)))).trans e1⟩
  ·by_cases hj:j=i
   ·subst hj;rw[hi] at e1;cases e1;rw[Q0 hiσ] at e2;cases e2;exact⟨u,r,.inr ⟨.inl hk,c,hc,k9⟩⟩
   ·rw[Qx (Ne.symm hj)] at e2;obtain⟨u',r',q⟩:=hl j y v' e1 e2 e3;refine⟨u',r',?_⟩;rcases q with q | ⟨k,c',e,z'⟩
    ·exact .inl q
    ·refine .inr ⟨k,c',e,z'.sameBut hs ?_⟩;rintro rfl;exact hj (iw hN e1 (I.ok.inj _ _ _ e hc▸hi))
  ·by_cases hcc:c'=c
   ·subst hcc;exact⟨_,k9⟩
   ·obtain⟨w2,z2⟩:=I.cell y c' e;exact⟨w2,z2.sameBut hs hcc⟩
  ·obtain⟨e,n,ne,nf,d⟩:=I.pin p hp;refine⟨(hs.2 p.1 ?_).trans e,n,ne,nf,d⟩;intro q;rw[q,M8] at e;have q':oc=p.2:=Option.some.inj e;exact d w' (by rw[<-q'];exact K0)
theorem kM {M:Model} {A:Around} {E:Value->Shared->Prop} {i:Nat} {x:Str} {v:V} {u:Value} {Q:Unit->Shared->Prop} (I:Inv X pins σ H s) (hN:X.N.Nodup) (hi:X.N[i]?=some x) (hx:Loc X.env.scope x) (r:RelV v u)
  (h:∀s',Inv X pins (σ.set i (some v)) H s'->Q () s') (hf:X.fn x=true\/X.env.scope.names.lookup x=some .local:=by first | exact .inl rfl | exact .inr rfl | assumption):wpAny M A (storeName X.env x u) Q E s:=
 lU I hN hi hx r (λs' I' _=>h s' I') hf
theorem Inv.wj {s':Shared} {ch:List Addr} (I:Inv X pins σ H s) (ho:s'.os=s.os) (u:Un (ec X.stack) ch H H' s.heap s'.heap) (hok:d9 X.prog X.w H' s'.heap) (hg:AllBare s'.gens)
  (zr:∀b∈ch,(b∈X.ex\/X.s₀.heap.objs.size<=b)/\b≠X.env.locals/\(∀x c,X.env.cells.lookup x=some c->c≠b)/\∀p∈X.pn++pins,p.1≠b):Inv X pins σ H' s':=by
 obtain⟨h',g',d',t',o'⟩:=s';have e:o'=s.os:=ho;subst e;exact I.call (g':=g') (t':=t') (d':=d') u hok hg zr
end
noncomputable abbrev XK:=Value->Option Addr->Hp->Prop
noncomputable abbrev St:=List (Option V)
noncomputable abbrev VK:=V->Hp->Prop
noncomputable abbrev TE:=St->Hp->VK->Prop
noncomputable abbrev TT:=St->Hp->(Bool->Hp->Prop)->Prop
noncomputable abbrev TA:=St->Hp->(List V->Hp->Prop)->Prop
structure Ends where
 nx:St->Hp->Prop
 rt:VK
 bk:St->Hp->Prop:=λ_ _=>False
 ct:St->Hp->Prop:=λ_ _=>False
noncomputable abbrev TS:=Ends->St->Hp->Prop
inductive EP (X:Cx) (pins:List (Addr×Obj)) (σ:St) (Q:VK) (u:Value) (s':Shared):Prop
 | mk (v:V) (H':Hp) (i:Inv X pins σ H' s') (r:RelV v u) (q:Q v H'):EP X pins σ Q u s'
inductive TP (X:Cx) (pins:List (Addr×Obj)) (σ:St) (Q:Bool->Hp->Prop) (b:Bool) (s':Shared):Prop
 | mk (H':Hp) (i:Inv X pins σ H' s') (q:Q b H'):TP X pins σ Q b s'
inductive AP (X:Cx) (pins:List (Addr×Obj)) (σ:St) (Q:List V->Hp->Prop) (us:List Value) (s':Shared):Prop
 | mk (vs:List V) (H':Hp) (i:Inv X pins σ H' s') (r:aw vs us) (q:Q vs H'):AP X pins σ Q us s'
noncomputable def SP (X:Cx) (pins:List (Addr×Obj)) (D:Ends) (f:Flow) (s':Shared):Prop:=
 match f with
 | .next=>∃σ' H',Inv X pins σ' H' s'/\D.nx σ' H'
 | .brk=>∃σ' H',Inv X pins σ' H' s'/\D.bk σ' H'
 | .cont=>∃σ' H',Inv X pins σ' H' s'/\D.ct σ' H'
 | .ret u=>∃v σ' H',Inv X pins σ' H' s'/\RelV v u/\D.rt v H'
noncomputable def PE (X:Cx) (e:Expr) (t:TE):Prop:=
 ∀(pins:List (Addr×Obj)) (s:Shared) (σ:St) (H:Hp) (Q:VK),Inv X pins σ H s->t σ H Q->wpAny (model X.prog X.w) X.A (eval e X.env) (EP X pins σ Q) X.xe s
noncomputable def PT (X:Cx) (e:Expr) (t:TT):Prop:=
 ∀(pins:List (Addr×Obj)) (s:Shared) (σ:St) (H:Hp) (Q:Bool->Hp->Prop),Inv X pins σ H s->t σ H Q->wpAny (model X.prog X.w) X.A (isTrue e X.env (eval e X.env)) (TP X pins σ Q) X.xe s
noncomputable def PW (X:Cx) (e:Expr) (t:TT):Prop:=
 ∀(whole:Sem Value) (pins:List (Addr×Obj)) (s:Shared) (σ:St) (H:Hp) (Q:Bool->Hp->Prop),Inv X pins σ H s->t σ H Q->wpAny (model X.prog X.w) X.A (isTrue e X.env whole) (TP X pins σ Q) X.xe s
theorem PW.pt {X:Cx} {e:Expr} {t:TT} (h:PW X e t):PT X e t:=h _
noncomputable def PA (X:Cx) (es:List Expr) (t:TA):Prop:=
 ∀(pos:Pos) (pins:List (Addr×Obj)) (s:Shared) (σ:St) (H:Hp) (Q:List V->Hp->Prop),Inv X pins σ H s->t σ H Q->wpAny (model X.prog X.w) X.A (spliced (backTo pos (starEach es X.env))) (AP X pins σ Q) X.xe s
noncomputable def PS (X:Cx) (st:Stmt) (t:TS):Prop:=
 ∀(pins:List (Addr×Obj)) (s:Shared) (σ:St) (H:Hp) (D:Ends),Inv X pins σ H s->t D σ H->wpAny (model X.prog X.w) X.A (exec st X.env) (SP X pins D) X.xe s
noncomputable def nO (X:Cx) (st:List Stmt) (t:TS):Prop:=
 ∀(pins:List (Addr×Obj)) (s:Shared) (σ:St) (H:Hp) (D:Ends),Inv X pins σ H s->t D σ H->wpAny (model X.prog X.w) X.A (execs st X.env) (SP X pins D) X.xe s
theorem bO {α:Type} {t:Sem α} {Q Q':α->Shared->Prop} {M:Model} {A:Around} {E:Value->Shared->Prop} {s:Shared} (h:wpAny M A t Q E s) (hQ:∀a s,Q a s->Q' a s):wpAny M A t Q' E s:=wpAny_mono h hQ λ_ _ x=>x
end L2
namespace L2
open PySem PySem.Spec PyProof.Rows
section
variable {X:Cx}
theorem bin {a b:Expr} {ta tb:TE} (ha:PE X a ta) (hb:PE X b tb) {pins:List (Addr×Obj)} {s:Shared} {σ:St} {H:Hp} {R:V->V->Hp->Prop} (I:Inv X pins σ H s) (h:ta σ H λx H1=>tb σ H1 λy H2=>R x y H2)
  {α:Type} {Q:α->Shared->Prop} {f:Value->Value->Sem α}
  (hf:∀v u s2 x y H2,Inv X pins σ H2 s2->RelV x v->RelV y u->R x y H2->wpAny (model X.prog X.w) X.A (f v u) Q X.xe s2):
  wpAny (model X.prog X.w) X.A (eval a X.env) (λv s₁=>wpAny (model X.prog X.w) X.A (eval b X.env) (λu s₂=>wpAny (model X.prog X.w) X.A (f v u) Q X.xe s₂) X.xe s₁) X.xe s:=by
 refine bO (ha pins s σ H _ I h) λv s1 ⟨x,H1,I1,r1,q1⟩=>?_
 refine bO (hb pins s1 σ H1 _ I1 q1) λu s2 ⟨y,H2,I2,r2,q2⟩=>?_
 exact hf v u s2 x y H2 I2 r1 r2 q2
noncomputable def jq (i:Nat):TE:=λσ H Q=>∃v,σ[i]?=some (some v)/\Q v H
noncomputable def tC (v:V):TE:=λ_ H Q=>Q v H
theorem qX {i:Nat} {x:Str} {pos:Pos} (hN:X.N[i]?=some x) (hv:FB X.env.scope x) (hd:(x==("__debug__":Str))=false:=by decide) (vz:(x==("__classdict__":Str))=false:=by decide):PE X (.Name x pos) (jq i):=by
 intro pins s σ H Q I h;obtain⟨v,e,h⟩:=h;obtain⟨m,hn,hl⟩:=I.loc;obtain⟨u,r,l⟩:=hl i x v hN e hv;have fin:EP X pins σ Q u s:=⟨v,H,I,r,h⟩;rcases l with ⟨hk,hm⟩ | ⟨hk,c,hc,oJ⟩
 ·exact wpAny_Name (wpAny_loadName_local I.ok.kind hk hn hm fin) hd
 ·rcases hk with hk | hk
  ·exact wpAny_Name (wpAny_loadName_cell I.ok.kind hk hc oJ fin) hd
  ·exact wpAny_Name (wpAny_loadName_free I.ok.kind hk hc oJ fin vz) hd
theorem Eh {i j pos}:PE X (.Constant (.int i) j pos) (tC (.int i)):=λ_ _ _ H _ I h=>wpAny_Constant_int ⟨.int i,H,I.tok _,⟨_,rfl⟩,h⟩
theorem Ca {b j pos}:PE X (.Constant (.bool b) j pos) (tC (.bl b)):=λ_ _ _ H _ I h=>Constant_bool ⟨.bl b,H,I,rfl,h⟩
theorem Ei {j pos}:PE X (.Constant .none j pos) (tC .bb):=λ_ _ _ H _ I h=>Constant_none ⟨.bb,H,I,rfl,h⟩
theorem Ej {x j pos}:PE X (.Constant (.str x) j pos) (tC (.str x)):=λ_ _ _ H _ I h=>Calls.Constant_str ⟨.str x,H,I.tok _,⟨_,rfl⟩,h⟩
noncomputable def Gl (X:Cx) (x:Str):Prop:=X.env.kindOf x=some .globalImplicit
theorem hZ {E:Value->Shared->Prop} {pins:List (Addr×Obj)} {s:Shared} {σ:St} {H:Hp} {x:Str} {u:Value} {pos:Pos} {Q:Value->Shared->Prop} (I:Inv X pins σ H s) (hg:Gl X x) (hm:X.mg x=some u) (h:Q u s)
  (hd:(x==("__debug__":Str))=false:=by decide):wpAny (model X.prog X.w) X.A (eval (.Name x pos) X.env) Q E s:=
 Calls.Name_function_global I.ok.kind hg (Calls.loadGlobal_global (by rw[I.ok.glob];exact I.mod.glob.keeps I.bk) hm h) hd
theorem kf {E:Value->Shared->Prop} {pins:List (Addr×Obj)} {s:Shared} {σ:St} {H:Hp} {x:Str} {u:Value} {pos:Pos} {Q:Value->Shared->Prop} (I:Inv X pins σ H s) (hg:Gl X x) (hm:X.mg x=none) (hv:bootBuiltins x=some u) (h:Q u s)
  (hn:x≠"__name__":=by decide) (hd:(x==("__debug__":Str))=false:=by decide):wpAny (model X.prog X.w) X.A (eval (.Name x pos) X.env) Q E s:=by
 obtain⟨mb,h1,h2⟩:=I.mod.blt;exact Calls.Name_function_global I.ok.kind hg (Calls.loadGlobal_builtin (by rw[I.ok.glob];exact I.mod.glob.keeps I.bk) hm (by rw[I.ok.blt];exact h1.keeps I.bk) ((h2 x hn).trans hv) h) hd
theorem tG {x:Str} {v:V} {u:Value} {pos:Pos} (hg:Gl X x) (hm:X.mg x=some u) (r:RelV v u) (hd:(x==("__debug__":Str))=false:=by decide):PE X (.Name x pos) (tC v):=
 λ_ _ _ H _ I h=>hZ I hg hm ⟨v,H,I,r,h⟩ hd
theorem tE {x:Str} {v:V} {u:Value} {pos:Pos} (hg:Gl X x) (hm:X.mg x=none) (hv:bootBuiltins x=some u) (r:RelV v u) (hn:x≠"__name__":=by decide) (hd:(x==("__debug__":Str))=false:=by decide):PE X (.Name x pos) (tC v):=
 λ_ _ _ H _ I h=>kf I hg hm hv ⟨v,H,I,r,h⟩ hn hd
variable {a b:Expr} {ta tb:TE} {pos:Pos}
theorem xW (b:Expr) {op:CmpOp} (h:op≠ .In) (h2:op≠ .NotIn):behindInMarks op b=false:=by
 have e1:(op==CmpOp.In)=false:=by cases op <;> first | rfl | exact absurd rfl h
 have e2:(op==CmpOp.NotIn)=false:=by cases op <;> first | rfl | exact absurd rfl h2
 cases b <;> simp[behindInMarks,e1,e2]
variable {tA JK:TT} {rest:List Expr}
noncomputable def Mh (t u:TT):TT:=λσ H Q=>t σ H λc H1=>if c=true then u σ H1 Q else Q false H1
noncomputable def Pu (t u:TT):TT:=λσ H Q=>t σ H λc H1=>if c=true then Q true H1 else u σ H1 Q
noncomputable def Ml (t:TT):TT:=λσ H Q=>t σ H λc H1=>Q (!c) H1
theorem Bo (ha:PT X a tA):PW X (.BoolOp .And [a] pos) tA:=by
 intro wh pins s σ H Q I h;refine isTrue_and (bO (ha pins s σ H Q I h) λc s1 e=>?_);cases c with
 | true=>exact isTrue_and_nil e
 | false=>exact e
theorem Ey (ha:PT X a tA):PW X (.BoolOp .Or [a] pos) tA:=by
 intro wh pins s σ H Q I h;refine isTrue_or (bO (ha pins s σ H Q I h) λc s1 e=>?_);cases c with
 | false=>exact isTrue_or_nil e
 | true=>exact e
theorem Ex (ha:PT X a tA) (hb:PW X (.BoolOp .And (b::rest) pos) JK):PW X (.BoolOp .And (a::b::rest) pos) (Mh tA JK):=by
 intro wh pins s σ H Q I h;refine isTrue_and (bO (ha pins s σ H _ I h) λc s1 ⟨H1,I1,q1⟩=>?_);cases c with
 | true=>exact hb wh pins s1 σ H1 Q I1 q1
 | false=>exact⟨H1,I1,q1⟩
theorem HW (ha:PT X a tA) (hb:PW X (.BoolOp .Or (b::rest) pos) JK):PW X (.BoolOp .Or (a::b::rest) pos) (Pu tA JK):=by
 intro wh pins s σ H Q I h;refine isTrue_or (bO (ha pins s σ H _ I h) λc s1 ⟨H1,I1,q1⟩=>?_);cases c with
 | true=>exact⟨H1,I1,q1⟩
 | false=>exact hb wh pins s1 σ H1 Q I1 q1
theorem Ew (ha:PT X a tA):PT X (.UnaryOp .Not a pos) (Ml tA):=by intro pins s σ H Q I h;exact isTrue_not (bO (ha pins s σ H (λc H1=>Q (!c) H1) I h) λ_ _ ⟨H1,i,q⟩=>⟨H1,i,q⟩)
noncomputable def IF (ta tb:TE):TE:=λσ H Q=>ta σ H λx H1=>∃c,x= .bl c/\if c=true then tb σ H1 Q else Q (.bl false) H1
noncomputable def Mm (ta tb:TE):TE:=λσ H Q=>ta σ H λx H1=>∃c,x= .bl c/\if c=true then Q (.bl true) H1 else tb σ H1 Q
noncomputable def IL (ta:TE):TE:=λσ H Q=>ta σ H λx H1=>∃c,x= .bl c/\Q (.bl (!c)) H1
theorem yh {op} {t:TE} (h:PE X a t):PE X (.BoolOp op [a] pos) t:=λpins s σ H Q I hw=>BoolOp_one (h pins s σ H Q I hw)
theorem yc (ha:PE X a ta) (hb:PE X (.BoolOp .And (b::rest) pos) tb):PE X (.BoolOp .And (a::b::rest) pos) (IF ta tb):=by
 intro pins s σ H Q I h;refine BoolOp_and (bO (ha pins s σ H _ I h) λv s1 ⟨x,H1,I1,r1,q1⟩=>?_);obtain⟨c,rfl,q1⟩:=q1;cases r1;refine wpAny_truthy_bool ?_;cases c with
 | true=>exact hb pins s1 σ H1 Q I1 q1
 | false=>exact⟨.bl false,H1,I1,rfl,q1⟩
theorem Cd (ha:PE X a ta) (hb:PE X (.BoolOp .Or (b::rest) pos) tb):PE X (.BoolOp .Or (a::b::rest) pos) (Mm ta tb):=by
 intro pins s σ H Q I h;refine BoolOp_or (bO (ha pins s σ H _ I h) λv s1 ⟨x,H1,I1,r1,q1⟩=>?_);obtain⟨c,rfl,q1⟩:=q1;cases r1;refine wpAny_truthy_bool ?_;cases c with
 | false=>exact hb pins s1 σ H1 Q I1 q1
 | true=>exact⟨.bl true,H1,I1,rfl,q1⟩
theorem yg (ha:PE X a ta):PE X (.UnaryOp .Not a pos) (IL ta):=by intro pins s σ H Q I h;refine UnaryOp_ (bO (ha pins s σ H _ I h) λv s1 ⟨x,H1,I1,r1,q1⟩=>?_);obtain⟨c,rfl,q1⟩:=q1;cases r1;exact not_of (wpAny_truthy_bool ⟨.bl (!c),H1,I1,rfl,q1⟩)
end
end L2
namespace L2
open PySem PySem.Spec PyProof.Rows
noncomputable def dE (K:PySem.W.Frag) (H:Hp) (a:Addr) (xs:List V):Prop:=
 Rd H a (.lst xs)\/
  ∃(o:Obj) (its:Array Value) (n:Nat),K.lookup a=some o/\o.cls= .type "list"/\o.dict=none/\o.data= .seq its n/\its.size<=sizeLine/\aw xs its.toList
noncomputable def eh (K:PySem.W.Frag) (H:Hp) (a:Addr) (xs:List V):Prop:=
 Rd H a (.tup xs)\/
  ∃(o:Obj) (its:Array Value) (n:Nat),K.lookup a=some o/\o.cls= .type "tuple"/\o.data= .seq its n/\its.size<=sizeLine/\aw xs its.toList
noncomputable def J6:Value->Option V
 | .none=>some .bb
 | .bool b=>some (.bl b)
 | .int i _=>some (.int i)
 | .str x _=>some (.str x)
 | .bytes b _=>some (.CQ b)
 | .float b _=>some (.zq b)
 | .ref a=>some (.ref a)
 | .type n=>some (.ty n)
 | _=>none
theorem RelV.abs {x:V} {u:Value} (r:RelV x u):J6 u=some x:=by
 cases x with
 | bb=>cases r;rfl
 | bl _=>cases r;rfl
 | int _=>obtain⟨t,rfl⟩:=r;rfl
 | str _=>obtain⟨t,rfl⟩:=r;rfl
 | CQ _=>obtain⟨t,rfl⟩:=r;rfl
 | zq _=>obtain⟨t,rfl⟩:=r;rfl
 | ref _=>cases r;rfl
 | ty _=>cases r;rfl
theorem RelV.inj {x y:V} {u:Value} (r:RelV x u) (q:RelV y u):x=y:=Option.some.inj (r.abs.symm.trans q.abs)
theorem aw.inj:∀{xs ys:List V} {us:List Value},aw xs us->aw ys us->xs=ys
 | _,_,_,.nil,.nil=>rfl
 | _,_,_,.cons r t,.cons r' t'=>by rw[r.inj r',aw.inj t t']
section
variable {X:Cx} {pins:List (Addr×Obj)} {σ:St} {H:Hp} {s:Shared} {a:Addr} {xs ys:List V}
theorem dE.of {K:PySem.W.Frag} (h:H a=some (.lst xs)):dE K H a xs:= .inl (.inl h)
theorem eh.of {K:PySem.W.Frag} (h:H a=some (.tup xs)):eh K H a xs:= .inl (.inl h)
theorem Inv.list (I:Inv X pins σ H s) (h:dE X.K H a xs):∃its:List Value,aw xs its/\PlainL s.heap a its.toArray/\xs.length<=sizeLine:=by
 rcases h with h | ⟨o,its,n,hk,hc,hd,hs,hz,r⟩
 ·obtain⟨z,its,n,r,e⟩:=h.ok I.hok;exact⟨its,r,⟨_,n,e,rfl,rfl,rfl⟩,z⟩
 ·refine⟨its.toList,r,⟨o,n,I.jE a o hk,hc,hd,by simpa using hs⟩,?_⟩;have e:=r.length;simp only[QA] at e
  lia
theorem Inv.tuple (I:Inv X pins σ H s) (h:eh X.K H a xs):∃its:List Value,aw xs its/\IsTup s.heap a its.toArray/\xs.length<=sizeLine:=by
 rcases h with h | ⟨o,its,n,hk,hc,hs,hz,r⟩
 ·obtain⟨z,its,r,p⟩:=h.ok I.hok;exact⟨its,r,p.is,z⟩
 ·refine⟨its.toList,r,⟨o,I.jE a o hk,hc,n,by simpa using hs⟩,?_⟩;have e:=r.length;simp only[QA] at e
  lia
theorem Inv.xP (I:Inv X pins σ H s) (h:dE X.K H a xs) (h':dE X.K H a ys):xs=ys:=by
 obtain⟨its,r,⟨o,n,e,_,_,d⟩,_⟩:=I.list h;obtain⟨its',r',⟨o',n',e',_,_,d'⟩,_⟩:=I.list h';rw[e] at e';cases e';rw[d] at d';injection d' with d1 _;have:its=its':=by simpa using congrArg Array.toList d1
 subst this;exact r.inj r'
theorem Inv.vo (I:Inv X pins σ H s) (h:eh X.K H a xs) (h':eh X.K H a ys):xs=ys:=by
 obtain⟨its,r,⟨o,e,_,n,d⟩,_⟩:=I.tuple h;obtain⟨its',r',⟨o',e',_,n',d'⟩,_⟩:=I.tuple h';rw[e] at e';cases e';rw[d] at d';injection d' with d1 _;have:its=its':=by simpa using congrArg Array.toList d1
 subst this;exact r.inj r'
end
noncomputable abbrev Cx.cD (X:Cx) (E:Value->Shared->Prop):Cx:={X with xe:=E}
theorem Cx.Ok.cD {X:Cx} (ok:X.Ok) (E:Value->Shared->Prop):(X.cD E).Ok:=
 ⟨ok.mod,ok.kind,ok.glob,ok.blt,ok.above,ok.inj,ok.has,ok.zl,ok.hd,ok.frames,ok.By,ok.BV,ok.bs,ok.we,ok.lh,ok.mq,ok.gw,ok.Aj⟩
theorem Cx.Ok.dM {X:Cx} {E:Value->Shared->Prop} (ok:(X.cD E).Ok):X.Ok:=
 ⟨ok.mod,ok.kind,ok.glob,ok.blt,ok.above,ok.inj,ok.has,ok.zl,ok.hd,ok.frames,ok.By,ok.BV,ok.bs,ok.we,ok.lh,ok.mq,ok.gw,ok.Aj⟩
section
variable {X:Cx} {pins:List (Addr×Obj)} {σ:St} {H:Hp} {s:Shared} {E:Value->Shared->Prop}
theorem Inv.cD (I:Inv X pins σ H s) (E:Value->Shared->Prop):Inv (X.cD E) pins σ H s:=⟨I.ok.cD E,I.os,I.bare,I.base,I.loc,I.cell,I.free,I.cG,I.pin,I.hok,I.len⟩
theorem Inv.dM (I:Inv (X.cD E) pins σ H s):Inv X pins σ H s:=⟨I.ok.dM,I.os,I.bare,I.base,I.loc,I.cell,I.free,I.cG,I.pin,I.hok,I.len⟩
theorem SP.dM {D:Ends} {f:Flow} {s':Shared} (h:SP (X.cD E) pins D f s'):SP X pins D f s':=by
 cases f with
 | next=>obtain⟨σ',H',I,q⟩:=h;exact⟨σ',H',I.dM,q⟩
 | brk=>obtain⟨σ',H',I,q⟩:=h;exact⟨σ',H',I.dM,q⟩
 | cont=>obtain⟨σ',H',I,q⟩:=h;exact⟨σ',H',I.dM,q⟩
 | ret u=>obtain⟨v,σ',H',I,r,q⟩:=h;exact⟨v,σ',H',I.dM,r,q⟩
end
section
variable {X:Cx} {st:Stmt} {rest:List Stmt} {t u:TS} {e:Expr} {te:TE} {pos:Pos}
noncomputable def yT:TS:=λD σ H=>D.nx σ H
noncomputable def IP (t u:TS):TS:=λD σ H=>t {D with nx:=u D} σ H
theorem Bk:nO X [] yT:=λ_ _ σ H _ I h=>wpAny_execs_nil ⟨σ,H,I,h⟩
theorem pq (h1:PS X st t) (h2:nO X rest u):nO X (st::rest) (IP t u):=by
 intro pins s σ H D I h;refine wpAny_execs_cons (bO (h1 pins s σ H {D with nx:=u D} I h) λf s1 q=>?_);cases f with
 | next=>obtain⟨σ',H',I',q⟩:=q;exact h2 pins s1 σ' H' D I' q
 | ret v=>exact q
 | brk=>exact q
 | cont=>exact q
theorem tO (h1:PS X st t):nO X [st] t:=by
 intro pins s σ H D I h;refine wpAny_execs_cons (bO (h1 pins s σ H D I h) λf s1 q=>?_);cases f with
 | next=>exact wpAny_execs_nil q
 | ret v=>exact q
 | brk=>exact q
 | cont=>exact q
noncomputable def yQ:TS:=λD σ H=>D.bk σ H
noncomputable def Co:TS:=λD σ H=>D.ct σ H
theorem Bh:PS X (.Pass pos) yT:=λ_ _ σ H _ I h=>wpAny_Pass ⟨σ,H,I,h⟩
theorem yq:PS X (.Break pos) yQ:=λ_ _ σ H _ I h=>wpAny_Break ⟨σ,H,I,h⟩
theorem ph:PS X (.Continue pos) Co:=λ_ _ σ H _ I h=>wpAny_Continue ⟨σ,H,I,h⟩
theorem Inv.quiet {pins:List (Addr×Obj)} {σ:St} {H:Hp} {s:Shared} (I:Inv X pins σ H s):interactive X.env=false:=by simp[interactive,I.ok.kind]
noncomputable def pJ (te:TE):TS:=λD σ H=>te σ H λ_ H1=>D.nx σ H1
theorem jK (he:PE X e te) (hs:swapsWith e none pos.line X.env=pure false:=by rfl):PS X (.Expr e pos) (pJ te):=by intro pins s σ H D I h;exact wpAny_Expr_any (bO (he pins s σ H _ I h) λv s1 ⟨x,H1,I1,r1,q1⟩=>⟨σ,H1,I1,q1⟩) I.quiet hs
noncomputable def E4 (te:TE):TS:=λD σ H=>te σ H D.rt
theorem kG (he:PE X e te):PS X (.Return (some e) pos) (E4 te):=by intro pins s σ H D I h;exact wpAny_Return_some (bO (he pins s σ H _ I h) λv s1 ⟨x,H1,I1,r1,q1⟩=>⟨x,σ,H1,I1,r1,q1⟩)
noncomputable def Cp:TS:=λD _ H=>D.rt .bb H
theorem Bi:PS X (.Return none pos) Cp:=λ_ _ σ H _ I h=>wpAny_Return_none ⟨.bb,σ,H,I,rfl,h⟩
noncomputable def IJ (c:TT) (t u:TS):TS:=λD σ H=>c σ H λb H1=>if b=true then t D σ H1 else u D σ H1
theorem HS {c:Expr} {a b:List Stmt} {tc:TT} (hc:PT X c tc) (ha:nO X a t) (hb:nO X b u):PS X (.If c a b pos) (IJ tc t u):=by
 intro pins s σ H D I h;refine wpAny_If (bO (hc pins s σ H _ I h) λd s1 ⟨H1,I1,q1⟩=>?_);cases d with
 | true=>exact ha pins s1 σ H1 D I1 q1
 | false=>exact hb pins s1 σ H1 D I1 q1
end
noncomputable abbrev TG:=V->St->Hp->(St->Hp->Prop)->Prop
noncomputable abbrev vN:=List V->St->Hp->(St->Hp->Prop)->Prop
noncomputable def PG (X:Cx) (target:Expr) (t:TG):Prop:=
 ∀(pins:List (Addr×Obj)) (s:Shared) (σ:St) (H:Hp) (v:V) (u:Value) (Q:St->Hp->Prop),Inv X pins σ H s->RelV v u->t v σ H Q->
  wpAny (model X.prog X.w) X.A (assign target X.env u) (λ_ s'=>∃σ' H',Inv X pins σ' H' s'/\Q σ' H') X.xe s
noncomputable def F3 (X:Cx) (ts:List Expr) (t:vN):Prop:=
 ∀(pins:List (Addr×Obj)) (s:Shared) (σ:St) (H:Hp) (vs:List V) (us:List Value) (Q:St->Hp->Prop),Inv X pins σ H s->aw vs us->t vs σ H Q->
  wpAny (model X.prog X.w) X.A (assignInOrder ((assignEach ts X.env).map (·.2)) us) (λ_ s'=>∃σ' H',Inv X pins σ' H' s'/\Q σ' H') X.xe s
noncomputable abbrev CD:=V->V->V->Hp->(Hp->Prop)->Prop
noncomputable def F8 (X:Cx) (t:CD):Prop:=
 ∀(pins:List (Addr×Obj)) (s:Shared) (σ:St) (H:Hp) (o i v:V) (ov iv u:Value) (Q:Hp->Prop),Inv X pins σ H s->RelV o ov->RelV i iv->RelV v u->t o i v H Q->
  wpAny (model X.prog X.w) X.A (setItem ov iv u) (λ_ s'=>∃H',Inv X pins σ H' s'/\Q H') X.xe s
section
variable {X:Cx} {pos:Pos}
noncomputable def dX (i:Nat):TG:=λv σ H Q=>Q (σ.set i (some v)) H
theorem Bb {i:Nat} {x:Str} (hN:X.N.Nodup) (hi:X.N[i]?=some x) (hx:Loc X.env.scope x) (hf:X.fn x=true\/X.env.scope.names.lookup x=some .local:=by first | exact .inl rfl | exact .inr rfl | assumption):PG X (.Name x pos) (dX i):=by intro pins s σ H v u Q I r h;exact wpAny_assign_Name (kM I hN hi hx r (λs' I'=>⟨_,H,I',h⟩) hf)
noncomputable def C7:vN:=λvs σ H Q=>vs=[]/\Q σ H
noncomputable def wX (t:TG) (u:vN):vN:=λvs σ H Q=>∃v r,vs=v::r/\t v σ H λσ' H'=>u r σ' H' Q
theorem Bc:F3 X [] C7:=by intro pins s σ H vs us Q I r h;obtain⟨e,h⟩:=h;subst e;cases r;exact assignInOrder_nil ⟨σ,H,I,h⟩
theorem yi {e:Expr} {es:List Expr} {t:TG} {u:vN} (h1:PG X e t) (h2:F3 X es u)
  (hs:(assignEach (e::es) X.env).map (·.2)=assign e X.env::(assignEach es X.env).map (·.2):=by rfl):F3 X (e::es) (wX t u):=by
 intro pins s σ H vs us Q I r h;obtain⟨v,vr,e1,h⟩:=h;subst e1;cases r with
 | cons r rr=>rw[hs];refine assignInOrder_cons (bO (h1 pins s σ H _ _ _ I r h) λ_ s1 ⟨σ1,H1,I1,q1⟩=>?_);exact h2 pins s1 σ1 H1 _ _ Q I1 rr q1
noncomputable def C8 (K:PySem.W.Frag) (n:Nat) (t:vN):TG:=λv σ H Q=>∃a xs,v= .ref a/\eh K H a xs/\xs.length=n/\t xs σ H Q
theorem En {es:List Expr} {k:Nat} {t:vN} {n:Nat} (hc:X.calm=true) (h:F3 X es t)
  (hn:(assignEach es X.env).length=n:=by rfl) (j9:(assignEach es X.env).findIdx? (·.1)=none:=by rfl):PG X (.Tuple es k pos) (C8 X.K n t):=by
 intro pins s σ H v u Q I r hw;obtain⟨a,xs,e1,hq,hl,hw⟩:=hw;subst e1;cases r;obtain⟨its,rv,ht,hz⟩:=I.tuple hq;refine assign_Tuple_tuple (I.ok.hd hc) ht (by simp[hn,<-hl,rv.length]) j9 λh' hx=>?_
 have I1:Inv X pins σ H {s with heap:=h'}:=I.kept (t':=s.toks) λb o e=>hx b o (QL (Qq e)) e
 exact h pins _ σ H xs _ Q I1 (by simpa using rv) hw
noncomputable def GC (to ti:TE) (t:CD):TG:=λv σ H Q=>to σ H λo H1=>ti σ H1 λi H2=>t o i v H2 λH3=>Q σ H3
theorem Em {o i:Expr} {to ti:TE} {t:CD} (ho:PE X o to) (hi:PE X i ti) (hs:F8 X t)
  (ha:∀v,assign (.Subscript o i pos) X.env v=(do
   let ov<-holding [v] (eval o X.env)
   let iv<-holding [v,ov] (eval i X.env)
   standAt pos
   holding [v,ov,iv] (setItem ov iv v)
   release [v,ov,iv] []):=by intro _;rfl):PG X (.Subscript o i pos) (GC to ti t):=by
 intro pins s σ H v u Q I r h;rw[ha];refine Qb (wpAny_holding (bO (ho pins s σ H _ I h) λov s1 ⟨x,H1,I1,r1,q1⟩=>?_));refine Qb (wpAny_holding (bO (hi pins s1 σ H1 _ I1 q1) λiv s2 ⟨y,H2,I2,r2,q2⟩=>?_));refine Qb (wpAny_standAt (Qb (wpAny_holding (bO (hs pins s2 σ H2 x y v ov iv u _ I2 r1 r2 r q2) λ_ s3 ⟨H3,I3,q3⟩=>?_))));exact wpAny_release ⟨σ,H3,I3,q3⟩
noncomputable def pI (te:TE) (g:TG):TS:=λD σ H=>te σ H λx H1=>g x σ H1 D.nx
theorem Et {tg e:Expr} {te:TE} {g:TG} (he:PE X e te) (hg:PG X tg g) (hs:swapsWithSole [tg] e pos.line X.env=pure false:=by rfl) (hw:swappedStores [tg] e X.env=pure none:=by rfl)
  (h1:(assignEach [tg] X.env).map (·.2)=[assign tg X.env]:=by rfl):PS X (.Assign [tg] e pos) (pI te g):=by
 intro pins s σ H D I h;refine wpAny_Assign_stores (bO (he pins s σ H _ I h) λv s1 ⟨x,H1,I1,r1,q1⟩=>?_) hs hw;rw[h1];exact bO (hg pins s1 σ H1 x v _ I1 r1 q1) λ_ s2 q=>q
theorem rd {i:Nat} {x:Str} {e:Expr} {te:TE} {pos':Pos} (hN:X.N.Nodup) (hi:X.N[i]?=some x) (hx:Loc X.env.scope x) (he:PE X e te) (hs:swapsWith e (some (.Name x pos')) pos.line X.env=pure false:=by rfl) (hf:X.fn x=true\/X.env.scope.names.lookup x=some .local:=by first | exact .inl rfl | exact .inr rfl | assumption):
  PS X (.Assign [.Name x pos'] e pos) (pI te (dX i)):=by
 intro pins s σ H D I h;refine wpAny_Assign_Name (bO (he pins s σ H _ I h) λv s1 ⟨y,H1,I1,r1,q1⟩=>?_) hs;exact kM I1 hN hi hx r1 (λs2 I2=>⟨_,H1,I2,q1⟩) hf
end
structure It where
 go:Nat->Hp->Prop
 yld:Nat->Hp->V->Hp->Prop
 stop:Nat->Hp->Prop
noncomputable def gv (X:Cx) (pins:List (Addr×Obj)) (H:Hp) (b:Addr):Prop:=
 H b=none/\b≠X.env.locals/\b∉X.fs/\(b∈X.ex\/X.s₀.heap.objs.size<=b)/\(∀x c,X.env.cells.lookup x=some c->c≠b)/\∀p∈X.pn++pins,p.1≠b
theorem Inv.uI {X:Cx} {pins:List (Addr×Obj)} {σ:St} {H H':Hp} {s:Shared} {b:Addr} (I:Inv X pins σ H s) (hb:s.heap.objs.size<=b) (hn:H' b=none):gv X pins H' b:=by
 refine⟨hn,Nat.ne_of_gt (QB I.lt hb),I.LF hb,.inr (Qr I.sz hb),λx c e z=>?_,λp hp z=>?_⟩
 ·obtain⟨v,q⟩:=I.cell x c e;exact absurd (QB q.lt (by rw[z];exact hb)) (Nat.lt_irrefl _)
 ·exact absurd (QB (Qq (I.pin p hp).1) (by rw[z];exact hb)) (Nat.lt_irrefl _)
structure Turn (P:Program) (w:World) (K:PySem.W.Frag) (tg:Expr) (J:It) (fp:List Addr) (it:Addr) (tn:Nat->Heap->Prop):Prop where
 mem:it∈fp
 obj:∀i h,tn i h->∀b∈fp,∃o,h.get? b=some o/\∀v,o.data≠ .cell v
 keep:∀i h h',tn i h->(∀b∈fp,∀o,h.get? b=some o->h'.get? b=some o)->tn i h'
 item:∀(X:Cx),X.prog=P->X.w=w->X.K=K->X.calm=true->∀(i:Nat) (pins:List (Addr×Obj)) (s:Shared) (σ:St) (H:Hp) (E:Value->Shared->Prop),Inv X pins σ H s->(∀b∈fp,gv X pins H b)->tn i s.heap->J.go i H->
  wpAny (model P w) X.A (pyNext (.ref it)) (λr s1=>∃u,r=some u/\
   wpAny (model P w) X.A (letOwnedTupleGo tg (.ref it) u) (λ_ s2=>∃x H',Inv X pins σ H' s2/\RelV x u/\J.yld i H x H'/\tn (i + 1) s2.heap/\∀b∈fp,H' b=none) E s1) E s
 done:∀(X:Cx),X.prog=P->X.w=w->X.K=K->X.calm=true->∀(i:Nat) (pins:List (Addr×Obj)) (s:Shared) (σ:St) (H:Hp) (E:Value->Shared->Prop),Inv X pins σ H s->(∀b∈fp,gv X pins H b)->tn i s.heap->J.stop i H->
  wpAny (model P w) X.A (pyNext (.ref it)) (λr s1=>r=none/\Inv X pins σ H s1) E s
 self:∀(A:Around) (i:Nat) (s:Shared) (Q:Value->Shared->Prop) (E:Value->Shared->Prop),tn i s.heap->Q (.ref it) s->wpAny (model P w) A (pyIter (.ref it)) Q E s
noncomputable abbrev TI:=St->Hp->(It->Hp->Prop)->Prop
noncomputable def MB (X:Cx) (pins:List (Addr×Obj)) (σ:St) (tg:Expr) (R:It->Hp->Prop) (qI:Value) (s2:Shared):Prop:=
 ∃(it:Addr) (fp:List Addr) (tn:Nat->Heap->Prop) (J:It) (H':Hp),qI= .ref it/\Inv X pins σ H' s2/\Turn X.prog X.w X.K tg J fp it tn/\tn 0 s2.heap/\(∀b∈fp,gv X pins H' b)/\R J H'
noncomputable def PI (X:Cx) (tg iter:Expr) (wi:TI):Prop:=
 ∀(pins:List (Addr×Obj)) (s:Shared) (σ:St) (H:Hp) (R:It->Hp->Prop),Inv X pins σ H s->wi σ H R->
  wpAny (model X.prog X.w) X.A (eval iter X.env) (λv s1=>wpAny (model X.prog X.w) X.A (pyIter v) (MB X pins σ tg R) X.xe s1) X.xe s
theorem xi {M:Model} {A:Around} {E:Value->Shared->Prop} {s:Shared} {tg:Expr} {it:Addr} {u:Value} {o:Obj} {n:String} {vs:Array Value} {Q:Unit->Shared->Prop} (ho:s.heap.get? it=some o) (hc:o.cls= .type n) (hd:o.data= .fields vs)
  (hn:["enumerate","zip","dict_itemiterator","dict_reverseitemiterator","odict_iterator","itertools.zip_longest","itertools.pairwise"].contains n=false) (hQ:Q () s):wpAny M A (letOwnedTupleGo tg (.ref it) u) Q E s:=by
 unfold letOwnedTupleGo;cases tg <;> first
  | exact Qe hQ
  | (cases u <;> first
    | exact Qe hQ
    | (refine Qb (wpAny_load ho ?_);rw[hc,hd];show wpAny M A (if (["enumerate","zip","dict_itemiterator","dict_reverseitemiterator","odict_iterator","itertools.zip_longest","itertools.pairwise"].contains n&&vs[0]?==some (rawInt _))=true then _ else _) Q E s;rw[if_neg (by intro h;rw[hn,Bool.false_and] at h;cases h)];exact Qe hQ))
noncomputable def Jj (K:PySem.W.Frag) (a:Addr):It:=
 ⟨λi H=>∃xs x,dE K H a xs/\xs[i]?=some x,λi H x H'=>H'=H/\∀xs,dE K H a xs->xs[i]?=some x,λi H=>∃xs,dE K H a xs/\xs.length<=i⟩
noncomputable def JY (K:PySem.W.Frag) (a:Addr):It:=
 ⟨λi H=>∃xs x,eh K H a xs/\xs[i]?=some x,λi H x H'=>H'=H/\∀xs,eh K H a xs->xs[i]?=some x,λi H=>∃xs,eh K H a xs/\xs.length<=i⟩
noncomputable def Jk (lo:Int) (n:Nat):It:=⟨λi _=>i < n,λi H x H'=>H'=H/\x= .int (lo + i),λi _=>n<=i⟩
theorem vq {P:Program} {w:World} {K:PySem.W.Frag} {tg:Expr} (a it:Addr):Turn P w K tg (Jj K a) [it] it (λi h=>h.IsListIter it a i) where
 mem:=by simp
 obj:=λi h st b hb=>by
  have e:b=it:=by simpa using hb
  subst e;obtain⟨o,e,c,d⟩:=st;exact⟨o,e,λv z=>by rw[d] at z;cases z⟩
 keep:=λi h h' st k=>st.at λo e=>k it (by simp) o e
 item:=by
  intro X hP hw hK hc i pins s σ H E I hf st hg;subst hP hw hK;obtain⟨xs,x,hq,hx⟩:=hg;obtain⟨its,rv,p,hz⟩:=I.list hq;obtain⟨u,hu,ru⟩:=rv.get hx;obtain⟨f0,f1,f2,f3,f4,f5⟩:=hf it (by simp);refine wpAny_pyNext_list_item st p.isList (x:=u) (by simpa using hu) λh' ak sb=>?_
  have I1:Inv X pins σ H {s with heap:=h'}:=I.turned (t':=s.toks) (λb o hb e=>(sb.2 b hb).trans e) f0 f1 f3 f4 f5;obtain⟨o,e,c,d⟩:=id ak;exact⟨u,rfl,xi (s:={s with heap:=h'}) e c d (by decide) ⟨x,H,I1,ru,⟨rfl,λys hy=>by rw[I.xP hy hq];exact hx⟩,ak,λb hb=>(hf b hb).1⟩⟩
 done:=by intro X hP hw hK hc i pins s σ H E I hf st hg;subst hP hw hK;obtain⟨xs,hq,hx⟩:=hg;obtain⟨its,rv,p,hz⟩:=I.list hq;obtain⟨f0,f1,f2,f3,f4,f5⟩:=hf it (by simp);have hl:=rv.length;exact wpAny_pyNext_list_end (I.ok.hd hc) st p.isList (by simp;lia) λh' eb=>⟨rfl,I.turned (t':=s.toks) (λb o hb e=>eb b o hb e) f0 f1 f3 f4 f5⟩
 self:=λ_ _ _ _ _ st h=>wpAny_pyIter_listiter st h
theorem rH {P:Program} {w:World} {K:PySem.W.Frag} {tg:Expr} (a it:Addr):Turn P w K tg (JY K a) [it] it (λi h=>h.IsTupleIter it a i) where
 mem:=by simp
 obj:=λi h st b hb=>by
  have e:b=it:=by simpa using hb
  subst e;obtain⟨o,e,c,d⟩:=st;exact⟨o,e,λv z=>by rw[d] at z;cases z⟩
 keep:=λi h h' st k=>st.at λo e=>k it (by simp) o e
 item:=by
  intro X hP hw hK hc i pins s σ H E I hf st hg;subst hP hw hK;obtain⟨xs,x,hq,hx⟩:=hg;obtain⟨its,rv,p,hz⟩:=I.tuple hq;obtain⟨u,hu,ru⟩:=rv.get hx;obtain⟨f0,f1,f2,f3,f4,f5⟩:=hf it (by simp);refine wpAny_pyNext_tuple_item st (show s.heap.IsTuple a its.toArray from p) (x:=u) (by simpa using hu) λh' ak sb=>?_
  have I1:Inv X pins σ H {s with heap:=h'}:=I.turned (t':=s.toks) (λb o hb e=>(sb.2 b hb).trans e) f0 f1 f3 f4 f5;obtain⟨o,e,c,d⟩:=id ak;exact⟨u,rfl,xi (s:={s with heap:=h'}) e c d (by decide) ⟨x,H,I1,ru,⟨rfl,λys hy=>by rw[I.vo hy hq];exact hx⟩,ak,λb hb=>(hf b hb).1⟩⟩
 done:=by intro X hP hw hK hc i pins s σ H E I hf st hg;subst hP hw hK;obtain⟨xs,hq,hx⟩:=hg;obtain⟨its,rv,p,hz⟩:=I.tuple hq;obtain⟨f0,f1,f2,f3,f4,f5⟩:=hf it (by simp);have hl:=rv.length;exact wpAny_pyNext_tuple_end (I.ok.hd hc) st (show s.heap.IsTuple a its.toArray from p) (by simp;lia) λh' eb=>⟨rfl,I.turned (t':=s.toks) (λb o hb e=>eb b o hb e) f0 f1 f3 f4 f5⟩
 self:=λ_ _ _ _ _ st h=>wpAny_pyIter_tupleiter st h
theorem rG {P:Program} {w:World} {K:PySem.W.Frag} {tg:Expr} (it:Addr) (lo:Int) (n:Nat):Turn P w K tg (Jk lo n) [it] it (λi h=>IsRangeIter h it (lo + (i:Nat) * 1) ((n:Int) - (i:Nat)) 1) where
 mem:=by simp
 obj:=λi h st b hb=>by
  have e:b=it:=by simpa using hb
  subst e;exact⟨_,st,λv z=>by
   have z':Data.fields _=Data.cell v:=z;cases z'⟩
 keep:=λi h h' st k=>k it (by simp) _ st
 item:=by
  intro X hP hw hK hc i pins s σ H E I hf st hg;subst hP hw hK;obtain⟨f0,f1,f2,f3,f4,f5⟩:=hf it (by simp);have W:=Walks.range (prog:=X.prog) (w:=X.w) (I.ok.hd hc) it lo 1 n;refine W.item i s _ _ hg st λv h' tk hv ak kk=>?_
  obtain⟨t,rfl⟩:=hv;have I1:Inv X pins σ H {s with heap:=h',toks:=tk}:=I.turned (λb o hb e=>kk b o (by simpa using hb) e) f0 f1 f3 f4 f5;refine⟨_,rfl,xi (s:={s with heap:=h',toks:=tk}) (n:="range_iterator") ak rfl rfl (by decide) ⟨.int (lo + i),H,I1,⟨t,?_⟩,⟨rfl,rfl⟩,ak,λb hb=>(hf b hb).1⟩⟩;rw[Int.mul_one]
 done:=by intro X hP hw hK hc i pins s σ H E I hf st hg;subst hP hw hK;obtain⟨f0,f1,f2,f3,f4,f5⟩:=hf it (by simp);exact wpAny_pyNext_range_end (I.ok.hd hc) st (by have:n<=i:=hg;lia) λh' eb=>⟨rfl,I.turned (t':=s.toks) (λb o hb e=>eb b o hb e) f0 f1 f3 f4 f5⟩
 self:=λ_ _ _ _ _ st h=>wpAny_pyIter_rangeiter st h
end L2
namespace L2
open PySem PySem.Spec PyProof.Rows
section
variable {X:Cx} {tg:Expr}
theorem yy {pins:List (Addr×Obj)} {σ:St} {H:Hp} {s:Shared} {R:It->Hp->Prop} {E:Value->Shared->Prop} {lo hi:Int} {t u v:Tok} {tk:Nat} (I:Inv X pins σ H s) (h1: -(2 ^ 62)<=lo) (h2:lo < 2 ^ 62) (h3: -(2 ^ 62)<=hi) (h4:hi < 2 ^ 62)
  (q:R (Jk lo (hi - lo).toNat) H):wpAny (model X.prog X.w) X.A (pyIter (.ref s.heap.objs.size)) (MB X pins σ tg R) E {s with heap:=s.heap.push {cls:= .type "range",data:= .fields #[.int lo t,.int hi u,.int 1 v]},toks:=tk}:=by
 refine wpAny_pyIter_range (IsRange.new ..) (small_one h1 h2 h3 h4) ?_;have I1:Inv X pins σ H {s with heap:=s.heap.push {cls:= .type "range",data:= .fields #[.int lo t,.int hi u,.int 1 v]},toks:=tk}:=I.kept λb o e=>Qd _ e
 refine⟨(s.heap.push {cls:= .type "range",data:= .fields #[.int lo t,.int hi u,.int 1 v]}).objs.size,[(s.heap.push {cls:= .type "range",data:= .fields #[.int lo t,.int hi u,.int 1 v]}).objs.size],_,_,H,rfl,
  I1.kept (t':=tk) λb o e=>Qd _ e,rG _ lo (hi - lo).toNat,?_,λb hb=>?_,q⟩
 ·have e1:lo + ((0:Nat):Int) * 1=lo:=by simp
  have e2:(((hi - lo).toNat:Nat):Int) - ((0:Nat):Int)=Builtin.Range.rangeSize lo hi 1:=by rw[rangeSize_one];split <;> lia
  show IsRangeIter _ _ (lo + ((0:Nat):Int) * 1) ((((hi - lo).toNat:Nat):Int) - ((0:Nat):Int)) 1;rw[e1,e2];exact Qn _ rfl
 ·have e:b=(s.heap.push {cls:= .type "range",data:= .fields #[.int lo t,.int hi u,.int 1 v]}).objs.size:=by simpa using hb
  subst e;exact I1.uI (Ql _) (I1.hok.fresh (Ql _))
noncomputable def Hf (ta:TA):TI:=λσ H R=>ta σ H λvs H1=>∃j:Int,vs=[.int j]/\ -(2 ^ 62)<=j/\j < 2 ^ 62/\R (Jk 0 j.toNat) H1
theorem u6 {a:Expr} {ta:TA} {p pos:Pos} (hg:Gl X "range") (hm:X.mg "range"=none) (ha:PA X [a] ta) (hs:starEach [a] X.env=[(false,eval a X.env)]:=by rfl):PI X tg (.Call (.Name "range" p) [a] [] pos) (Hf ta):=by
 intro pins s σ H R I h;refine Call_ (kf I hg hm boot_range (PyProof.Rows.callWith_type1 (bO (ha pos pins s σ H _ I h) λus s1 ⟨vs,H1,I1,r1,q1⟩=>?_) hs rfl));obtain⟨j,e,q1,q2,q⟩:=q1;subst e;cases r1 with
 | cons r rr=>cases rr;obtain⟨t,rfl⟩:=r;exact call_range_1 (yy I1 (by lia) (by lia) q1 q2 (by simpa using q))
noncomputable def II (wi:TI) (g:TG) (tb:TS):TS:=λD σ H=>wi σ H λJ H1=>∃W:Nat->Nat->St->Hp->Prop,(∃m,W 0 m σ H1)/\∀i m σ H,W i m σ H->
 (J.stop i H/\D.nx σ H)\/(J.go i H/\∃N:St->Hp->Prop,(∀σ' H',N σ' H'->∃m',m' < m/\W (i + 1) m' σ' H')/\∀x H',J.yld i H x H'->g x σ H' λσ2 H2=>tb {D with nx:=N,ct:=N,bk:=D.nx} σ2 H2)
noncomputable def kD (fp:List Addr) (h:Heap):List (Addr×Obj):=fp.filterMap λb=>(h.get? b).map λo=>(b,o)
theorem eA {fp:List Addr} {h:Heap} {b:Addr} {o:Obj} (hb:b∈fp) (e:h.get? b=some o):(b,o)∈kD fp h:=List.mem_filterMap.mpr ⟨b,hb,by rw[e];rfl⟩
theorem u3 {fp:List Addr} {h:Heap} {p:Addr×Obj} (hp:p∈kD fp h):p.1∈fp/\h.get? p.1=some p.2:=by
 obtain⟨b,hb,e⟩:=List.mem_filterMap.mp hp;cases q:h.get? b with
 | none=>rw[q] at e;cases e
 | some o=>rw[q] at e;have e':(b,o)=p:=Option.some.inj e;subst e';exact⟨hb,q⟩
theorem Inv.pinned {pins:List (Addr×Obj)} {σ:St} {H:Hp} {s:Shared} {fp:List Addr} (I:Inv X pins σ H s) (hf:∀b∈fp,gv X pins H b) (ho:∀b∈fp,∃o,s.heap.get? b=some o/\∀v,o.data≠ .cell v):Inv X (pins++kD fp s.heap) σ H s:=
 I.fU λp hp=>(QC.mp hp).elim (λz=>I.pin p (QM _ z)) λz=>by obtain⟨hb,e⟩:=u3 z;obtain⟨f0,f1,f2,_⟩:=hf p.1 hb;obtain⟨o,e',d⟩:=ho p.1 hb;rw[e] at e';cases e';exact⟨e,f0,f1,f2,d⟩
theorem Inv.iG {pins pl:List (Addr×Obj)} {σ:St} {H:Hp} {s:Shared} (I:Inv X (pins++pl) σ H s):Inv X pins σ H s:=I.fU λp hp=>I.pin p (QM _ (List.mem_append_left _ hp))
theorem Eu {iter:Expr} {body:List Stmt} {wi:TI} {g:TG} {tb:TS} {pos:Pos} (hp:PassesOwn (model X.prog X.w) X.A X.env X.xe) (hc:X.calm=true) (hi:PI X tg iter wi) (hg:PG X tg g) (hb:nO X body tb)
  (hs:∀x,foldedSetIterable iter X.env x=pure x:=by intro _;rfl):PS X (.For tg iter body [] pos) (II wi g tb):=by
 intro pins s σ H D I h;refine wpAny_For (bO (hi pins s σ H _ I h) λv s1 h1=>bO h1 λqI s2 h2=>?_) hs;obtain⟨it,fp,tn,J,H2,e,I2,T,dJ,f2,W,⟨m0,w0⟩,turn⟩:=h2;subst e;have ny:∀{H':Hp},(∀b∈fp,H' b=none)->∀b∈fp,gv X pins H' b:=λhn b hb=>⟨hn b hb,(f2 b hb).2⟩
 refine codeAny_forLoop_any (λn s'=>∃i σ' H',Inv X pins σ' H' s'/\tn i s'.heap/\(∀b∈fp,H' b=none)/\W i n σ' H') ?_ m0 ⟨0,σ,H2,I2,dJ,λb hb=>(f2 b hb).1,w0⟩;rintro n s3 ⟨i,σ3,H3,I3,FS,ML,w3⟩;rcases turn i n σ3 H3 w3 with ⟨stop,qn⟩ | ⟨go,N,hN,step⟩
 ·refine wpAny_passesOwn hp (bO (T.done X rfl rfl rfl hc i pins s3 σ3 H3 X.xe I3 (ny ML) FS stop) λr s4 ⟨hr,I4⟩=>?_);subst hr;exact wpAny_execs_nil ⟨σ3,H3,I4,qn⟩
 ·refine wpAny_passesOwn hp (bO (T.item X rfl rfl rfl hc i pins s3 σ3 H3 X.xe I3 (ny ML) FS go) λr s4 ⟨u,hr,h4⟩=>?_);subst hr;refine wpAny_passesOwn hp (bO h4 λ_ s5 ⟨x,H5,I5,r5,y5,Mf,Kt⟩=>?_);have NG:=I5.pinned (ny Kt) (T.obj _ _ Mf);refine wpAny_passesOwn hp (bO (hg _ s5 σ3 H5 x u _ NG r5 (step x H5 y5)) λ_ s6 ⟨σ6,H6,I6,q6⟩=>?_);refine wpAny_passesOwn hp (bO (hb _ s6 σ6 H6 _ I6 q6) λf s7 q7=>?_);have again:∀{σ7:St} {H7:Hp},Inv X (pins++kD fp s5.heap) σ7 H7 s7->N σ7 H7->∃m,m < n/\∃i σ' H',Inv X pins σ' H' s7/\tn i s7.heap/\(∀b∈fp,H' b=none)/\W i m σ' H':=λ {σ7 H7} I7 n7=>by obtain⟨m',hm,w7⟩:=hN σ7 H7 n7;refine⟨m',hm,i + 1,σ7,H7,I7.iG,T.keep _ _ _ Mf λb hb o e=>(I7.pin (b,o) (QM _ (QM _ (eA hb e)))).1,λb hb=>?_,w7⟩;obtain⟨o,e,d⟩:=T.obj _ _ Mf b hb;exact(I7.pin (b,o) (QM _ (QM _ (eA hb e)))).2.1
  cases f with
  | next=>obtain⟨σ7,H7,I7,n7⟩:=q7;exact again I7 n7
  | cont=>obtain⟨σ7,H7,I7,n7⟩:=q7;exact again I7 n7
  | brk=>obtain⟨σ7,H7,I7,q7⟩:=q7;exact⟨σ7,H7,I7.iG,q7⟩
  | ret v=>obtain⟨x7,σ7,H7,I7,r7,q7⟩:=q7;exact⟨x7,σ7,H7,I7.iG,r7,q7⟩
end
end L2
namespace L2
open PySem PySem.Spec PyProof.Rows
noncomputable abbrev R2:=V->V->Hp->VK->Prop
noncomputable def jx (X:Cx) (f:Value->Value->Sem Value) (r:R2):Prop:=
 ∀(pins:List (Addr×Obj)) (s:Shared) (σ:St) (H:Hp) (x y:V) (v u:Value) (Q:VK),Inv X pins σ H s->RelV x v->RelV y u->r x y H Q->
  wpAny (model X.prog X.w) X.A (f v u) (EP X pins σ Q) X.xe s
noncomputable def J3 (X:Cx) (f:Value->Sem Value) (r:V->Hp->VK->Prop):Prop:=
 ∀(pins:List (Addr×Obj)) (s:Shared) (σ:St) (H:Hp) (x:V) (v:Value) (Q:VK),Inv X pins σ H s->RelV x v->r x H Q->
  wpAny (model X.prog X.w) X.A (f v) (EP X pins σ Q) X.xe s
noncomputable def eQ (X:Cx) (f:Value) (r:List V->Hp->VK->Prop):Prop:=
 ∀(pins:List (Addr×Obj)) (s:Shared) (σ:St) (H:Hp) (xs:List V) (us:List Value) (Q:VK),Inv X pins σ H s->aw xs us->r xs H Q->
  wpAny (model X.prog X.w) X.A (call f us) (EP X pins σ Q) X.xe s
noncomputable def J2 (X:Cx) (r:V->Hp->(Bool->Hp->Prop)->Prop):Prop:=
 ∀(pins:List (Addr×Obj)) (s:Shared) (σ:St) (H:Hp) (x:V) (v:Value) (Q:Bool->Hp->Prop),Inv X pins σ H s->RelV x v->r x H Q->
  wpAny (model X.prog X.w) X.A (truthy v) (TP X pins σ Q) X.xe s
noncomputable def JL (r:R2) (ta tb:TE):TE:=λσ H Q=>ta σ H λx H1=>tb σ H1 λy H2=>r x y H2 Q
noncomputable def Pw (r:V->Hp->VK->Prop) (ta:TE):TE:=λσ H Q=>ta σ H λx H1=>r x H1 Q
noncomputable def rI (C:Int->Int->Prop) (g:Int->Int->V):R2:=λx y H Q=>∃i j,x= .int i/\y= .int j/\C i j/\Q (g i j) H
noncomputable def Cg (g:Int->Int->V):R2:=λx y H Q=>∃i j,x= .int i/\y= .int j/\Q (g i j) H
noncomputable def rU (g:Int->V):V->Hp->VK->Prop:=λx H Q=>∃i,x= .int i/\Q (g i) H
section
variable {X:Cx} {a b c:Expr} {ta tb tc:TE} {pos:Pos}
theorem CM (ha:PE X a ta) (hb:PE X b tb) {pins:List (Addr×Obj)} {s:Shared} {σ:St} {H:Hp} {R:V->V->Hp->Prop} (I:Inv X pins σ H s)
  (h:ta σ H λx H1=>tb σ H1 λy H2=>R x y H2) {Q:Value->Shared->Prop} {f:Value->Value->Sem Value}
  (hf:∀v u s2 x y H2,Inv X pins σ H2 s2->RelV x v->RelV y u->R x y H2->wpAny (model X.prog X.w) X.A (f v u) Q X.xe s2):
  wpAny (model X.prog X.w) X.A (eval a X.env) (λv s₁=>wpAny (model X.prog X.w) X.A (eval b X.env) (λu s₂=>wpAny (model X.prog X.w) X.A (f v u) Q X.xe s₂) X.xe s₁) X.xe s:=by
 refine bO (ha pins s σ H _ I h) λv s1 ⟨x,H1,I1,r1,q1⟩=>?_
 refine bO (hb pins s1 σ H1 _ I1 q1) λu s2 ⟨y,H2,I2,r2,q2⟩=>?_
 exact hf v u s2 x y H2 I2 r1 r2 q2
theorem Cc {op:Operator} {r:R2} (ho:jx X (binaryOp op) r) (ha:PE X a ta) (hb:PE X b tb):PE X (.BinOp a op b pos) (JL r ta tb):=by intro pins s σ H Q I h;exact wpAny_BinOp (CM ha hb I h λv u s2 x y H2 I2 rx ry q=>ho pins s2 σ H2 x y v u Q I2 rx ry q)
theorem HQ {op:UnaryOp} {r:V->Hp->VK->Prop} (ho:J3 X (unaryOp op) r) (ha:PE X a ta):PE X (.UnaryOp op a pos) (Pw r ta):=by intro pins s σ H Q I h;exact UnaryOp_ (bO (ha pins s σ H _ I h) λv s1 ⟨x,H1,I1,r1,q1⟩=>ho pins s1 σ H1 x v Q I1 r1 q1)
theorem HF {f:Value->Value->Sem Value} {C:Int->Int->Prop} {g:Int->Int->Int}
  (rule:∀(i j:Int) (t u:Tok) (s:Shared) (Q:Value->Shared->Prop) (E:Value->Shared->Prop),C i j->Q (.int (g i j) s.toks) {s with toks:=s.toks + 1}->wpAny (model X.prog X.w) X.A (f (.int i t) (.int j u)) Q E s):
  jx X f (rI C λi j=> .int (g i j)):=by
 intro pins s σ H x y v u Q I rx ry h;obtain⟨i,j,rfl,rfl,hc,q⟩:=h;obtain⟨t,rfl⟩:=rx;obtain⟨t',rfl⟩:=ry;exact rule i j t t' s _ _ hc ⟨.int (g i j),H,I.tok _,⟨_,rfl⟩,q⟩
theorem HG {f:Value->Value->Sem Value} {g:Int->Int->Int}
  (rule:∀(i j:Int) (t u:Tok) (s:Shared) (Q:Value->Shared->Prop) (E:Value->Shared->Prop),Q (.int (g i j) s.toks) {s with toks:=s.toks + 1}->wpAny (model X.prog X.w) X.A (f (.int i t) (.int j u)) Q E s):
  jx X f (Cg λi j=> .int (g i j)):=by
 intro pins s σ H x y v u Q I rx ry h;obtain⟨i,j,rfl,rfl,q⟩:=h;obtain⟨t,rfl⟩:=rx;obtain⟨t',rfl⟩:=ry;exact rule i j t t' s _ _ ⟨.int (g i j),H,I.tok _,⟨_,rfl⟩,q⟩
theorem A5 {f:Value->Value->Sem Value} {g:Int->Int->Bool}
  (rule:∀(i j:Int) (t u:Tok) (s:Shared) (Q:Value->Shared->Prop) (E:Value->Shared->Prop),Q (.bool (g i j)) s->wpAny (model X.prog X.w) X.A (f (.int i t) (.int j u)) Q E s):
  jx X f (Cg λi j=> .bl (g i j)):=by
 intro pins s σ H x y v u Q I rx ry h;obtain⟨i,j,rfl,rfl,q⟩:=h;obtain⟨t,rfl⟩:=rx;obtain⟨t',rfl⟩:=ry;exact rule i j t t' s _ _ ⟨.bl (g i j),H,I,rfl,q⟩
noncomputable def JS (i j:Int):Prop:=0 < j/\j < 1073741824
noncomputable def JT (i j:Int):Prop:=0<=j/\j<=1000000/\i.natAbs < 2 ^ 64
noncomputable def Ct (i j:Int):Prop:=(-(2 ^ 64) < i/\i < 2 ^ 64)\/(-(2 ^ 64) < j/\j < 2 ^ 64)
theorem Ct.ok {i j:Int} (h:Ct i j):IntMulOk i j:=by
 rcases h with ⟨h1,h2⟩ | ⟨h1,h2⟩
 ·exact .of_left (intBits_le_64 h1 h2)
 ·exact .of_right (intBits_le_64 h1 h2)
theorem D5:jx X (binaryOp .Add) (Cg λi j=> .int (i + j)):=HG λ_ _ _ _ _ _ _ q=>add_int q
theorem Ec:jx X (binaryOp .Sub) (Cg λi j=> .int (i - j)):=HG λ_ _ _ _ _ _ _ q=>sub_int q
theorem Ea:jx X (binaryOp .Mult) (rI Ct λi j=> .int (i * j)):=HF λ_ _ _ _ _ _ _ hc q=>mul_int q hc.ok
theorem JJ:jx X (binaryOp .FloorDiv) (rI JS λi j=> .int (i / j)):=HF λi j _ _ _ _ _ hc q=>by have h1:(0:Int) < j:=hc.1;have h2:j < 1073741824:=hc.2;exact floordiv_int (by lia) (by rw[Int.fdiv_eq_ediv_of_nonneg i (by lia)];exact q) (.inl (PyProof.noPylong_small (by lia)))
theorem D9:jx X (binaryOp .Mod) (rI (λ_ j=>0 < j) λi j=> .int (i % j)):=HF λi j _ _ _ _ _ hc q=>by have h1:(0:Int) < j:=hc;exact mod_int' (by lia) (by rw[Int.fmod_eq_emod_of_nonneg i (by lia)];exact q)
theorem Eb:jx X (binaryOp .Pow) (rI JT λi j=> .int (i ^ j.toNat)):=HF λ_ _ _ _ _ _ _ hc q=>pow_int_small hc.1 hc.2.1 hc.2.2 q
theorem PC {f:Value->Sem Value} {g:Int->Int}
  (rule:∀(i:Int) (t:Tok) (s:Shared) (Q:Value->Shared->Prop) (E:Value->Shared->Prop),Q (.int (g i) s.toks) {s with toks:=s.toks + 1}->wpAny (model X.prog X.w) X.A (f (.int i t)) Q E s):
  J3 X f (rU λi=> .int (g i)):=by
 intro pins s σ H x v Q I rx h;obtain⟨i,rfl,q⟩:=h;obtain⟨t,rfl⟩:=rx;exact rule i t s _ _ ⟨.int (g i),H,I.tok _,⟨_,rfl⟩,q⟩
theorem Fb:J3 X (unaryOp .USub) (rU λi=> .int (-i)):=PC λ_ _ _ _ _ q=>neg_int q
end
section
variable {X:Cx} {a b c:Expr} {ta tb tc:TE} {pos:Pos}
theorem wO {pins:List (Addr×Obj)} {σ:St} {H:Hp} {s:Shared} {Q:VK} {k k':Bool} (I:Inv X pins σ H s) (q:Q (.bl k) H) (e:k=k'):EP X pins σ Q (.bool k') s:=by subst e;exact⟨.bl k,H,I,rfl,q⟩
theorem HL:jx X (compareOp .Lt) (Cg λi j=> .bl (decide (i < j))):=A5 λ_ _ _ _ _ _ _ q=>lt_int q
theorem HK:jx X (compareOp .LtE) (Cg λi j=> .bl (decide (i<=j))):=A5 λ_ _ _ _ _ _ _ q=>le_int q
theorem HJ:jx X (compareOp .Gt) (Cg λi j=> .bl (decide (j < i))):=A5 λ_ _ _ _ _ _ _ q=>gt_int q
theorem HH:jx X (compareOp .GtE) (Cg λi j=> .bl (decide (j<=i))):=A5 λ_ _ _ _ _ _ _ q=>ge_int q
theorem D8:jx X (compareOp .Is) (λx y H Q=>y= .bb/\Q (.bl (decide (x= .bb))) H):=by
 intro pins s σ H x y v u Q I rx ry h;obtain⟨rfl,q⟩:=h;cases ry;refine is_none_gen (wO I q ?_);cases x <;> first
  | (cases rx;rfl)
  | (obtain⟨t,rfl⟩:=rx;rfl)
theorem A7:jx X (compareOp .IsNot) (λx y H Q=>y= .bb/\Q (.bl (!decide (x= .bb))) H):=by
 intro pins s σ H x y v u Q I rx ry h;obtain⟨rfl,q⟩:=h;cases ry;refine isnot_none_gen (wO I q ?_);cases x <;> first
  | (cases rx;rfl)
  | (obtain⟨t,rfl⟩:=rx;rfl)
theorem tF {op:CmpOp} {r:R2} (ho:jx X (compareOp op) r) (ha:PE X a ta) (hb:PE X b tb) (hm:behindInMarks op b=false):PE X (.Compare a [op] [b] pos) (JL r ta tb):=by intro pins s σ H Q I h;exact wpAny_Compare1 (CM ha hb I h λv u s2 x y H2 I2 rx ry q=>ho pins s2 σ H2 x y v u Q I2 rx ry q) hm
noncomputable def IQ (t:TE):TT:=λσ H Q=>t σ H λx H'=>∃k,x= .bl k/\Q k H'
theorem Bl {op:CmpOp} {r:R2} (ho:jx X (compareOp op) r) (ha:PE X a ta) (hb:PE X b tb) (hm:behindInMarks op b=false):PT X (.Compare a [op] [b] pos) (IQ (JL r ta tb)):=by
 intro pins s σ H Q I h;refine wpAny_isTrue_Compare1 (bO (ha pins s σ H _ I h) λv s1 ⟨x,H1,I1,r1,q1⟩=>bO (hb pins s1 σ H1 _ I1 q1) λu s2 ⟨y,H2,I2,r2,q2⟩=>
  bO (ho pins s2 σ H2 x y v u _ I2 r1 r2 q2) λc s3 ⟨z,H3,I3,r3,k,e,q3⟩=>?_) hm
 subst e;cases r3;exact wpAny_truthy_bool ⟨H3,I3,q3⟩
noncomputable def F9 (K:PySem.W.Frag) (x:V) (H:Hp) (k:Bool):Prop:=
 match x with
 | .bb=>k=false
 | .bl b=>k=b
 | .int i=>k=(i != 0)
 | .str y=>y.length<=sizeLine/\k=((y.length:Int) != 0)
 | .CQ y=>y.size<=sizeLine/\k=((y.size:Int) != 0)
 | .ref p=>(∃xs,dE K H p xs/\k= !xs.isEmpty)\/(∃xs,eh K H p xs/\k= !xs.isEmpty)\/∃bq,H p=some (.dK bq)/\k= !bq.isEmpty
 | _=>False
theorem qH {κ:Type} {bq:List (κ×V)} {vs:List (κ×Value)} (r:KV bq vs):(!vs.isEmpty)= !bq.isEmpty:=by cases r <;> rfl
theorem kb {xs:List V} {its:List Value} (r:aw xs its):(!its.toArray.isEmpty)= !xs.isEmpty:=by cases r <;> simp
theorem iX:(sizeLine:Nat) < 2 ^ 63:=by rw[sizeLine_eq];decide
theorem eL:J2 X (λx H Q=>∃k,F9 X.K x H k/\Q k H):=by
 intro pins s σ H x v Q I rx h;obtain⟨k,e,q⟩:=h;have hl:=iX;have hs:sizeLine=16777216:=sizeLine_eq;cases x with
 | bb=>cases rx;have e':k=false:=e;subst e';exact truthy_none ⟨H,I,q⟩
 | bl b=>cases rx;have e':k=b:=e;subst e';exact wpAny_truthy_bool ⟨H,I,q⟩
 | int i=>obtain⟨t,rfl⟩:=rx;have e':k=(i != 0):=e;subst e';exact PySem.P.truthy_int ⟨H,I,q⟩
 | str y=>obtain⟨t,rfl⟩:=rx;obtain⟨hy,e'⟩:y.length<=sizeLine/\k=((y.length:Int) != 0):=e;subst e';exact PySem.P.truthy_str (by lia) ⟨H,I.tok _,q⟩
 | CQ y=>obtain⟨t,rfl⟩:=rx;obtain⟨hy,e'⟩:y.size<=sizeLine/\k=((y.size:Int) != 0):=e;subst e';exact PySem.W.truthy_bytes (by lia) ⟨H,I.tok _,q⟩
 | ref p=>
  cases rx;have e':(∃xs,dE X.K H p xs/\k= !xs.isEmpty)\/(∃xs,eh X.K H p xs/\k= !xs.isEmpty)\/∃bq,H p=some (.dK bq)/\k= !bq.isEmpty:=e;rcases e' with ⟨xs,hx,e'⟩ | ⟨xs,hx,e'⟩ | ⟨bq,hx,e'⟩
  ·subst e';obtain⟨its,r,pl,hz⟩:=I.list hx;have hlen:=r.length;exact wpAny_truthy_list pl.isList (by simp only[Qg];lia) ⟨H,I.tok _,by rw[kb r];exact q⟩
  ·subst e';obtain⟨its,r,pl,hz⟩:=I.tuple hx;have hlen:=r.length;exact truthy_tuple pl (by simp only[Qg];lia) ⟨H,I.tok _,by rw[kb r];exact q⟩
  ·subst e';obtain⟨hz,hS,vs,r,m⟩:bq.length<=sizeLine/\(p==sysModules)=false/\∃vs,KV bq vs/\s.heap.DictOf (cw X.prog X.w) p vs:=I.hok p _ hx;have hlen:bq.length=vs.length:=Paired.length r;exact wpAny_truthy_dict hS m (by lia) ⟨H,I.tok _,by rw[qH r];exact q⟩
 | _=>exact(show False from e).elim
theorem yu (ha:PE X a ta) (he:∀whole,isTrue a X.env whole=(do let v<-whole;standAt a.pos;holding [v] (truthy v))):
  PT X a (λσ H Q=>ta σ H λx H'=>∃k,F9 X.K x H' k/\Q k H'):=by
 intro pins s σ H Q I h;exact isTrue_plain (bO (ha pins s σ H _ I h) λv s1 ⟨x,H1,I1,r1,q1⟩=>eL pins s1 σ H1 x v Q I1 r1 q1) (he _)
theorem qU:jx X (binaryOp .Add) (λx y H Q=>∃i j,x= .str i/\y= .str j/\i.length + j.length<=sizeLine/\Q (.str (i++j)) H):=by intro pins s σ H x y v u Q I rx ry h;obtain⟨i,j,rfl,rfl,hz,q⟩:=h;obtain⟨t,rfl⟩:=rx;obtain⟨t',rfl⟩:=ry;exact add_str (λt' tk=>⟨.str (i++j),H,I.tok _,⟨_,rfl⟩,q⟩) hz
theorem vals1 {x:V} {us:List Value} (r:aw [x] us):∃u,us=[u]/\RelV x u:=by
 cases r with
 | cons r1 r2=>cases r2;exact⟨_,rfl,r1⟩
theorem vals2 {x y:V} {us:List Value} (r:aw [x,y] us):∃u w',us=[u,w']/\RelV x u/\RelV y w':=by
 cases r with
 | cons r1 r2=>
  cases r2 with
  | cons r3 r4=>cases r4;exact⟨_,_,rfl,r1,r3⟩
theorem ux (hc:X.calm=true):eQ X (.builtin "min") (λxs H Q=>∃i j,xs=[.int i,.int j]/\Q (.int (if j < i then j else i)) H):=by
 intro pins s σ H xs us Q I r h;obtain⟨i,j,rfl,q⟩:=h;obtain⟨u,w',rfl,⟨t,rfl⟩,⟨t',rfl⟩⟩:=vals2 r;refine min_two_ints (I.ok.hd hc) λh' tk k=>⟨_,H,I.kept k,?_,q⟩
 by_cases hj:j < i
 ·rw[if_pos hj,if_pos hj];exact⟨_,rfl⟩
 ·rw[if_neg hj,if_neg hj];exact⟨_,rfl⟩
noncomputable def JZ (K:PySem.W.Frag) (x:V) (H:Hp) (n:Nat):Prop:=
 match x with
 | .str y=>y.length<=sizeLine/\n=y.length
 | .CQ y=>y.size<=sizeLine/\n=y.size
 | .ref p=>(∃xs,dE K H p xs/\n=xs.length)\/∃xs,eh K H p xs/\n=xs.length
 | _=>False
theorem gS:eQ X (.builtin "len") (λxs H Q=>∃x n,xs=[x]/\JZ X.K x H n/\Q (.int n) H):=by
 intro pins s σ H xs us Q I r h;obtain⟨x,n,rfl,e,q⟩:=h;obtain⟨u,rfl,rx⟩:=vals1 r;have hl:=iX;have hs:sizeLine=16777216:=sizeLine_eq;cases x with
 | str y=>obtain⟨t,rfl⟩:=rx;obtain⟨hy,e'⟩:y.length<=sizeLine/\n=y.length:=e;subst e';exact len_str (by lia) ⟨.int _,H,I.tok _,⟨_,rfl⟩,q⟩
 | CQ y=>obtain⟨t,rfl⟩:=rx;obtain⟨hy,e'⟩:y.size<=sizeLine/\n=y.size:=e;subst e';exact PySem.W.len_bytes (by lia) ⟨.int _,H,I.tok _,⟨_,rfl⟩,q⟩
 | ref p=>
  cases rx;have e':(∃xs,dE X.K H p xs/\n=xs.length)\/∃xs,eh X.K H p xs/\n=xs.length:=e;rcases e' with ⟨xs,hx,e'⟩ | ⟨xs,hx,e'⟩
  ·subst e';obtain⟨its,r',pl,hz⟩:=I.list hx;have hlen:=r'.length;exact Calls.call_len_list pl.isList (by simp only[Qg];lia) ⟨.int xs.length,H,I.tok _,⟨_,by simp only[Qg];rw[hlen]⟩,q⟩
  ·subst e';obtain⟨its,r',pl,hz⟩:=I.tuple hx;have hlen:=r'.length;exact len_tuple pl (by simp only[Qg];lia) ⟨.int xs.length,H,I.tok _,⟨_,by simp only[Qg];rw[hlen]⟩,q⟩
 | _=>exact(show False from e).elim
end
end L2
namespace L2
open PySem PySem.Spec PyProof.Rows
structure Cz (h:Heap) (x dx C:Addr) (mA:Str->Option Value):Prop where
 obj:h.get? x=some (PySem.W.instObj C dx)
 ns:h.Ns1 dx mA
 ne:dx≠x
theorem uX {h:Heap} {dx:Addr} {mA:Str->Option Value} (n:h.Ns1 dx mA):∃od,h.get? dx=some od/\∀name,PySem.W.lookIn name od=some (mA name):=by
 obtain⟨o,es,ep,ho,hd,hk,_,hm⟩:=n;refine⟨o,ho,λname=>?_⟩;have e:=hm name;unfold nsFind findBy at e;rw[<-Array.find?_toList] at e;unfold PySem.W.lookIn;rw[hd];dsimp only;split
 ·rename_i y q;rw[q] at e;exact congrArg some e
 ·rename_i q;rw[q] at e;have a:es.toList.any (·.refKey)=false:=by rw[List.any_eq_false];intro y hy;obtain⟨z,t,KY⟩:=hk y (Array.mem_toList_iff.mp hy);simp[DictEntry.refKey,KY]
  have a':¬es.toList.any (·.refKey)=true:=by rw[a];exact Bool.false_ne_true
  rw[if_neg a'];exact congrArg some e
theorem Cz.look {h:Heap} {x dx C:Addr} {mA:Str->Option Value} (I:Cz h x dx C mA):∃od,PySem.W.InstAt h x (PySem.W.instObj C dx) C (some od)/\∀name,PySem.W.lookIn name od=some (mA name):=
 let ⟨od,ho,hl⟩:=uX I.ns
 ⟨od,⟨I.obj,rfl,rfl,ho⟩,hl⟩
section
variable {P:Program} {w:World} {H H':Hp} {h h':Heap} {a C dx:Addr} {fs Ku:List (Str×V)}
theorem AF (hok:d9 P w H h) (e:H a=some (.ins C dx fs)):∃mA,Cz h a dx C mA/\(∀f,zK (fs.lookup f) (mA f))/\PySem.Within mA (fs.map (·.1))/\fs.length<=1000/\H dx=some (.own a):=by obtain⟨d,z,ne,ob,mA,n,r,q⟩:=(show bw P w H h a (.ins C dx fs) from hok a _ e);exact⟨mA,⟨ob,n,ne⟩,r,q,z,d⟩
end
structure JU (K:PySem.W.Frag) (C:Addr):Prop where
 pg:PySem.W.plainGet K C Str.empty=true
 hd:PySem.W.hasDictIn K C=true
 po:PySem.W.plainOver K C=true
 sa:PySem.W.findIn K (.ref C) "__setattr__"=some (some (.builtin "object.__setattr__"))
theorem JU.get {K:PySem.W.Frag} {C:Addr} (c:JU K C) (f:Str):PySem.W.plainGet K C f=true:=c.pg
section
variable {X:Cx} {pins:List (Addr×Obj)} {σ:St} {H:Hp} {s:Shared} {A:Around} {E:Value->Shared->Prop} {Q:Value->Shared->Prop} {c:Value} {b:Bool}
inductive gR (K:PySem.W.Frag) (H:Hp):V->Value->Prop where
 | bb:gR K H .bb (.type "NoneType")
 | bl (x:Bool):gR K H (.bl x) (.type "bool")
 | int (i:Int):gR K H (.int i) (.type "int")
 | str (x:Str):gR K H (.str x) (.type "str")
 | zq (x:UInt64):gR K H (.zq x) (.type "float")
 | lst {a:Addr} {xs:List V} (e:H a=some (.lst xs)):gR K H (.ref a) (.type "list")
 | sE {a:Addr} {o:Obj} {xs:List V} (e:H a=some (.sE o (.lst xs))):gR K H (.ref a) (.type "list")
 | tup {a:Addr} {xs:List V} (e:H a=some (.tup xs)):gR K H (.ref a) (.type "tuple")
 | dK {a:Addr} {bq:List (Key×V)} (e:H a=some (.dK bq)):gR K H (.ref a) (.type "dict")
 | dT {a:Addr} {bq:List (List Key×V)} (e:H a=some (.dT bq)):gR K H (.ref a) (.type "dict")
 | ins {a C dx:Addr} {fs:List (Str×V)} (e:H a=some (.ins C dx fs)) (cl:JU K C) (ha:PySem.W.findIn K (.ref C) "__class__"=some (some (.builtin "object.__class__")))
   (hn:PySem.W.specialIn K (.builtin "object.__class__") "__get__"=some (some (.builtin "getset_descriptor.__get__"))) (Nf:PySem.W.takesIn K (.builtin "object.__class__")=some true)
   (hm:PySem.W.mroIn K C (.type "object")=some true):gR K H (.ref a) (.ref C)
theorem uR {x:V} {u t:Value} (I:Inv X pins σ H s) (rx:RelV x u) (ty:gR X.K H x t) (e:PySem.W.kitOne X.K t c=some b) (h:∀tk,Q (.bool b) {s with toks:=tk}):
  wpAny (model X.prog X.w) A (call (.builtin "isinstance") [u,c]) Q E s:=by
 cases ty with
 | bb=>cases (show u=Value.none from rx);exact PySem.W.kia_one PySem.W.kitx_none I.jE True.intro e (λz=>nomatch z) h
 | bl y=>cases (show u=Value.bool y from rx);exact PySem.W.kia_one PySem.W.kitx_bool I.jE True.intro e (λz=>nomatch z) h
 | int i=>obtain⟨t,q⟩:=(show∃t,u=Value.int i t from rx);cases q;exact PySem.W.kia_one PySem.W.kitx_int I.jE True.intro e (λz=>nomatch z) h
 | str y=>obtain⟨t,q⟩:=(show∃t,u=Value.str y t from rx);cases q;exact PySem.W.kia_one PySem.W.kitx_str I.jE True.intro e (λz=>nomatch z) h
 | zq y=>obtain⟨t,q⟩:=(show∃t,u=Value.float y t from rx);cases q;exact PySem.W.kia_one PySem.W.kitx_float I.jE True.intro e (λz=>nomatch z) h
 | @lst a xs ea=>cases (show u=Value.ref a from rx);obtain⟨_,_,n,_,h1⟩:=(show bw X.prog X.w H s.heap a (.lst xs) from I.hok a _ ea);exact PySem.W.kia_one PySem.W.kitx_list I.jE ⟨_,h1,rfl⟩ e (λz=>nomatch z) h
 | @sE a ob xs ea=>cases (show u=Value.ref a from rx);obtain⟨_,_,_,n,_,h1⟩:=(show bw X.prog X.w H s.heap a (.sE ob (.lst xs)) from I.hok a _ ea);exact PySem.W.kia_one PySem.W.kitx_list I.jE ⟨_,h1,rfl⟩ e (λz=>nomatch z) h
 | @tup a xs ea=>cases (show u=Value.ref a from rx);obtain⟨_,_,_,p⟩:=(show bw X.prog X.w H s.heap a (.tup xs) from I.hok a _ ea);obtain⟨o,h1,h2,_⟩:=p;exact PySem.W.kia_one PySem.W.kitx_tuple I.jE ⟨o,h1,h2⟩ e (λz=>nomatch z) h
 | @dK a bq ea=>cases (show u=Value.ref a from rx);obtain⟨_,_,vs,_,p⟩:=(show bw X.prog X.w H s.heap a (.dK bq) from I.hok a _ ea);obtain⟨o,es,ep,h1,h2,_⟩:=p;exact PySem.W.kia_one PySem.W.kitx_dict I.jE ⟨o,h1,h2.1⟩ e (λz=>nomatch z) h
 | @dT a bq ea=>cases (show u=Value.ref a from rx);obtain⟨_,_,xs,_,o,es,ep,h1,h2,_⟩:=(show bw X.prog X.w H s.heap a (.dT bq) from I.hok a _ ea);exact PySem.W.kia_one PySem.W.kitx_dict I.jE ⟨o,h1,h2.1⟩ e (λz=>nomatch z) h
 | @ins a C dx fs ea cl ha hn Nf hm=>cases (show u=Value.ref a from rx);obtain⟨mA,O,_⟩:=AF I.hok ea;obtain⟨od,J,_⟩:=O.look;exact PySem.W.kia_one (PySem.W.kitx_own (cl.get _) cl.hd ha hn Nf hm) I.jE J e (λz=>nomatch z) h
end
end L2
namespace L2
open PySem PySem.Spec PyProof.Rows
structure gP (k:Nat) (A:Around):Prop where
 hd:A.handled=none
 dp:A.depth + 3 * k + 5 < recursionLimit
 un:A.units + 16 * k + 200 < cLine
theorem gP.deeper {k:Nat} {A:Around} (r:gP (k + 1) A) (env:Env):gP k (A.deeper env):=
 ⟨r.hd,by have:=r.dp;show A.depth + 1 + 3 * k + 5 < _;lia,by have:=r.un;show A.units + 3 + 16 * k + 200 < _;lia⟩
theorem gP.depth {k:Nat} {A:Around} (r:gP k A):A.depth < recursionLimit:=by have:=r.dp;lia
noncomputable def E0:TA:=λ_ H Q=>Q [] H
noncomputable def yR (ta:TE) (tr:TA):TA:=λσ H Q=>ta σ H λx H1=>tr σ H1 λxs H2=>Q (x::xs) H2
section
variable {X:Cx} {e:Expr} {es:List Expr} {te:TE} {t:TA} {pos:Pos}
theorem eI:PA X [] E0:=λ_ _ _ _ H Q I h=>Calls.spliced_nil ⟨[],H,I,.nil,h⟩
theorem bI (ha:PE X e te) (hr:PA X es t) (hs:starEach (e::es) X.env=(false,eval e X.env)::starEach es X.env:=by rfl):PA X (e::es) (yR te t):=by intro pos pins s σ H Q I h;rw[hs];show wpAny _ _ (spliced ((false,eval e X.env)::backTo pos (starEach es X.env))) _ _ s;refine Calls.spliced_cons (bO (ha pins s σ H _ I h) λu s1 ⟨x,H1,I1,r1,q1⟩=>?_);exact bO (hr pos pins s1 σ H1 _ I1 q1) λus s2 ⟨xs,H2,I2,r2,q2⟩=>⟨x::xs,H2,I2,.cons r1 r2,q2⟩
noncomputable def Mn (t:TA):TE:=λσ H Q=>t σ H λxs H1=>xs.length<=sizeLine/\∀p,H1 p=none->Q (.ref p) (upd H1 p (.tup xs))
noncomputable def Mk (t:TA):TE:=λσ H Q=>t σ H λxs H1=>xs.length<=sizeLine/\∀p,H1 p=none->Q (.ref p) (upd H1 p (.lst xs))
theorem El {x1} (h:PA X es t):PE X (.Tuple es x1 pos) (Mn t):=by intro pins s σ H Q I hq;refine wpAny_Tuple_spliced (bO (h pos pins s σ H _ I hq) λus s1 ⟨xs,H1,I1,r,z,q⟩=>⟨by rw[<-r.length];exact z,?_⟩);have hf:H1 s1.heap.objs.size=none:=I1.hok.fresh (Ql _);refine⟨.ref s1.heap.objs.size,upd H1 s1.heap.objs.size (.tup xs),I1.laid (t':=s1.toks) (λb u e=>Qd _ e) (Ql _) ?_,rfl,q _ hf⟩;exact⟨z,us,r,⟨_,Qn _ rfl,rfl,_,rfl,rfl,rfl⟩⟩
theorem yf (h:PA X es t):PE X (.List es pos) (Mk t):=by intro pins s σ H Q I hq;refine wpAny_List_spliced (bO (h pos pins s σ H _ I hq) λus s1 ⟨xs,H1,I1,r,z,q⟩=>⟨by rw[<-r.length];exact z,?_⟩);have hf:H1 s1.heap.objs.size=none:=I1.hok.fresh (Ql _);refine⟨.ref s1.heap.objs.size,upd H1 s1.heap.objs.size (.lst xs),I1.laid (t':=s1.toks) (λb u e=>Qd _ e) (Ql _) ?_,rfl,q _ hf⟩;exact⟨z,us,0,r,Qn _ rfl⟩
end
noncomputable abbrev Sp:=List V->Hp->VK->XK->Prop
noncomputable abbrev jt:=List Env->Hp->Shared->XK->Value->Shared->Prop
structure zH (P:Program) (w:World) (K:PySem.W.Frag) (mg:Str->Option Value) (base:Heap) (A:Around) (outer:List Env) (s:Shared) (H:Hp):Prop where
 frames:A.frames=some outer
 mod:Mod K mg base
 bs:∀b o,base.get? b=some o->s.heap.get? b=some o/\H b=none
 we:base.objs.size<=s.heap.objs.size
 gw:s.heap.FunFrames base outer
 Aj:∀b∈ec outer,H b=none
 hok:d9 P w H s.heap
 bare:AllBare s.gens
noncomputable def CE (outer:List Env) (P:Program) (w:World) (H:Hp) (s:Shared) (Q:VK) (u:Value) (s':Shared):Prop:=
 ∃v H',s'.os=s.os/\AllBare s'.gens/\Un (ec outer) [] H H' s.heap s'.heap/\d9 P w H' s'.heap/\RelV v u/\Q v H'
noncomputable def CR (CX:jt) (outer:List Env) (P:Program) (w:World) (H:Hp) (s:Shared) (Q:VK) (E:XK) (r:Result) (s':Shared):Prop:=
 match r with
 | .ok (.ret u)=>CE outer P w H s Q u s'
 | .ok _=>False
 | .error e=>CX outer H s E e s'
structure iK (P:Program) (w:World) (K:PySem.W.Frag) (mg:Str->Option Value) (base:Heap) (CX:jt) (k:Nat) (f:Addr) (fd:FuncData) (ps:List Str) (sp:Sp):Prop where
 len:∀vs H Q E,sp vs H Q E->vs.length=ps.length
 run:∀(A:Around) (outer:List Env) (s:Shared) (H:Hp) (args:Args) (us:List Value) (vs:List V) (Q:VK) (E:XK),gP k A->zH P w K mg base A outer s H->BindsTo s fd args (ps.zip us)->aw vs us->sp vs H Q E->
  codeAny (model P w) A (.call (.ref f) args) (CR CX outer P w H s Q E) s
theorem iK.imp {P:Program} {w:World} {K:PySem.W.Frag} {mg:Str->Option Value} {base:Heap} {CX:jt} {k:Nat} {f:Addr} {fd:FuncData} {ps:List Str} {sp Nr:Sp} (F:iK P w K mg base CX k f fd ps sp)
  (h:∀vs H Q E,Nr vs H Q E->sp vs H Q E):iK P w K mg base CX k f fd ps Nr:=
 ⟨λvs H Q E q=>F.len vs H Q E (h _ _ _ _ q),λA outer s H args us vs Q E hr he hb hv hs=>F.run A outer s H args us vs Q E hr he hb hv (h _ _ _ _ hs)⟩
section
variable {X:Cx} {pins:List (Addr×Obj)} {σ:St} {H:Hp} {s s':Shared}
theorem Inv.fz (I:Inv X pins σ H s):zH X.prog X.w X.K X.mg X.base X.A X.stack s H:=
 ⟨I.ok.frames,I.ok.mod,I.bs,Qr I.ok.we I.sz,I.stack,I.nB,I.hok,I.bare⟩
theorem Inv.after {Q:VK} {u:Value} (I:Inv X pins σ H s) (h:CE X.stack X.prog X.w H s Q u s'):EP X pins σ Q u s':=by obtain⟨v,H',os,bare,un,hok,r,q⟩:=h;obtain⟨hh,g,d,t,Pl⟩:=s';obtain rfl:Pl=s.os:=os;exact⟨v,H',I.call (h':=hh) (g':=g) (d':=d) (t':=t) (ch:=[]) un hok bare (λb z=>absurd z (by simp)),r,q⟩
end
noncomputable def IH (sp:Sp) (uE:List V) (E:XK) (t:TA):TE:=λσ H Q=>t σ H λvs H1=>sp (vs++uE) H1 Q E
noncomputable def Binds (K:PySem.W.Frag) (fd:FuncData) (ps:List Str) (ds:List Value):Prop:=
 ∀(s:Shared) (us:List Value),K.In s.heap->(us++ds).length=ps.length->BindsTo s fd ⟨us,[]⟩ (ps.zip (us++ds))
theorem Binds.all {K:PySem.W.Frag} {fd:FuncData} {ps:List Str} (h:∀us:List Value,us.length=ps.length->bindArgs fd ⟨us,[]⟩=pure (ps.zip us)):Binds K fd ps []:=λs us _ hl=>by rw[QU] at hl ⊢;exact .of_eq (h us hl)
noncomputable def qb (CX:jt) (X:Cx) (E:XK):Prop:=∀(pins:List (Addr×Obj)) (σ:St) (H:Hp) (s:Shared) (e:Value) (s':Shared),Inv X pins σ H s->CX X.stack H s E e s'->X.xe e s'
section
variable {X:Cx} {CX:jt} {k:Nat} {f C:Addr} {fd:FuncData} {ps:List Str} {sp:Sp} {uE:List V} {ds:List Value} {E:XK} {x m:Str} {p pos apos:Pos} {e o:Expr} {es:List Expr} {ta:TE} {t:TA}
theorem EF {pins:List (Addr×Obj)} {σ:St} {H:Hp} {s:Shared} {Q:VK} {us:List Value} {vs:List V} (F:iK X.prog X.w X.K X.mg X.base CX k f fd ps sp) (hr:gP k X.A) (hb:Binds X.K fd ps ds) (hd:aw uE ds) (hx:qb CX X E)
  (I:Inv X pins σ H s) (r:aw vs us) (h:sp (vs++uE) H Q E):wpAny (model X.prog X.w) X.A (call (.ref f) us) (EP X pins σ Q) X.xe s:=by
 have r2:aw (vs++uE) (us++ds):=r.append hd;have hl:(us++ds).length=ps.length:=by rw[<-r2.length];exact F.len _ _ _ _ h
 refine wpAny_call (codeAny_mono (F.run X.A X.stack s H ⟨us,[]⟩ (us++ds) (vs++uE) Q E hr I.fz (hb s us I.jE hl) r2 h) λr s' hq=>?_);cases r with
 | error e=>exact hx pins σ H s e s' I hq
 | ok fl=>
  cases fl with
  | ret u=>exact I.after hq
  | next=>exact False.elim hq
  | brk=>exact False.elim hq
  | cont=>exact False.elim hq
theorem Ba (F:iK X.prog X.w X.K X.mg X.base CX k f fd ps sp) (hr:gP k X.A) (hg:Gl X x) (hm:X.mg x=some (.ref f)) (hk:PySem.W.keepIn X.K (.ref f)=true) (hb:Binds X.K fd ps ds) (hd:aw uE ds) (hx:qb CX X E)
  (ha:PA X (e::es) t) (oO:(x==("__debug__":Str))=false:=by decide) (he:starEach (e::es) X.env=(false,eval e X.env)::starEach es X.env:=by rfl) (lJ:(backTo pos (starEach es X.env)).any (·.1)=false:=by rfl):
  PE X (.Call (.Name x p) (e::es) [] pos) (IH sp uE E t):=by
 intro pins s σ H Q I h;refine wpAny_Call_Name_kw (hZ I hg hm ?_ oO);refine PySem.W.callWith_K (h₀:=X.base) I.ok.mod.Lr hk (bO (ha pos pins s σ H _ I h) λus s1 ⟨vs,H1,I1,r,q⟩=>⟨I1.jE,?_⟩) he lJ;exact EF F hr hb hd hx I1 r q
end
structure eg (N P:List Str) (sc:Scope):Prop where
 kind:sc.kind= .function
 co:sc.isCoroutine=false
 gen:sc.isGenerator=false
 nd:N.Nodup
 pre:N.take P.length=P
 par:∀x∈P,sc.names.lookup x=some .local\/sc.names.lookup x=some .cell
 DY:∀y∈sc.names,y.2≠ .free
theorem lC {kindOf:Str->Option NameKind} {x:Str}:∀{binds:List (Str×Value)} {m:Str->Option Value},(∀v,(x,v)∉binds)->bindL kindOf binds m x=m x
 | [],_,_=>rfl
 | (n,v)::r,m,h=>by
  unfold bindL;rw[lC λw hw=>h w (Qj _ hw)];split
  ·have:x≠n:=by rintro rfl;exact h v Qm
   simp[this]
  ·rfl
theorem lA {kindOf:Str->Option NameKind} {x:Str}:∀{binds:List (Str×Value)} {m:Str->Option Value},(∀v,(x,v)∉binds)->bindC kindOf binds m x=m x
 | [],_,_=>rfl
 | (n,v)::r,m,h=>by
  unfold bindC;rw[lA λw hw=>h w (Qj _ hw)];split
  ·rfl
  ·have:x≠n:=by rintro rfl;exact h v Qm
   simp[this]
theorem lB {kindOf:Str->Option NameKind} {x:Str} {v:Value}:∀{P:List Str} {vs:List Value} {i:Nat} {m:Str->Option Value},P.Nodup->P[i]?=some x->vs[i]?=some v->kindOf x=some .local->
  bindL kindOf (P.zip vs) m x=some v
 | [],_,_,_,_,h,_,_=>by simp at h
 | _::_,[],_,_,_,_,h,_=>by simp at h
 | p::P,w::vs,0,m,nd,h1,h2,hk=>by simp at h1 h2;subst h1;subst h2;show bindL kindOf ((p,w)::P.zip vs) m p=_;unfold bindL;rw[lC λv hv=>(List.nodup_cons.mp nd).1 (List.of_mem_zip hv).1,if_pos hk];simp
 | p::P,w::vs,i + 1,m,nd,h1,h2,hk=>by show bindL kindOf ((p,w)::P.zip vs) m x=_;unfold bindL;exact lB (i:=i) (List.nodup_cons.mp nd).2 (by simpa using h1) (by simpa using h2) hk
theorem lz {kindOf:Str->Option NameKind} {x:Str} {v:Value}:∀{P:List Str} {vs:List Value} {i:Nat} {m:Str->Option Value},P.Nodup->P[i]?=some x->vs[i]?=some v->kindOf x≠some .local->
  bindC kindOf (P.zip vs) m x=some v
 | [],_,_,_,_,h,_,_=>by simp at h
 | _::_,[],_,_,_,_,h,_=>by simp at h
 | p::P,w::vs,0,m,nd,h1,h2,hk=>by simp at h1 h2;subst h1;subst h2;show bindC kindOf ((p,w)::P.zip vs) m p=_;unfold bindC;rw[lA λv hv=>(List.nodup_cons.mp nd).1 (List.of_mem_zip hv).1,if_neg hk];simp
 | p::P,w::vs,i + 1,m,nd,h1,h2,hk=>by show bindC kindOf ((p,w)::P.zip vs) m x=_;unfold bindC;exact lz (i:=i) (List.nodup_cons.mp nd).2 (by simpa using h1) (by simpa using h2) hk
noncomputable def start (N:List Str) (vs:List V):St:=vs.map some++List.replicate (N.length - vs.length) none
noncomputable def jY (CX:jt) (P:Program) (w:World) (K:PySem.W.Frag) (mg:Str->Option Value) (base:Heap) (N:List Str) (qual:Str) (scope:Scope) (f:Addr) (cd:Value) (A:Around) (outer:List Env) (s:Shared) (H:Hp) (E:XK):Cx where
 prog:=P
 w:=w
 K:=K
 mg:=mg
 base:=base
 A:=A.deeper (envOfC qual scope s.heap.objs.size f cd)
 N:=N
 s₀:=s
 H₀:=H
 env:=envOfC qual scope s.heap.objs.size f cd
 outer:=outer
 stack:=envOfC qual scope s.heap.objs.size f cd::outer
 ex:=[]
 calm:=true
 fn:=λ_=>true
 pn:=[]
 xe:=λe s'=>wpAny (model P w) (A.deeper (envOfC qual scope s.heap.objs.size f cd)) (leaving (envOfC qual scope s.heap.objs.size f cd) e) (λ_ s''=>CX outer H s E e s'') (λe' s''=>CX outer H s E e' s'') s'
theorem n9 {sc:Scope} {n:Nat} {x:Str} (h:sc.names.lookup x=some .cell):∃c,(cellsFrom n sc.names []).lookup x=some c:=by have q:=PySem.W.cellsFrom_some sc.names n [] (.inl h);exact Option.isSome_iff_exists.mp q
theorem uP {CX:jt} {P:Program} {w:World} {K:PySem.W.Frag} {mg:Str->Option Value} {base:Heap} {N ps:List Str} {qual:Str} {scope:Scope} {f:Addr} {cd:Value} {A:Around} {outer:List Env} {s s1:Shared} {H:Hp} {E:XK} {us:List Value} {vs:List V}
  (S:eg N ps scope) (hd:A.handled=none) (e0:zH P w K mg base A outer s H) (hl:vs.length=ps.length) (r:aw vs us)
  (x:InCallC s s.heap.objs.size (bindL (envOfC qual scope s.heap.objs.size f cd).kindOf (ps.zip us) λ_=>none) (cellsFrom (s.heap.objs.size + 1) scope.names []) (bindC (envOfC qual scope s.heap.objs.size f cd).kindOf (ps.zip us) λ_=>none) s1):
  Inv (jY CX P w K mg base N qual scope f cd A outer s H E) [] (start N vs) H s1:=by
 have lJ:ps.length<=N.length:=by have:=congrArg List.length S.pre;rw[List.length_take] at this;lia
 obtain⟨h1,tk,rfl,hk⟩:=x.done;have HA:∀b:Addr,b∉(jY CX P w K mg base N qual scope f cd A outer s H E).ex:=λb z=>absurd (show b∈([]:List Addr) from z) (by simp)
 refine⟨⟨e0.mod,S.kind,rfl,rfl,Ql _,λy z c h1 h2=>?_,λy hy=>?_,λy c _ h=>?_,λ_=>hd,Around.frames_deeper e0.frames,.inr ⟨rfl,rfl⟩,λb z=>absurd z (HA b),e0.bs,e0.we,λb _ _=>HA b,λb z=>absurd z (HA b),e0.gw,e0.Aj⟩,
  rfl,e0.bare,Un.kept hk,⟨_,x.toInCall.ns,λi y v h1 h2 h3=>?_⟩,λy c h=>⟨_,x.cell y c h⟩,e0.hok.fresh (Ql _),λy c h=>?_,λp hp=>absurd (show p∈([]:List (Addr×Obj)) from hp) (by simp),e0.hok.kept hk,?_⟩
 ·exact name_of_addr x.apart (PySem.mem_of_lookup h1) (PySem.mem_of_lookup h2)
 ·have hy:scope.names.lookup y=some .cell\/scope.names.lookup y=some .free:=hy;rcases hy with hy | hy
  ·exact n9 hy
  ·exact absurd rfl (S.DY _ (PySem.mem_of_lookup hy))
 ·exact Nat.le_of_lt (x.above y c (PySem.mem_of_lookup h))
 ·have hi:i < vs.length:=by
   unfold start at h2;by_cases hi:i < vs.length
   ·exact hi
   ·rw[QX (by simpa using hi)] at h2;rw[List.getElem?_replicate] at h2;split at h2 <;> cases h2
  have ha:vs[i]?=some v:=by
   unfold start at h2;rw[QW (by simpa using hi),Qz] at h2;cases e:vs[i]? with
   | none=>rw[e] at h2;cases h2
   | some a=>rw[e] at h2;cases h2;rfl
  obtain⟨u,hu,rv⟩:=r.get ha;have hp:ps[i]?=some y:=by rw[<-S.pre,List.getElem?_take_of_lt (by lia)];exact h1
  have Nm:ps.Nodup:=by rw[<-S.pre];exact S.nd.sublist (List.take_sublist _ _)
  refine⟨u,rv,?_⟩;rcases S.par y (List.mem_of_getElem? hp) with k | k
  ·exact .inl ⟨k,lB Nm hp hu k⟩
  ·obtain⟨c,e⟩:=n9 (n:=s.heap.objs.size + 1) k;refine .inr ⟨.inl k,c,e,?_⟩;have q:=x.cell y c e;rw[lz Nm hp hu (by show scope.names.lookup y≠_;rw[k];decide)] at q;exact q
 ·exact e0.hok.fresh (Nat.le_of_lt (x.above y c (PySem.mem_of_lookup h)))
 ·unfold start;show _=N.length;rw[Qw,Qp,List.length_replicate]
  lia
end L2
namespace L2
open PySem PySem.Spec PyProof.Rows
section
variable {X:Cx} {x:Str} {p pos:Pos} {e:Expr} {es:List Expr} {t:TA} {id T:String} {r:List V->Hp->VK->Prop}
noncomputable def Mj (r:List V->Hp->VK->Prop) (t:TA):TE:=λσ H Q=>t σ H λvs H1=>r vs H1 Q
theorem kC (hc:eQ X (.builtin id) r) (hg:Gl X x) (hm:X.mg x=none) (hv:bootBuiltins x=some (.builtin id)) (ha:PA X (e::es) t) (hn:x≠"__name__":=by decide) (oO:(x==("__debug__":Str))=false:=by decide)
  (he:starEach (e::es) X.env=(false,eval e X.env)::starEach es X.env:=by rfl) (lJ:(backTo pos (starEach es X.env)).any (·.1)=false:=by rfl):PE X (.Call (.Name x p) (e::es) [] pos) (Mj r t):=by
 intro pins s σ H Q I h;refine wpAny_Call_Name_kw (kf I hg hm hv ?_ hn oO);exact PyProof.Rows.callWith_builtin1 (bO (ha pos pins s σ H _ I h) λus s1 ⟨vs,H1,I1,r1,q1⟩=>hc pins s1 σ H1 vs us Q I1 r1 q1) he lJ
theorem u5 (hc:eQ X (.type T) r) (hg:Gl X x) (hm:X.mg x=none) (hv:bootBuiltins x=some (.type T)) (ha:PA X (e::es) t) (hn:x≠"__name__":=by decide) (oO:(x==("__debug__":Str))=false:=by decide)
  (he:starEach (e::es) X.env=(false,eval e X.env)::starEach es X.env:=by rfl) (lJ:(backTo pos (starEach es X.env)).any (·.1)=false:=by rfl):PE X (.Call (.Name x p) (e::es) [] pos) (Mj r t):=by
 intro pins s σ H Q I h;refine wpAny_Call_Name_kw (kf I hg hm hv ?_ hn oO);exact PyProof.Rows.callWith_type1 (bO (ha pos pins s σ H _ I h) λus s1 ⟨vs,H1,I1,r1,q1⟩=>hc pins s1 σ H1 vs us Q I1 r1 q1) he lJ
end
end L2
namespace HT
open PySem PyProof.Rows
section
variable {prog:Program} {w:World} {A:Around} {E:Value->Shared->Prop} {s:Shared}
theorem Aa {t b:Addr} {vs ws:List Value} {Q:Value->Shared->Prop} (ht:IsTup s.heap t vs.toArray) (hb:IsTup s.heap b ws.toArray) (hv:vs≠[])
  (h1:ws=[]->Q (.ref t) s) (h2:ws≠[]->Q (.ref s.heap.objs.size) {s with heap:=s.heap.push {cls:= .type "tuple",data:= .seq (vs++ws).toArray}})
  (gM:vs.length + ws.length<=sizeLine):wpAny (model prog w) A (binaryOp .Add (.ref t) (.ref b)) Q E s:=by
 obtain⟨⟨cls,dd,data,sl⟩,ho,hc,n,hd⟩:=id ht;obtain⟨⟨Gn,zm,data2,vF⟩,sJ,oH,n2,hd2⟩:=id hb;simp only at hc hd oH hd2;subst hc hd oH hd2;have e:vs.toArray++ws.toArray=(vs++ws).toArray:=by simp
 by_cases hw:ws=[]
 ·exact concat_meets ⟨_,ho,rfl⟩ ⟨_,sJ,rfl⟩ noFill_tuple_add seq_tuple_add PySem.F.slot_tuple_add PySem.F.entry_tuple_add (PySem.F.args_tuple_add_2 _ _)
   (tuple_addW1 t b vs.toArray ws.toArray n n2 dd zm sl vF (by simpa using hv) (by simp[hw])) ⟨ho,sJ,h1 hw⟩
 ·refine concat_meets ⟨_,ho,rfl⟩ ⟨_,sJ,rfl⟩ noFill_tuple_add seq_tuple_add PySem.F.slot_tuple_add PySem.F.entry_tuple_add (PySem.F.args_tuple_add_2 _ _)
   (tuple_addW2 t b vs.toArray ws.toArray n n2 dd zm sl vF (by simpa using hv) (by simpa using hw) (by rw[Qg,Qg];exact gM)) ⟨ho,sJ,?_⟩
  rw[e];exact h2 hw
noncomputable def bW (n d:Nat):Option Int->Nat
 | none=>d
 | some v=>if v < 0 then(v + (n:Int)).toNat else min v.toNat n
theorem EG (n d:Nat) (hd:d<=n) (o:Option Int):bW n d o<=n:=by
 cases o with
 | none=>exact hd
 | some v=>
  show (if v < 0 then(v + (n:Int)).toNat else min v.toNat n)<=n;by_cases hv:v < 0
  ·rw[if_pos hv];lia
  ·rw[if_neg hv];exact Nat.min_le_right _ _
theorem r8 (v:Int) (n d:Nat):(if v < 0 then max (v + (n:Int)) 0 else min v (n:Int))=((bW n d (some v):Nat):Int):=by
 show (if v < 0 then max (v + (n:Int)) 0 else min v (n:Int))=(((if v < 0 then(v + (n:Int)).toNat else min v.toNat n):Nat):Int);by_cases hv:v < 0
 ·simp only[if_pos hv];lia
 ·simp only[if_neg hv];lia
theorem qd (lo hi:Option Int) (n:Nat):Builtin.Slice.sliceAdjust lo hi 1 (n:Int)=(((bW n 0 lo:Nat):Int),((bW n n hi:Nat):Int)):=by
 have h1:¬((1:Int) < 0):=by lia
 unfold Builtin.Slice.sliceAdjust;simp only[h1,if_false];refine Prod.ext ?_ ?_
 ·cases lo with
  | none=>rfl
  | some v=>exact r8 v n 0
 ·cases hi with
  | none=>rfl
  | some v=>exact r8 v n n
theorem qZ (i j:Nat):Builtin.Slice.slicePlaces (i:Int) (j:Int) 1=j - i:=by
 unfold Builtin.Slice.slicePlaces;have h1:(1:Int) > 0:=by lia
 simp only[h1,if_true,Int.ediv_one];split <;> lia
theorem kI {v:Value} {o:Option Int} {Q:Option Int->Shared->Prop} (p:IsPart v o) (h:Q o s):wpAny (model prog w) A (Builtin.Slice.slicePartIndex v) Q E s:=by
 cases p with
 | none=>exact slicePart_none h
 | int i t=>exact slicePart_int h
theorem d8 {sl:Addr} {vl vu:Value} {lo hi:Option Int} {n:Nat} {Q:Int×Int×Nat->Shared->Prop} (hs:s.heap.IsSliceOf sl vl vu .none) (pl:IsPart vl lo) (pu:IsPart vu hi)
  (h:Q (((bW n 0 lo:Nat):Int),1,bW n n hi - bW n 0 lo) s):wpAny (model prog w) A (Builtin.Slice.sliceApplied (.ref sl) (pure (n:Int))) Q E s:=by
 obtain⟨os,Dp,vA,G2⟩:=id hs;unfold Builtin.Slice.sliceApplied Builtin.Slice.sliceFields;refine Qb (Qb (wpAny_field Dp G2 (x:=vl) rfl (Qb (wpAny_field Dp G2 (x:=vu) rfl (Qb (wpAny_field Dp G2 (x:= .none) rfl (Qe ?_)))))));refine Qb (slicePart_none ?_);show wpAny _ _ (if ((1:Int)==0)=true then _ else _) _ _ s;rw[if_neg (by decide)];refine Qb (kI pl (Qb (kI pu (Qb (Qe ?_)))));show wpAny _ _ (match Builtin.Slice.sliceAdjust lo hi 1 (n:Int) with | (lo,hi)=>pure (lo,(1:Int),Builtin.Slice.slicePlaces lo hi 1)) _ _ s;rw[qd lo hi n];show wpAny _ _ (pure (((bW n 0 lo:Nat):Int),(1:Int),Builtin.Slice.slicePlaces ((bW n 0 lo:Nat):Int) ((bW n n hi:Nat):Int) 1)) _ _ s;rw[qZ];exact Qe h
theorem yj (xs:Array Value) (i k:Nat):((List.range k).filterMap λ(m:Nat)=>xs[((i:Int) + (m:Int) * 1).toNat]?).toArray=((xs.toList.drop i).take k).toArray:=by
 have e:(λ(m:Nat)=>xs[((i:Int) + (m:Int) * 1).toNat]?)=λm=>xs[i + m]?:=by
  funext m;have:((i:Int) + (m:Int) * 1).toNat=i + m:=by lia
  rw[this]
 rw[e];have:=pick_run xs i k;rw[List.filterMap_map] at this;have e2:((λx=>xs[x]?) ∘ λx=>i + x)=λm=>xs[i + m]?:=rfl
 rw[e2] at this;rw[this]
theorem gW {t sl:Addr} {items:Array Value} {vl vu:Value} {lo hi:Option Int} {Q:Value->Shared->Prop} (ht:IsTup s.heap t items) (hs:s.heap.IsSliceOf sl vl vu .none) (pl:IsPart vl lo) (pu:IsPart vu hi)
  (hw:¬(bW items.size 0 lo=0/\bW items.size items.size hi=items.size))
  (h:Q (.ref s.heap.objs.size) {s with heap:=s.heap.push {cls:= .type "tuple",data:= .seq ((items.toList.drop (bW items.size 0 lo)).take (bW items.size items.size hi - bW items.size 0 lo)).toArray}})
  (gM:items.size<=sizeLine):wpAny (model prog w) A (getItem (.ref t) (.ref sl)) Q E s:=by
 have sN:sizeOk (.seq ((items.toList.drop (bW items.size 0 lo)).take (bW items.size items.size hi - bW items.size 0 lo)).toArray):=by
  show ((items.toList.drop (bW items.size 0 lo)).take (bW items.size items.size hi - bW items.size 0 lo)).toArray.size<=sizeLine;rw[Qg,List.length_take,List.length_drop,QA]
  lia
 have hj:bW items.size items.size hi<=items.size:=EG _ _ (Ql _) hi;obtain⟨os,Dp,vA,G2⟩:=id hs;have KP:s.TypeIs (.ref sl) "slice":=⟨os,Dp,vA⟩;unfold getItem
 try with_reducible refine wpAny_holding ?_
 first | refine Qb (Qe ?_) | skip
 refine Qb (wpAny_sequenceKey ht.typeIs (by decide) ?_);refine Qb (wpAny_callSpecial?_slot (name:=Str.ofString "__getitem__") ht.typeIs PyProof.Rows.slot_tuple_getitem
  (wpAny_call_entry PyProof.Rows.slot_tuple_getitem ht.typeIs entry_tuple_getitem ?_ (args_tuple_getitem _ _)))
 show wpAny _ _ (Builtin.Tuple.tupleItemsOf (.ref t) >>=_) _ _ s;refine Qb (tupleItemsOf_ ht ?_);refine Qb (wpAny_typeOf KP ?_);rw[if_pos (by decide)];refine Qb (d8 hs pl pu ?_);have OR:¬((((bW items.size 0 lo:Nat):Int)==0&&(1:Int)==1&&(bW items.size items.size hi - bW items.size 0 lo)==items.size)=true):=by intro q;rw[Qf,Qf] at q;have q1:((bW items.size 0 lo:Nat):Int)=0:=QD q.1.1;have q2:bW items.size items.size hi - bW items.size 0 lo=items.size:=QD q.2;exact hw ⟨by lia,by lia⟩
 show wpAny _ _ (if (((bW items.size 0 lo:Nat):Int)==0&&(1:Int)==1&&(bW items.size items.size hi - bW items.size 0 lo)==items.size)=true then _ else _) _ _ s;rw[if_neg OR,yj]
 first
  | exact Qb (m:=Builtin.Tuple.tupleExact _) (wpAny_newObj_type (Qe ⟨_,rfl,Qe h⟩) sN)
  | exact Qb (m:=Builtin.Tuple.tupleExact _) (wpAny_newObj_type (Qb (Qe (Qe ⟨_,rfl,Qe h⟩))) sN)
  | exact Qb (Qb (m:=Builtin.Tuple.tupleExact _) (wpAny_newObj_type (Qe (Qe ⟨_,rfl,Qe h⟩)) sN))
  | exact Qb (Qb (m:=Builtin.Tuple.tupleExact _) (wpAny_newObj_type (Qe ⟨_,rfl,Qe h⟩) sN))
end
end HT
namespace L2
open PySem PySem.Spec PyProof.Rows
noncomputable abbrev TO:=St->Hp->(Option Int->Hp->Prop)->Prop
noncomputable def PO (X:Cx) (e:Option Expr) (t:TO):Prop:=
 ∀(pins:List (Addr×Obj)) (s:Shared) (σ:St) (H:Hp) (Q:Option Int->Hp->Prop),Inv X pins σ H s->t σ H Q->
  wpAny (model X.prog X.w) X.A (evalPart e X.env) (λu s'=>∃o H',Inv X pins σ H' s'/\IsPart u o/\Q o H') X.xe s
noncomputable def Bz:TO:=λ_ H Q=>Q none H
noncomputable def IM (t:TE):TO:=λσ H Q=>t σ H λx H1=>∃i,x= .int i/\Q (some i) H1
section
variable {X:Cx} {e:Expr} {te:TE} {lo hi:Option Expr} {tl th:TO} {pos p2:Pos}
theorem tI:PO X none Bz:=by intro pins s σ H Q I h;rw[evalPart_none];exact Qe ⟨none,H,I,.none,h⟩
theorem tJ (h:PE X e te):PO X (some e) (IM te):=by
 intro pins s σ H Q I hw;rw[evalPart_some];refine bO (h pins s σ H _ I hw) λu s1 ⟨x,H1,I1,r1,q1⟩=>?_
 obtain⟨i,rfl,q⟩:=q1;obtain⟨t,rfl⟩:=r1;exact⟨some i,H1,I1,.int i t,q⟩
noncomputable def FA (X:Cx) (r:V->Option Int->Option Int->Hp->VK->Prop):Prop:=
 ∀(pins:List (Addr×Obj)) (s:Shared) (σ:St) (H:Hp) (x:V) (v vl vu:Value) (lo hi:Option Int) (sl:Addr) (Q:VK),Inv X pins σ H s->RelV x v->s.heap.IsSliceOf sl vl vu .none->IsPart vl lo->IsPart vu hi->r x lo hi H Q->
  ∃T id,typeLookup (.type T) "__getitem__"=pure (some (.builtin id))/\s.TypeIs v T/\wpAny (model X.prog X.w) X.A (getItem v (.ref sl)) (EP X pins σ Q) X.xe s
noncomputable def Pv (r:V->Option Int->Option Int->Hp->VK->Prop) (te:TE) (tl th:TO):TE:=λσ H Q=>te σ H λx H1=>tl σ H1 λl H2=>th σ H2 λu H3=>r x l u H3 Q
theorem pd {r:V->Option Int->Option Int->Hp->VK->Prop} (hr:FA X r) (he:PE X e te) (hl:PO X lo tl) (hu:PO X hi th):PE X (.Subscript e (.Slice lo hi none p2) pos) (Pv r te tl th):=by
 intro pins s σ H Q I h;refine Subscript_ (bO (he pins s σ H _ I h) λv s1 ⟨x,H1,I1,r1,q1⟩=>?_);refine wpAny_Slice (bO (hl pins s1 σ H1 _ I1 q1) λvl s2 ⟨l,H2,I2,pl,q2⟩=>bO (hu pins s2 σ H2 _ I2 q2) λvu s3 ⟨u,H3,I3,pu,q3⟩=>?_);rw[evalPart_none];refine Qe ?_;have I4:Inv X pins σ H3 {s3 with heap:=s3.heap.push {cls:= .type "slice",data:= .fields #[vl,vu,.none]}}:=I3.kept (t':=s3.toks) λb ob q=>Qd _ q
 obtain⟨T,id,hT,ht,hg⟩:=hr pins {s3 with heap:=s3.heap.push {cls:= .type "slice",data:= .fields #[vl,vu,.none]}} σ H3 x v vl vu l u s3.heap.objs.size Q I4 r1 (Heap.IsSliceOf.new ..) pl pu q3;show wpAny (model X.prog X.w) X.A (subscriptTail e (.Slice lo hi none p2) v (.ref s3.heap.objs.size)) (EP X pins σ Q) X.xe {s3 with heap:=s3.heap.push {cls:= .type "slice",data:= .fields #[vl,vu,.none]}};exact tail_any (ops:=[.ref s3.heap.objs.size,v]) ht hT hg (by with_unfolding_all rfl)
noncomputable def kZ (xs:List V) (lo hi:Option Int):List V:=(xs.drop (HT.bW xs.length 0 lo)).take (HT.bW xs.length xs.length hi - HT.bW xs.length 0 lo)
theorem jb (xs:List V) (lo hi:Option Int):(kZ xs lo hi).length<=xs.length:=by
 unfold kZ;rw[List.length_take,List.length_drop]
 lia
noncomputable def LY (K:PySem.W.Frag):V->Option Int->Option Int->Hp->VK->Prop:=λx lo hi H Q=>∃a xs,x= .ref a/\eh K H a xs/\
 ¬(HT.bW xs.length 0 lo=0/\HT.bW xs.length xs.length hi=xs.length)/\∀p,H p=none->Q (.ref p) (upd H p (.tup (kZ xs lo hi)))
theorem EV:FA X (LY X.K):=by
 intro pins s σ H x v vl vu lo hi sl Q I rx hs pl pu h;obtain⟨a,xs,rfl,hx,hw,q⟩:=h;cases rx;obtain⟨its,r,ht,hz⟩:=I.tuple hx;have hlen:its.toArray.size=xs.length:=by rw[Qg];exact r.length.symm
 refine⟨"tuple",_,PyProof.Rows.slot_tuple_getitem.lookup,ht.typeIs,?_⟩;refine HT.gW ht hs pl pu (by rw[hlen];exact hw) ?_ (by rw[hlen];exact hz);rw[hlen];refine⟨.ref s.heap.objs.size,_,I.laid (t':=s.toks) (o:= .tup (kZ xs lo hi)) (λb ob q=>Qd _ q) (Ql _) ?_,rfl,q _ (I.hok.fresh (Ql _))⟩;exact⟨Qr (jb xs lo hi) hz,_,(r.drop (HT.bW xs.length 0 lo)).take (HT.bW xs.length xs.length hi - HT.bW xs.length 0 lo),jS.new _ _⟩
noncomputable def HZ (K:PySem.W.Frag):R2:=λx y H Q=>∃a b xs ys,x= .ref a/\y= .ref b/\eh K H a xs/\eh K H b ys/\xs≠[]/\xs.length + ys.length<=sizeLine/\
 (ys=[]->Q (.ref a) H)/\(ys≠[]->∀p,H p=none->Q (.ref p) (upd H p (.tup (xs++ys))))
theorem aw.mX {xs:List V} {us:List Value} (r:aw xs us):us=[]↔xs=[]:=by
 cases r with
 | nil=>simp
 | cons _ _=>simp
theorem A6:jx X (binaryOp .Add) (HZ X.K):=by intro pins s σ H x y v u Q I rx ry h;obtain⟨a,b,xs,ys,rfl,rfl,ha,hb,hx,hz,q1,q2⟩:=h;cases rx;cases ry;obtain⟨its,r1,p1,_⟩:=I.tuple ha;obtain⟨aI,r2,p2,_⟩:=I.tuple hb;refine HT.Aa p1 p2 (λz=>hx (r1.mX.mp z)) (λz=>⟨.ref a,H,I,rfl,q1 (r2.mX.mp z)⟩) (λz=>?_) (by rw[<-r1.length,<-r2.length];exact hz);refine⟨.ref s.heap.objs.size,_,I.laid (t':=s.toks) (o:= .tup (xs++ys)) (λb ob q=>Qd _ q) (Ql _) ?_,rfl,q2 (λw=>z (r2.mX.mpr w)) _ (I.hok.fresh (Ql _))⟩;exact⟨by rw[Qw];exact hz,_,r1.append r2,jS.new _ _⟩
end
end L2
namespace L2
open PySem PySem.Spec PyProof.Rows
noncomputable def mO (n:Nat) (i:Int):Option Nat:=if 0<=i then(if i < n then some i.toNat else none) else if -(n:Int)<=i then some (i + n).toNat else none
noncomputable def jU {α:Type} (xs:List α) (i:Int):Option α:=(mO xs.length i).bind λj=>xs[j]?
theorem sS {n:Nat} {i:Int} {j:Nat} (h:mO n i=some j):seqIndex? i n=some j/\j < n/\ -(n:Int)<=i/\i < n:=by
 unfold mO at h;by_cases h0:0<=i
 ·rw[if_pos h0] at h;by_cases h1:i < n
  ·rw[if_pos h1] at h;have e:i.toNat=j:=Option.some.inj h;exact⟨by rw[seqIndex_of h0 h1,e],by lia,by lia,h1⟩
  ·rw[if_neg h1] at h;cases h
 ·rw[if_neg h0] at h;by_cases h1: -(n:Int)<=i
  ·rw[if_pos h1] at h;have e:(i + n).toNat=j:=Option.some.inj h;exact⟨by rw[seqIndex_neg (by lia) h1,e],by lia,h1,by lia⟩
  ·rw[if_neg h1] at h;cases h
theorem l7 {α:Type} {xs:List α} {i:Int} {v:α} (h:jU xs i=some v):∃j,seqIndex? i xs.length=some j/\xs[j]?=some v/\j < xs.length/\ -(xs.length:Int)<=i/\i < xs.length:=by
 unfold jU at h;cases e:mO xs.length i with
 | none=>rw[e] at h;cases h
 | some j=>rw[e] at h;obtain⟨h1,h2,h3,h4⟩:=sS e;exact⟨j,h1,h,h2,h3,h4⟩
theorem fH {α:Type} {xs:List α} {j:Nat} {v:α} (h:xs[j]?=some v):jU xs (j:Int)=some v:=by
 have hj:j < xs.length:=(Qi.mp h).1;have e:mO xs.length (j:Int)=some j:=by unfold mO;rw[if_pos (by lia),if_pos (by lia)];simp
 unfold jU;rw[e];exact h
theorem nU {α:Type} (xs:List α) (v:α):jU (xs++[v]) (-1)=some v:=by
 have hl:(xs++[v]).length=xs.length + 1:=by simp
 have e:mO (xs++[v]).length (-1)=some xs.length:=by
  unfold mO;rw[hl,if_neg (by decide),if_pos (by lia)];congr 1
  lia
 unfold jU;rw[e];show (xs++[v])[xs.length]?=some v;simp
noncomputable def lZ (b:Expr):Prop:=∀o i,subscripted b false o i=operate [o,i] (getItem o i)
noncomputable def FZ (X:Cx) (r:R2):Prop:=
 ∀(value slice:Expr) (pins:List (Addr×Obj)) (s:Shared) (σ:St) (H:Hp) (x y:V) (v u:Value) (Q:VK),Inv X pins σ H s->RelV x v->RelV y u->r x y H Q->
  subscripted slice false v u=operate [v,u] (getItem v u)->wpAny (model X.prog X.w) X.A (subscriptTail value slice v u) (EP X pins σ Q) X.xe s
noncomputable def Jl (X:Cx) (id:String) (r:V->List V->Hp->VK->Prop):Prop:=
 ∀(pins:List (Addr×Obj)) (s:Shared) (σ:St) (H:Hp) (x:V) (xs:List V) (v:Value) (us:List Value) (Q:VK),Inv X pins σ H s->RelV x v->aw xs us->r x xs H Q->
  wpAny (model X.prog X.w) X.A (call (.builtin id) (v::us)) (EP X pins σ Q) X.xe s
section
variable {X:Cx} {a b:Expr} {ta tb:TE} {pos:Pos}
theorem HN {r:R2} (hr:FZ X r) (ha:PE X a ta) (hb:PE X b tb) (hs:lZ b):PE X (.Subscript a b pos) (JL r ta tb):=by intro pins s σ H Q I h;exact Subscript_ (CM ha hb I h λv u s2 x y H2 I2 rx ry q=>hr a b pins s2 σ H2 x y v u Q I2 rx ry q (hs _ _))
noncomputable def LR (K:PySem.W.Frag):R2:=λx y H Q=>∃p xs i v,x= .ref p/\y= .int i/\dE K H p xs/\jU xs i=some v/\Q v H
noncomputable def LU (K:PySem.W.Frag):R2:=λx y H Q=>∃p xs i v,x= .ref p/\y= .int i/\eh K H p xs/\jU xs i=some v/\Q v H
noncomputable def LS:R2:=λx y H Q=>∃z i c,x= .str z/\y= .int i/\z.length<=sizeLine/\jU z.cps.toList i=some c/\Q (.str ⟨#[c]⟩) H
theorem sU:FZ X (LR X.K):=by
 intro value slice pins s σ H x y v u Q I rx ry h hs;obtain⟨p,xs,i,z,rfl,rfl,hq,he,q⟩:=h;cases rx;obtain⟨t,rfl⟩:=ry;obtain⟨its,r,pl,hz⟩:=I.list hq;obtain⟨j,h1,h2,h3,h4,h5⟩:=l7 he;obtain⟨w,ew,L8⟩:=r.get h2;have hl:=r.length;have hn:=iX;have fin:EP X pins σ Q w s:=⟨z,H,I,L8,q⟩;by_cases h0:0<=i
 ·have hj:i.toNat=j:=by rw[seqIndex_of h0 h5] at h1;exact Option.some.inj h1
  exact item_listR pl.isList h0 (by lia) (by rw[hj];simpa using ew) fin hs
 ·have hj:(i + (its.toArray.size:Int)).toNat=j:=by rw[seqIndex_neg (by lia) h4] at h1;rw[Qg,<-hl];exact Option.some.inj h1
  exact subscriptTail_builtinR (x:=w) pl.isList.typeIs slot_list_getitem.lookup
   (wpAny_getItem_list_neg (Q:=λr s'=>r=w/\EP X pins σ Q r s') pl.isList (by lia) (by rw[Qg] <;> lia) (by lia) (by rw[hj];simpa using ew) ⟨rfl,fin⟩) hs
theorem DB:FZ X (LU X.K):=by
 intro value slice pins s σ H x y v u Q I rx ry h hs;obtain⟨p,xs,i,z,rfl,rfl,hq,he,q⟩:=h;cases rx;obtain⟨t,rfl⟩:=ry;obtain⟨its,r,pl,hz⟩:=I.tuple hq;obtain⟨j,h1,h2,h3,h4,h5⟩:=l7 he;obtain⟨w,ew,L8⟩:=r.get h2;have hl:=r.length;have hn:=iX;have fin:EP X pins σ Q w s:=⟨z,H,I,L8,q⟩;exact subscriptTail_builtinR (x:=w) pl.typeIs slot_tuple_getitem.lookup
  (getItem_tuple (j:=j) (Q:=λr s'=>r=w/\EP X pins σ Q r s') pl (by lia) (by lia) (by rw[Qg,<-hl];exact h1) (by simpa using ew) ⟨rfl,fin⟩) hs
theorem DA:FZ X LS:=by
 intro value slice pins s σ H x y v u Q I rx ry h hs;obtain⟨z,i,c,rfl,rfl,hz,he,q⟩:=h;obtain⟨t,rfl⟩:=rx;obtain⟨t',rfl⟩:=ry;obtain⟨j,h1,h2,h3,h4,h5⟩:=l7 he;have hl:z.cps.toList.length=z.length:=by simp[Str.length]
 rw[hl] at h1 h4 h5;have hn:=iX;exact tail_any (typeIs_str s z t) slot_str_getitem.lookup (getItem_str (c:=c) (by
  have e1:decide (i < -(2 ^ 63:Int))=false:=QF (by lia);have e2:decide (i>=2 ^ 63)=false:=QF (by lia);rw[e1,e2,Bool.or_false]) (by rw[h1];simpa using h2) ⟨.str ⟨#[c]⟩,H,I.tok _,⟨_,rfl⟩,q⟩) hs
theorem qP (its:List Value) (n j:Nat) (u:Value):Obj.mapSeq (·.setIfInBounds j u) {cls:= .type "list",data:= .seq its.toArray n}={cls:= .type "list",data:= .seq (its.set j u).toArray n}:=by simp[Obj.mapSeq]
theorem Inv.lst {pins:List (Addr×Obj)} {σ:St} {H:Hp} {s:Shared} {p:Addr} {xs:List V} (I:Inv X pins σ H s) (h:H p=some (.lst xs)):
  ∃(its:List Value) (n:Nat),aw xs its/\s.heap.get? p=some {cls:= .type "list",data:= .seq its.toArray n}/\xs.length<=sizeLine:=by
 obtain⟨z,its,n,r,e⟩:=I.hok p _ h;exact⟨its,n,r,e,z⟩
theorem Inv.DL {pins:List (Addr×Obj)} {σ:St} {H:Hp} {s:Shared} {p:Addr} {xs ys:List V} {its its':List Value} {n n':Nat} {f:Obj->Obj} (I:Inv X pins σ H s) (h:H p=some (.lst xs))
  (ho:s.heap.get? p=some {cls:= .type "list",data:= .seq its.toArray n}) (hf:f {cls:= .type "list",data:= .seq its.toArray n}={cls:= .type "list",data:= .seq its'.toArray n'}) (r:aw ys its') (hz:ys.length<=sizeLine) (t:Nat):
  Inv X pins σ (upd H p (.lst ys)) {s with heap:=s.heap.update p f,toks:=t}:=by
 have e:(s.heap.update p f).get? p=some {cls:= .type "list",data:= .seq its'.toArray n'}:=by rw[Heap.get?_update_self f ho (by rw[hf] <;> rfl),hf]
 refine I.write (x:=p) (e:=p) (by rw[h];trivial) (.inl rfl) (λb u hb q=>(QI _ _ (Ne.symm hb)).trans q) ⟨_,e⟩ ?_;exact⟨hz,its',n',r,e⟩
noncomputable def Ci:V->V->V->Hp->(Hp->Prop)->Prop:=λo i v H Q=>∃p xs k j,o= .ref p/\i= .int k/\H p=some (.lst xs)/\mO xs.length k=some j/\Q (upd H p (.lst (xs.set j v)))
theorem set_list:F8 X Ci:=by
 intro pins s σ H o i v ov iv u Q I ro ri rv h;obtain⟨p,xs,k,j,rfl,rfl,hp,hj,q⟩:=h;cases ro;obtain⟨t,rfl⟩:=ri;obtain⟨its,n,r,ho,hz⟩:=I.lst hp;obtain⟨h1,h2,h3,h4⟩:=sS hj;have hl:=r.length;have hn:=iX;have I':Inv X pins σ (upd H p (.lst (xs.set j v))) {s with heap:=s.heap.update p (Obj.mapSeq (·.setIfInBounds j u))}:=
  I.DL hp ho (qP its n j u) (r.set rv j) (by rw[List.length_set];exact hz) s.toks
 by_cases h0:0<=k
 ·have hk:k.toNat=j:=by rw[seqIndex_of h0 h4] at h1;exact Option.some.inj h1
  exact PySem.W.ki_setAt ho h0 (by lia) (by rw[Qg,<-hl];exact h4) (by rw[hk];exact⟨_,I',q⟩)
 ·have hk:(k + (its.toArray.size:Int)).toNat=j:=by rw[seqIndex_neg (by lia) h3] at h1;rw[Qg,<-hl];exact Option.some.inj h1
  exact PySem.W.ki_setBack ho (by lia) (by rw[Qg,<-hl];exact h3) (by lia) (by rw[hk];exact⟨_,I',q⟩)
theorem nr (lo hi:Option Int) (n:Nat):(sliceBounds lo hi none n).1=((HT.bW n 0 lo:Nat):Int)/\(sliceBounds lo hi none n).2.1=((HT.bW n n hi:Nat):Int)/\(sliceBounds lo hi none n).2.2=1:=by
 refine⟨?_,?_,rfl⟩
 ·cases lo with
  | none=>simp[sliceBounds,HT.bW]
  | some i=>
   simp only[sliceBounds,HT.bW,Option.getD_none,show (1:Int) > 0 by decide,if_true];by_cases h:i < 0
   ·simp only[h,if_true] <;> lia
   ·simp only[h,if_false] <;> lia
 ·cases hi with
  | none=>simp[sliceBounds,HT.bW]
  | some i=>
   simp only[sliceBounds,HT.bW,Option.getD_none,show (1:Int) > 0 by decide,if_true];by_cases h:i < 0
   ·simp only[h,if_true] <;> lia
   ·simp only[h,if_false] <;> lia
theorem lj (its:List Value) (lo hi:Option Int):slicePick its.toArray lo hi none=((its.drop (HT.bW its.length 0 lo)).take (HT.bW its.length its.length hi - HT.bW its.length 0 lo)).toArray:=by obtain⟨h1,h2,h3⟩:=nr lo hi its.toArray.size;unfold slicePick;rw[h1,h2,h3];simp only[sliceRange_one,pick_run,Qg] <;> rfl
noncomputable def LW (K:PySem.W.Frag):V->Option Int->Option Int->Hp->VK->Prop:=λx lo hi H Q=>∃a xs,x= .ref a/\dE K H a xs/\∀p,H p=none->Q (.ref p) (upd H p (.lst (kZ xs lo hi)))
theorem tY:FA X (LW X.K):=by intro pins s σ H x v vl vu lo hi sl Q I rx hs pl pu h;obtain⟨a,xs,rfl,hx,q⟩:=h;cases rx;obtain⟨its,r,ht,hz⟩:=I.list hx;have hlen:=r.length;refine⟨"list",_,slot_list_getitem.lookup,ht.isList.typeIs,?_⟩;refine wpAny_getItem_list_slice ht.isList hs pl pu .none (by simp) ?_ (by rw[Qg] <;> lia);rw[lj,<-hlen];refine⟨.ref s.heap.objs.size,_,I.laid (t':=s.toks) (o:= .lst (kZ xs lo hi)) (λb ob q=>Qd _ q) (Ql _) ?_,rfl,q _ (I.hok.fresh (Ql _))⟩;exact⟨Qr (jb xs lo hi) hz,_,0,(r.drop (HT.bW xs.length 0 lo)).take (HT.bW xs.length xs.length hi - HT.bW xs.length 0 lo),Qn _ rfl⟩
theorem ej:eQ X (.type "list") (λxs H Q=>∃p ys,xs=[.ref p]/\(dE X.K H p ys\/eh X.K H p ys)/\∀l,H l=none->Q (.ref l) (upd H l (.lst ys))):=by
 intro pins s σ H xs us Q I r h;obtain⟨p,ys,rfl,hq,q⟩:=h;obtain⟨u,rfl,rx⟩:=vals1 r;cases rx;have fin:∀(its:List Value),aw ys its->ys.length<=sizeLine->∀(h':Heap) (c':Nat),(∀b o',s.heap.get? b=some o'->h'.get? b=some o')->
   h'.get? s.heap.objs.size=some {cls:= .type "list",dict:=none,data:= .seq its.toArray c',slots:=#[]}->EP X pins σ Q (.ref s.heap.objs.size) {s with heap:=h'}:=λits r' hz h' c' kp e=>
  ⟨.ref s.heap.objs.size,_,I.laid (t':=s.toks) kp (Ql _) (show bw X.prog X.w _ h' _ (.lst ys) from⟨hz,its,c',r',e⟩),rfl,q _ (I.hok.fresh (Ql _))⟩
 rcases hq with hq | hq
 ·obtain⟨its,r',pl,hz⟩:=I.list hq;have hlen:=r'.length;obtain⟨o,ho,hc,n,hd⟩:=pl.isList;exact call_list_seq p (.inl rfl) ho hc hd (λh' c' kp e=>fin its r' hz h' c' kp e) (by simp only[Qg] <;> lia)
 ·obtain⟨its,r',pl,hz⟩:=I.tuple hq;have hlen:=r'.length;obtain⟨o,ho,hc,n,hd⟩:=pl;exact call_list_seq p (.inr rfl) ho hc hd (λh' c' kp e=>fin its r' hz h' c' kp e) (by simp only[Qg] <;> lia)
theorem gg:eQ X (.type "tuple") (λxs H Q=>∃p ys,xs=[.ref p]/\((dE X.K H p ys/\∀l,H l=none->Q (.ref l) (upd H l (.tup ys)))\/(eh X.K H p ys/\Q (.ref p) H))):=by
 intro pins s σ H xs us Q I r h;obtain⟨p,ys,rfl,h⟩:=h;obtain⟨u,rfl,rx⟩:=vals1 r;cases rx;rcases h with ⟨hq,q⟩ | ⟨hq,q⟩
 ·obtain⟨its,r',pl,hz⟩:=I.list hq;have hlen:=r'.length;refine call_tuple_list pl.isList (λh' kp=>?_) (by simp only[Qg] <;> lia);have I1:Inv X pins σ H {s with heap:=h'}:=I.kept (t':=s.toks) kp;have I2:Inv X pins σ (upd H h'.objs.size (.tup ys)) {s with heap:=h'.push {cls:= .type "tuple",data:= .seq its.toArray}}:=
   I1.laid (t':=s.toks) (λb o e=>Qd _ e) (Ql _) (show bw X.prog X.w _ _ _ (.tup ys) from⟨hz,its,r',jS.new _ _⟩)
  exact⟨.ref h'.objs.size,_,I2,rfl,q _ (I1.hok.fresh (Ql _))⟩
 ·obtain⟨its,r',pl,hz⟩:=I.tuple hq;exact call_tuple_same pl ⟨.ref p,H,I,rfl,q⟩
noncomputable def Mu (K:PySem.W.Frag) (T:String) (x:V) (H:Hp):Prop:=match x with
 | .str _=>T="str"
 | .int _=>T="int"
 | .ref p=>(T="list"/\∃xs,dE K H p xs)\/(T="tuple"/\∃o,K.lookup p=some o/\o.cls= .type "tuple"/\o.dict=none)\/
   (T="dict"/\((∃bq,H p=some (.dK bq))\/∃bq,H p=some (.dT bq)))\/(T="set"/\∃S n,H p=some (.set S n))
 | _=>False
theorem yY {pins:List (Addr×Obj)} {σ:St} {H:Hp} {s:Shared} {T:String} {x:V} {v:Value} (I:Inv X pins σ H s) (r:RelV x v) (ty:Mu X.K T x H):
  s.TypeIs v T/\∀a,v= .ref a->∃ob,s.heap.get? a=some ob/\ob.dict=none:=by
 cases x with
 | str z=>obtain⟨t,rfl⟩:=r;cases (show T="str" from ty);exact⟨typeIs_str s z t,λ_ e=>nomatch e⟩
 | int i=>obtain⟨t,rfl⟩:=r;cases (show T="int" from ty);exact⟨typeIs_int s i t,λ_ e=>nomatch e⟩
 | ref p=>
  cases r;rcases ty with ⟨rfl,xs,hq⟩ | ⟨rfl,o,hk,hc,hd⟩ | ⟨rfl,hk⟩ | ⟨rfl,S,n,hk⟩
  ·obtain⟨its,_,pl,_⟩:=I.list hq;refine⟨pl.isList.typeIs,λa e=>?_⟩;cases e;obtain⟨o,n,e,c,hd,_⟩:=pl;exact⟨o,e,hd⟩
  ·refine⟨⟨o,I.jE p o hk,hc⟩,λa e=>?_⟩;cases e;exact⟨o,I.jE _ o hk,hd⟩
  ·have z:∃o,s.heap.get? p=some o/\o.ExactDict:=by
    rcases hk with ⟨bq,hk⟩ | ⟨bq,hk⟩
    ·obtain⟨_,_,_,_,o,_,_,e,ex,_⟩:=I.hok p _ hk;exact⟨o,e,ex⟩
    ·obtain⟨_,_,_,_,o,_,_,e,ex,_⟩:=I.hok p _ hk;exact⟨o,e,ex⟩
   obtain⟨o,e,ex⟩:=z;refine⟨⟨o,e,ex.1⟩,λa e2=>?_⟩;cases e2;exact⟨o,e,ex.2.1⟩
  ·obtain⟨o,_,_,_,e,ex,_⟩:=I.hok p _ hk;refine⟨⟨o,e,ex.1⟩,λa e2=>?_⟩;cases e2;exact⟨o,e,ex.2.1⟩
 | _=>exact False.elim ty
noncomputable def IG (K:PySem.W.Frag) (T:String) (r:V->List V->Hp->VK->Prop) (to:TE):TE:=λσ H Q=>to σ H λx H1=>Mu K T x H1/\r x [] H1 Q
noncomputable def Mi (K:PySem.W.Frag) (T:String) (r:V->List V->Hp->VK->Prop) (to:TE) (t:TA):TE:=λσ H Q=>to σ H λx H1=>Mu K T x H1/\t σ H1 λxs H2=>r x xs H2 Q
variable {o e:Expr} {es:List Expr} {to:TE} {t:TA} {name:Str} {apos cA:Pos} {T id:String} {r:V->List V->Hp->VK->Prop}
theorem Ef (pa:PlainAttrs T) (slot:Slot T name id) (Hb:typeOf (.builtin id)=pure (.type "method_descriptor")) (hm:Jl X id r) (ho:PE X o to)
  (gY:attributeBase o name X.env (eval o X.env)=eval o X.env:=by rfl) (j8:(apos.endLine==cA.line)=true:=by rfl):PE X (.Call (.Attribute o name apos) [] [] cA) (IG X.K T r to):=by
 intro pins s σ H Q I h;refine wpAny_Call_method0_late gY j8 (bO (ho pins s σ H _ I h) λv s1 ⟨x,H1,I1,r1,ty,q1⟩=>?_);obtain⟨h1,h2⟩:=yY I1 r1 ty;exact⟨T,id,pa,slot,Hb,h1,h2,Calls.callWith_builtin rfl (PySem.evalArgs_none (hm pins s1 σ H1 x [] v [] Q I1 r1 .nil q1))⟩
theorem Cb (pa:PlainAttrs T) (slot:Slot T name id) (Hb:typeOf (.builtin id)=pure (.type "method_descriptor")) (hm:Jl X id r) (ho:PE X o to) (ha:PA X (e::es) t)
  (gY:attributeBase o name X.env (eval o X.env)=eval o X.env:=by rfl)
  (Df:((backTo cA (starEach (e::es) X.env)).all (λx=> !x.1)&&(backToKw cA (keywordEach [] X.env)).all (λx=>x.1.isSome)
   &&decide ((e::es).length + ([]:List Keyword).length + (if ([]:List Keyword).isEmpty then 0 else 1) < 30))=true:=by rfl)
  (j8:(apos.endLine==cA.line)=true:=by rfl) (hs:starEach (e::es) X.env=(false,eval e X.env)::starEach es X.env:=by rfl) (qE:(backTo cA (starEach es X.env)).any (·.1)=false:=by rfl):
  PE X (.Call (.Attribute o name apos) (e::es) [] cA) (Mi X.K T r to t):=by
 intro pins s σ H Q I h;refine wpAny_Call_method_late gY Df j8 rfl (bO (ho pins s σ H _ I h) λv s1 ⟨x,H1,I1,r1,ty,q1⟩=>?_);obtain⟨h1,h2⟩:=yY I1 r1 ty;refine⟨T,id,pa,slot,Hb,h1,h2,?_⟩;have hA:=ha cA pins s1 σ H1 _ I1 q1;rw[hs] at hA ⊢;refine Calls.callWith_builtin (by show (false||(backTo cA (starEach es X.env)).any (·.1))=false;rw[qE] <;> rfl) (Calls.evalArgs_plain ?_);exact bO hA λus s2 ⟨vs,H2,I2,r2,q2⟩=>hm pins s2 σ H2 x vs v us Q I2 r1 r2 q2
end
end L2
namespace L2
open PySem PySem.Spec PyProof.Rows
noncomputable def F0 (X:Cx) (id:String) (r:V->List V->Hp->VK->Prop):Prop:=
 ∀(pins:List (Addr×Obj)) (s:Shared) (σ:St) (H:Hp) (x:V) (xs:List V) (v:Value) (us:List Value) (Q:VK),Inv X pins σ H s->RelV x v->aw xs us->r x xs H Q->
  wpAny (model X.prog X.w) X.A (call (.builtin id) (v::us)) (EP X pins σ Q) X.xe s
theorem aw.cons_inv {x:V} {xs:List V} {us:List Value} (h:aw (x::xs) us):∃u ut,us=u::ut/\RelV x u/\aw xs ut:=by
 cases h with
 | cons r t=>exact⟨_,_,rfl,r,t⟩
theorem aw.one {x:V} {us:List Value} (h:aw [x] us):∃u,us=[u]/\RelV x u:=
 have ⟨u,ut,e,r,t⟩:=h.cons_inv
 ⟨u,by cases t;exact e,r⟩
theorem aw.two {x y:V} {us:List Value} (h:aw [x,y] us):∃u v,us=[u,v]/\RelV x u/\RelV y v:=
 have ⟨u,ut,e,r,t⟩:=h.cons_inv;have ⟨v,e2,q⟩:=t.one
 ⟨u,v,e2▸e,r,q⟩
theorem aw.zero:∀{us:List Value},aw [] us->us=[]
 | _,.nil=>rfl
theorem aw.dropLast {xs:List V} {us:List Value} (h:aw xs us):aw xs.dropLast us.dropLast:=by
 induction h with
 | nil=>exact .nil
 | cons r t ih=>
  cases t with
  | nil=>exact .nil
  | cons q t'=>exact .cons r ih
theorem qv {α:Type} (l:List α):l.eraseIdx (l.length - 1)=l.dropLast:=by
 induction l with
 | nil=>rfl
 | cons a r ih=>
  cases r with
  | nil=>rfl
  | cons b r=>
   have e:(a::b::r).length - 1=((b::r).length - 1) + 1:=by
    have h1:(a::b::r).length=r.length + 2:=rfl;have h2:(b::r).length=r.length + 1:=rfl
    lia
   rw[e,List.eraseIdx_cons_succ,ih]
   all_goals rfl
section
variable {X:Cx} {pins:List (Addr×Obj)} {σ:St} {H:Hp} {s:Shared} {l b:Addr} {xs ys zs:List V}
theorem Inv.xS {its its':List Value} {n:Nat} {f:Array Value->Array Value} {t':Nat} (I:Inv X pins σ H s) (hH:H l=some (.lst xs))
  (e:s.heap.get? l=some {cls:= .type "list",data:= .seq its.toArray n}) (hf:f its.toArray=its'.toArray) (hv:aw ys its') (hz:ys.length<=sizeLine):
  Inv X pins σ (upd H l (.lst ys)) {s with heap:=s.heap.update l (Obj.mapSeq f),toks:=t'}:=by
 have q:=PySem.IsL.update e f;rw[hf] at q;refine I.write (x:=l) (e:=l) (by rw[hH];exact trivial) (.inl rfl) (λb' u hb hu=>(QI s.heap (Obj.mapSeq f) (Ne.symm hb)).trans hu) ⟨_,q⟩ ?_;exact⟨hz,its',_,hv,q⟩
theorem Inv.Hs {its:List Value} {t':Nat} (I:Inv X pins σ H s) (hv:aw ys its) (hz:ys.length<=sizeLine):
  Inv X pins σ (upd H s.heap.objs.size (.lst ys)) {s with heap:=s.heap.push {cls:= .type "list",data:= .seq its.toArray},toks:=t'}:=
 I.laid (λ_ _ q=>Qd _ q) (Ql _) ⟨hz,its,0,hv,Qn _ rfl⟩
theorem Inv.fresh (I:Inv X pins σ H s):H s.heap.objs.size=none:=I.hok.fresh (Ql _)
theorem Inv.oV (I:Inv X pins σ H s) (hH:H l=some (.lst xs)):xs.length<=sizeLine/\∃(its:List Value) (n:Nat),aw xs its/\xs.length=its.length/\s.heap.get? l=some {cls:= .type "list",data:= .seq its.toArray n}:=by obtain⟨z,its,n,r,e⟩:=I.hok l _ hH;exact⟨z,its,n,r,r.length,e⟩
theorem o6 {n:Nat} (h:n<=sizeLine):Builtin.List.listTooLong n=false:=by unfold Builtin.List.listTooLong;exact QF (by lia)
end
section
variable {X:Cx}
noncomputable def tU:V->List V->Hp->VK->Prop:=λx vs H Q=>∃l xs y,x= .ref l/\vs=[y]/\H l=some (.lst xs)/\xs.length < sizeLine/\Q .bb (upd H l (.lst (xs++[y])))
theorem lQ:F0 X "list.append" tU:=by
 intro pins s σ H x vs v us Q I rx rv h;obtain⟨l,xs,y,rfl,rfl,hH,hz,q⟩:=h;cases rx;obtain⟨u,rfl,ru⟩:=rv.one;obtain⟨z,its,n,r,hl,e⟩:=I.oV hH;refine call_meets F.slot_list_append ⟨_,e,rfl⟩ F.entry_list_append (F.args_list_append_2 _ _) (PySem.list_append l its.toArray n u (by rw[Qg];lia)) ⟨e,?_⟩;refine⟨.bb,_,I.xS (its':=its++[u]) hH e (by simp) (r.append (.cons ru .nil)) ?_,rfl,q⟩;rw[Qw,List.length_singleton]
 lia
noncomputable def Bp:V->List V->Hp->VK->Prop:=λx vs H Q=>∃l b xs zs,x= .ref l/\vs=[.ref b]/\H l=some (.lst xs)/\H b=some (.lst zs)/\xs.length + zs.length<=sizeLine/\Q .bb (upd H l (.lst (xs++zs)))
theorem uZ:F0 X "list.extend" Bp:=by
 intro pins s σ H x vs v us Q I rx rv h;obtain⟨l,b,xs,zs,rfl,rfl,hH,hB,hz,q⟩:=h;cases rx;obtain⟨u,rfl,ru⟩:=rv.one;cases ru;obtain⟨z,its,n,r,hl,e⟩:=I.oV hH;obtain⟨z2,aI,n2,r2,fB,e2⟩:=I.oV hB;have gM:its.toArray.size + aI.toArray.size<=sizeLine:=by rw[Qg,Qg];lia
 have G7:¬(!its.toArray.isEmpty&&Builtin.List.listTooLong (its.toArray.size + aI.toArray.size))=true:=by rw[o6 gM,Bool.and_false];exact Bool.false_ne_true
 refine call_meets F.slot_list_extend ⟨_,e,rfl⟩ F.entry_list_extend (F.args_list_extend_2 _ _)
  (AutoSeq1.list_extend_list_list_0 l its.toArray n b aI.toArray n2 G7 (by rw[Qg];lia) (by lia)) ⟨e,e2,?_⟩
 refine⟨.bb,_,I.xS (its':=its++aI) hH e (by simp) (r.append r2) ?_,rfl,q⟩;rw[Qw]
 lia
noncomputable def LV:V->List V->Hp->VK->Prop:=λx vs H Q=>∃l xs y,x= .ref l/\vs=[]/\H l=some (.lst xs)/\xs[xs.length - 1]?=some y/\Q y (upd H l (.lst xs.dropLast))
theorem LA:F0 X "list.pop" LV:=by
 intro pins s σ H x vs v us Q I rx rv h;obtain⟨l,xs,y,rfl,rfl,hH,hy,q⟩:=h;cases rx;have Ld:=rv.zero;subst Ld;obtain⟨z,its,n,r,hl,e⟩:=I.oV hH;obtain⟨u,hu,ru⟩:=r.get hy;have O8:its.toArray[its.toArray.size - 1]?=some u:=by show its.toArray[its.length - 1]?=some u;rw[<-Array.getElem?_toList,<-hl];exact hu
 refine call_meets F.slot_list_pop ⟨_,e,rfl⟩ F.entry_list_pop (F.args_list_pop_1 _) (MeetsSeq.list_pop_last l its.toArray n u O8 (by rw[Qg];lia)) ⟨e,?_⟩;refine⟨y,_,I.xS (its':=its.dropLast) hH e ?_ r.dropLast ?_,ru,q⟩
 ·show its.toArray.eraseIdxIfInBounds (its.toArray.size - 1)=its.dropLast.toArray;rw[Qg,List.eraseIdxIfInBounds_toArray,qv]
 ·rw[List.length_dropLast]
  lia
noncomputable def yx:V->List V->Hp->VK->Prop:=λx vs H Q=>∃l xs,x= .ref l/\vs=[]/\H l=some (.lst xs)/\Q .bb (upd H l (.lst []))
theorem xU:F0 X "list.clear" yx:=by intro pins s σ H x vs v us Q I rx rv h;obtain⟨l,xs,rfl,rfl,hH,q⟩:=h;cases rx;have Ld:=rv.zero;subst Ld;obtain⟨z,its,n,r,hl,e⟩:=I.oV hH;refine call_meets F.slot_list_clear ⟨_,e,rfl⟩ F.entry_list_clear (F.args_list_clear_1 _) (AutoSeq1.list_clear_list_0 l its.toArray n (by rw[Qg];lia)) ⟨e,?_⟩;exact⟨.bb,_,I.xS (its':=[]) (ys:=[]) hH e rfl .nil (Nat.zero_le _),rfl,q⟩
noncomputable def LO:R2:=λx y H Q=>∃l b xs zs,x= .ref l/\y= .ref b/\H l=some (.lst xs)/\H b=some (.lst zs)/\xs.length + zs.length<=sizeLine/\∀p,H p=none->Q (.ref p) (upd H p (.lst (xs++zs)))
theorem eG:jx X (binaryOp .Add) LO:=by
 intro pins s σ H x y v u Q I rx ry h;obtain⟨l,b,xs,zs,rfl,rfl,hH,hB,hz,q⟩:=h;cases rx;cases ry;obtain⟨z,its,n,r,hl,e⟩:=I.oV hH;obtain⟨z2,aI,n2,r2,fB,e2⟩:=I.oV hB;refine PySem.P.add_list e e2 ?_ (by rw[Qg,Qg];lia);have ea:its.toArray++aI.toArray=(its++aI).toArray:=by simp
 rw[ea];exact⟨.ref _,_,I.Hs (t':=s.toks) (r.append r2) (by rw[Qw];lia),rfl,q _ I.fresh⟩
end
end L2
namespace Att
open PySem PySem.W PySem.Calls PyProof.Rows
theorem jn {P:Params} {h:Heap}:∀(ns:List Int) (vs:List Value),WellAll P h vs (ns.map WData.int)->IntsAre vs ns:=by
 intro ns
 induction ns with
 | nil=>intro vs w;rw[List.map_nil] at w;cases w;exact .nil
 | cons n ns ih=>
  intro vs w;rw[QY] at w;cases w with
  | cons a b=>cases a;exact .cons _ _ (ih _ b)
theorem vg {l:OpenLaw} {n:Nat} (hn:l.most=some n) {P:Params} {h:Heap} {args:List WData} {vals:List Value}
  (Ay:l.row.toRowW.claim.pre args=true) (JD:WellAll P h vals args):
  ∃a vs ns,vals=[Value.ref a]/\args=[WData.list (ns.map WData.int)]/\h.get? a=some {cls:= .type "list",data:= .seq vs.toArray}/\IntsAre vs ns/\ns.length<=n:=by
 have K7:WShape.hasAll [] args [.list .int]=true:=(pre_splitW Ay).1;have hc:l.pre.holds [] {args:=args}=true:=(pre_splitW Ay).2;obtain⟨d,r,rfl,h1,h2⟩:=hasAllW_cons K7;obtain rfl:=hasAllW_nil h2;obtain⟨xs,rfl,h3⟩:=hasW_list h1;obtain⟨ns,rfl⟩:=items_int h3;have hlen:ns.length<=n:=by
  unfold OpenLaw.pre at hc;have h4:(WTm.not (.lt (.lit (.int (n:Int))) (.len (.arg 0)))).holds [] {args:=[.list (ns.map .int)]}=true:=by have h4:=(holds_andW hc).1;rw[hn] at h4;exact h4
  have h5:=condW_of h4 (w_not (w_lt w_lit (w_len_list (w_arg rfl))));rw[Qp] at h5;refine Nat.le_of_not_lt λq=>?_
  have q':(n:Int) < ((ns.length:Nat):Int):=by lia
  first
   | (rw[QJ q'] at h5;exact absurd h5 (by decide))
   | (simp at h5;lia)
 cases JD with
 | cons w1 w2=>
  cases w2;cases w1 with
  | list ho hall=>exact⟨_,_,ns,rfl,rfl,ho,jn ns _ hall,hlen⟩
theorem u9 (l:OpenLaw) (args:List WData):l.row.toRowW.claim.post args (.bool true) args=true:=
 postW_of (r:=l.row.toRowW) (X:=(true==true))
  (show WShape.has [] (.bool true) .bool=true by first | rfl | decide | simp[WShape.has,WShape.arms,WShape.armsAll])
  (show (WTm.eq .res (.lit (.bool true))).value [] {args:=args,res:=some (.bool true),after:=args}=some (.bool (true==true)) from w_eq_bool (w_res rfl) w_lit) rfl
theorem nV {l:OpenLaw} {n:Nat} {q:Program} {loose:List Str} {XP:(Str->Option Value)->Heap->Prop} {YP:World->Heap->Prop} {d:DefRec}
  (hn:l.most=some n) (G1:d.params.defaults=[])
  (call:∀(w:World) (s₀ s₁:Shared) (mg mb:Str->Option Value) (fa:Addr) (o:Obj) (pm cd doc:Value) (a:Addr) (vs:List Value) (ns:List Int),
   Ground q loose [] XP w s₀ mg mb s₁.heap->YP w s₁.heap->
   s₁.heap.get? fa=some o->o.data= .func (docDef d.name d.params d.body d.scope pm cd doc)->s₁.heap.CodeRec cd d.name->mg d.name=some (.ref fa)->
   s₁.heap.get? a=some {cls:= .type "list",data:= .seq vs.toArray}->IntsAre vs ns->ns.length<=n->s₁.gens=#[]->
   codeAny (model l.prog w) callerA (.call (.ref fa) ⟨[.ref a],[]⟩) (λr s'=>r= .ok (.ret (.bool true))/\OldK s₁.heap s'.heap/\s'.os=s₁.os/\AllBare s'.gens) s₁):
  WalkO q loose XP YP l.row.toRowW d [] (λf vs=>PySem.call f vs):=by
 intro w s₀ s₁ mg mb G Y fa o pm cd doc dV kV ho hd vz hD hmg hg args vals as Ay hlay hrd JD mJ;obtain rfl:dV= .none:=Dflts.none hD G1;obtain rfl:kV= .none:=Dflts.noKw hD;obtain⟨a,vs,ns,rfl,rfl,Dm,hints,hlen⟩:=vg hn Ay JD;refine enter_call (codeAny_mono (call w s₀ s₁ mg mb fa o pm cd doc a vs ns G Y ho (fd_plain hd) vz hmg Dm hints hlen hg) λr s' hq=>?_);obtain⟨rfl,h2,h3,h4⟩:=hq;exact⟨.inl ⟨.bool true,.bool true,[],rfl,λ_=>rfl,.bool true,u9 l _,λ_=>⟨List.Pairwise.nil,λ_ hm=>(nomatch hm)⟩⟩,h2,h3,h4⟩
end Att
namespace L2
open PySem PySem.Spec PyProof.Rows
theorem lW:∀{vs:List Value} {ns:List Int},IntsAre vs ns->aw (ns.map V.int) vs
 | _,_,.nil=> .nil
 | _,_,.cons n t h=> .cons ⟨t,rfl⟩ (lW h)
noncomputable def CA (H:Hp):Prop:=∀b,H b=none\/∃o xs,H b=some (.sE o (.lst xs))
theorem xN {P:Program} {w:World} {K:PySem.W.Frag} {mg mb:Str->Option Value} {CX:jt} {k:Nat} {fa a:Addr} {fd:FuncData} {x:Str} {sp:Sp} {s₁:Shared} {vs:List Value} {ns:List Int}
  (KX:K.In s₁.heap) (FN:s₁.heap.Ns mainGlobals mg) (hb:s₁.heap.Ns builtinsNs mb) (oG:∀x:Str,x≠"__name__"->mb x=bootBuiltins x) (iV:s₁.heap.NoLimit) (hg:s₁.gens=#[])
  (ha:s₁.heap.get? a=some {cls:= .type "list",data:= .seq vs.toArray}) (hi:IntsAre vs ns) (hl:ns.length<=sizeLine) (hr:gP k callerA)
  (F:∀base:Heap,K.In base->base.Ns mainGlobals mg->iK P w K mg base CX k fa fd [x] sp) (GT:∀(s:Shared) (u:Value),BindsTo s fd ⟨[u],[]⟩ [(x,u)])
  (nG:∀H:Hp,CA H->dE K H a (ns.map V.int)->sp [.ref a] H (λv _=>v= .bl true) λ_ _ _=>False)
  (KD:∀H e s',CX [] H s₁ (λ_ _ _=>False) e s'->False):
  codeAny (model P w) callerA (.call (.ref fa) ⟨[.ref a],[]⟩) (λr s'=>r= .ok (.ret (.bool true))/\OldK s₁.heap s'.heap/\s'.os=s₁.os/\AllBare s'.gens) s₁:=by
 have rv:=lW hi;have Lu:=hi.length;have core:∀H:Hp,CA H->dE K H a (ns.map V.int)->d9 P w H s₁.heap->(∀b,H b≠none->b=a)->(H a≠none->K.lookup a=none)->
   codeAny (model P w) callerA (.call (.ref fa) ⟨[.ref a],[]⟩) (λr s'=>r= .ok (.ret (.bool true))/\OldK s₁.heap s'.heap/\s'.os=s₁.os/\AllBare s'.gens) s₁:=by
  intro H hO hS hok hA hK;have rV:∀{b:Addr} {o:Obj},s₁.heap.get? b=some o->H b=none->(mI s₁.heap H).get? b=some o:=λe n=>xu e n
  have HA:∀{b:Addr} {o:Obj} {es:Array DictEntry} {ep:Nat},s₁.heap.get? b=some o->o.data= .dict es ep->H b=none:=λ {b o es ep} e d=>by
   cases q:H b with
   | none=>rfl
   | some u=>have e':b=a:=hA b (by rw[q];simp);subst e';rw[ha] at e;cases e;have d':Data.seq vs.toArray _=Data.dict es ep:=d;cases d'
  have JH:∀{b:Addr} {m:Str->Option Value},s₁.heap.Ns b m->(mI s₁.heap H).Ns b m:=λ {b m} ⟨o,es,ep,e,d,r⟩=>⟨o,es,ep,rV e (HA e d),d,r⟩
  have MU:K.In (mI s₁.heap H):=λb o e=>rV (KX b o e) (by
   cases q:H b with
   | none=>rfl
   | some u=>
    have e':b=a:=hA b (by rw[q];simp);subst e';rw[hK (by rw[q];simp)] at e;cases e)
  have hM:Mod K mg (mI s₁.heap H):=⟨MU,JH FN,⟨mb,JH hb,oG⟩,let ⟨mc,h1,h2⟩:=iV;⟨mc,JH h1,h2⟩⟩;have e0:zH P w K mg (mI s₁.heap H) callerA [] s₁ H:=⟨rfl,hM,λb o e=>A3 e,Nat.le_of_eq (uO _ _),trivial,λb hb=>absurd (show b∈([]:List Addr) from hb) (by simp),hok,.of_eq hg⟩;refine codeAny_mono ((F _ MU (JH FN)).run callerA [] s₁ H ⟨[.ref a],[]⟩ [.ref a] [.ref a] _ _ hr e0 (GT s₁ (.ref a)) (.cons rfl .nil) (nG H hO hS)) λr s' h=>?_
  cases r with
  | error e=>exact(KD H e s' h).elim
  | ok fl=>
   cases fl with
   | next=>exact False.elim h
   | brk=>exact False.elim h
   | cont=>exact False.elim h
   | ret u=>
    obtain⟨v,H',os,bare,un,Ax,r',q⟩:=h;have q':v= .bl true:=q;subst q';obtain rfl:u=Value.bool true:=r';refine⟨rfl,OldK.of_keep λb o e=>?_,os,bare⟩;cases q:H b with
    | none=>exact un.keep b o e q (by intro z;exact absurd (show b∈([]:List Addr) from z) (by simp)) (by simp)
    | some u=>
     rcases hO b with z | ⟨ob,xs,z⟩
     ·rw[q] at z;cases z
     ·have z2:=un.frzs b ob _ z;obtain⟨e1,_⟩:=hok b _ z;obtain⟨e2,_⟩:=Ax b _ z2;rw[e] at e1;cases e1;exact e2
 cases hk:K.lookup a with
 | some o=>have e:=KX a o hk;rw[ha] at e;cases e;refine core (λ_=>none) (λ_=> .inl rfl) (.inr ⟨_,vs.toArray,_,hk,rfl,rfl,rfl,by rw[Qg,Lu];exact hl,by simpa using rv⟩) (λb u z=>by have z':(none:Option HO)=some u:=z;cases z') (λb z=>absurd rfl z) λz=>absurd rfl z
 | none=>
  refine core (λb=>if b=a then some (.sE {cls:= .type "list",data:= .seq vs.toArray} (.lst (ns.map V.int))) else none) (λb=>?_) (.inl (.inr ⟨{cls:= .type "list",data:= .seq vs.toArray},if_pos rfl⟩)) (λb u z=>?_) (λb z=>?_) λ_=>hk
  ·by_cases hb:b=a
   ·exact .inr ⟨_,_,if_pos hb⟩
   ·exact .inl (if_neg hb)
  ·by_cases hb:b=a
   ·have z':=(if_pos hb).symm.trans z;cases z';subst hb;exact⟨ha,by rw[Qp];exact hl,vs,_,rv,ha⟩
   ·have z':=(if_neg hb).symm.trans z;cases z'
  ·by_cases hb:b=a
   ·exact hb
   ·exact absurd (if_neg hb) z
end L2
namespace L2
open PySem PySem.Spec PyProof.Rows
theorem BH {l:PySem.W.OpenLaw} {n k:Nat} {q:Program} {loose:List Str} {XP:(Str->Option Value)->Heap->Prop} {YP:World->Heap->Prop} {d:DefRec} {K:Params->PySem.W.Frag} {CX:World->jt} {sp:World->Sp} {x:Str}
  (hn:l.most=some n) (Dj:n<=sizeLine) (G1:d.params.defaults=[]) (hr:gP k callerA)
  (hY:∀(w:World) (h:Heap),YP w h->(K w.params).In h)
  (F:∀(w:World) (mg:Str->Option Value) (fa:Addr) (h:Heap),(K w.params).In h->h.Ns mainGlobals mg->mg d.name=some (.ref fa)->
   ∃fd:FuncData,(∀(s:Shared) (u:Value),BindsTo s fd ⟨[u],[]⟩ [(x,u)])/\
    ∀base:Heap,(K w.params).In base->base.Ns mainGlobals mg->iK l.prog w (K w.params) mg base (CX w) k fa fd [x] (sp w))
  (nG:∀(w:World) (H:Hp) (a:Addr) (ns:List Int),ns.length<=n->CA H->dE (K w.params) H a (ns.map V.int)->sp w [.ref a] H (λv _=>v= .bl true) λ_ _ _=>False)
  (KD:∀(w:World) (H:Hp) (s:Shared) (e:Value) (s':Shared),CX w [] H s (λ_ _ _=>False) e s'->False):
  PySem.W.WalkO q loose XP YP l.row.toRowW d [] (λf vs=>PySem.call f vs):=by
 refine Att.nV hn G1 λw s₀ s₁ mg mb fa o pm cd doc a vs ns G Y ho hd vz hmg Dm hints hlen hg=>?_
 have KX:=hY w _ Y;obtain⟨fd,hb,hF⟩:=F w mg fa _ KX G.T.g hmg;exact xN KX G.T.g G.T.b G.T.builtins G.T.nolimit hg Dm hints (Qr hlen Dj) hr hF hb (λH hO hS=>nG w H a ns hlen hO hS) λH e s'=>KD w H s₁ e s'
end L2
namespace L2
open PySem PySem.Spec PyProof.Rows
noncomputable def mh (s:Stmt):Arguments:=match s with
 | .FunctionDef _ a _ _ _ _ _ _ _ _=>a
 | _=>{posonlyargs:=[],args:=[],vararg:=none,kwonlyargs:=[],kw_defaults:=[],kwarg:=none,defaults:=[]}
noncomputable def gV (s:Stmt):List Stmt:=match s with
 | .FunctionDef _ _ b _ _ _ _ _ _ _=>b
 | _=>[]
noncomputable def bA (s:Stmt):Scope:=match s with
 | .FunctionDef _ _ _ _ _ _ sc _ _ _=>sc
 | _=>{kind:= .function,names:=[],isGenerator:=false,isCoroutine:=false}
theorem Hi {A B:Prop} (h:B):if false=true then A else B:=by rw[if_neg Bool.false_ne_true];exact h
theorem Hj {A B:Prop} (h:A):if true=true then A else B:=by rw[if_pos rfl];exact h
noncomputable def bp (H H':Hp):Prop:=∀b o,H b=some o->H' b=some o
theorem bp.refl (H:Hp):bp H H:=λ_ _ h=>h
theorem bp.trans {H H1 H2:Hp} (a:bp H H1) (b:bp H1 H2):bp H H2:=λc o h=>b c o (a c o h)
end L2
end
section
namespace Mx
open PySem PyProof.Rows
inductive D where
 | int (i:Int)
 | str (x:Str)
 | tup (ds:List D)
mutual
noncomputable def D.gi:D->D->Bool
 | .int i,.int j=>i==j
 | .str x,.str y=>x==y
 | .tup a,.tup b=>D.eqs a b
 | _,_=>false
noncomputable def D.eqs:List D->List D->Bool
 | [],[]=>true
 | x::xs,y::ys=>D.gi x y&&D.eqs xs ys
 | _,_=>false
end
mutual
noncomputable def D.lt:D->D->Bool
 | .int i,.int j=>decide (i < j)
 | .int _,_=>true
 | .str _,.int _=>false
 | .str x,.str y=>decide (x.cps.toList < y.cps.toList)
 | .str _,.tup _=>true
 | .tup a,.tup b=>D.ft a b
 | .tup _,_=>false
noncomputable def D.ft:List D->List D->Bool
 | [],[]=>false
 | [],_::_=>true
 | _::_,[]=>false
 | x::xs,y::ys=>if D.gi x y=true then D.ft xs ys else D.lt x y
end
mutual
theorem D.cQ:∀a b:D,D.gi a b=true↔a=b
 | .int i,.int j=>by simp[D.gi]
 | .str x,.str y=>by simp[D.gi]
 | .tup a,.tup b=>by simp only[D.gi,D.tup.injEq];exact D.sr a b
 | .int _,.str _=>by simp[D.gi]
 | .int _,.tup _=>by simp[D.gi]
 | .str _,.int _=>by simp[D.gi]
 | .str _,.tup _=>by simp[D.gi]
 | .tup _,.int _=>by simp[D.gi]
 | .tup _,.str _=>by simp[D.gi]
theorem D.sr:∀a b:List D,D.eqs a b=true↔a=b
 | [],[]=>by simp[D.eqs]
 | [],_::_=>by simp[D.eqs]
 | _::_,[]=>by simp[D.eqs]
 | x::xs,y::ys=>by simp only[D.eqs,Qf,List.cons.injEq];rw[D.cQ x y,D.sr xs ys]
end
noncomputable instance:DecidableEq D:=λa b=>if h:D.gi a b=true then isTrue ((D.cQ a b).mp h) else isFalse λe=>h ((D.cQ a b).mpr e)
theorem D.jz (a b:D):D.gi a b=decide (a=b):=by rw[Bool.eq_iff_iff,D.cQ];simp
theorem D.dh (x y:D) (xs ys:List D):D.ft (x::xs) (y::ys)=if x=y then D.ft xs ys else D.lt x y:=by
 rw[D.ft];by_cases h:x=y
 ·rw[if_pos h,if_pos ((D.cQ x y).mpr h)]
 ·rw[if_neg h,if_neg λe=>h ((D.cQ x y).mp e)]
mutual
theorem D.lt_irrefl:∀a:D,D.lt a a=false
 | .int i=>by simp[D.lt]
 | .str x=>by simp only[D.lt];exact strKind.irrefl _
 | .tup a=>by simp only[D.lt];exact D.kg a
theorem D.kg:∀a:List D,D.ft a a=false
 | []=>by simp[D.ft]
 | x::xs=>by rw[D.dh,if_pos rfl];exact D.kg xs
end
mutual
theorem D.dY:∀a b:D,D.lt a b=false->D.lt b a=false->a=b
 | .int i,.int j,h1,h2=>by simp only[D.lt,decide_eq_false_iff_not] at h1 h2;congr 1;lia
 | .str x,.str y,h1,h2=>by simp only[D.lt] at h1 h2;have:=strKind.total _ _ h1 h2;congr 1;cases x;cases y;simp only at this;congr 1;exact Array.toList_inj.mp this
 | .tup a,.tup b,h1,h2=>by simp only[D.lt] at h1 h2;rw[D.lO a b h1 h2]
 | .int _,.str _,h1,_=>by simp[D.lt] at h1
 | .int _,.tup _,h1,_=>by simp[D.lt] at h1
 | .str _,.int _,_,h2=>by simp[D.lt] at h2
 | .str _,.tup _,h1,_=>by simp[D.lt] at h1
 | .tup _,.int _,_,h2=>by simp[D.lt] at h2
 | .tup _,.str _,_,h2=>by simp[D.lt] at h2
theorem D.lO:∀a b:List D,D.ft a b=false->D.ft b a=false->a=b
 | [],[],_,_=>rfl
 | [],_::_,h1,_=>by simp[D.ft] at h1
 | _::_,[],_,h2=>by simp[D.ft] at h2
 | x::xs,y::ys,h1,h2=>by
  rw[D.dh] at h1 h2;by_cases h:x=y
  ·subst h;rw[if_pos rfl] at h1 h2;rw[D.lO xs ys h1 h2]
  ·rw[if_neg h] at h1;rw[if_neg (Ne.symm h)] at h2;exact absurd (D.dY x y h1 h2) h
end
mutual
theorem D.lt_trans:∀a b c:D,D.lt a b=true->D.lt b c=true->D.lt a c=true
 | .int i,.int j,.int k,h1,h2=>by simp only[D.lt,decide_eq_true_eq] at *;lia
 | .int _,_,.str _,_,_=>by simp[D.lt]
 | .int _,_,.tup _,_,_=>by simp[D.lt]
 | .int _,.str _,.int _,_,h2=>by simp[D.lt] at h2
 | .int _,.tup _,.int _,_,h2=>by simp[D.lt] at h2
 | .str _,.int _,_,h1,_=>by simp[D.lt] at h1
 | .str x,.str y,.str z,h1,h2=>by simp only[D.lt] at *;exact strKind.trans _ _ _ h1 h2
 | .str _,.str _,.int _,_,h2=>by simp[D.lt] at h2
 | .str _,_,.tup _,_,_=>by simp[D.lt]
 | .str _,.tup _,.int _,_,h2=>by simp[D.lt] at h2
 | .str _,.tup _,.str _,_,h2=>by simp[D.lt] at h2
 | .tup _,.int _,_,h1,_=>by simp[D.lt] at h1
 | .tup _,.str _,_,h1,_=>by simp[D.lt] at h1
 | .tup _,.tup _,.int _,_,h2=>by simp[D.lt] at h2
 | .tup _,.tup _,.str _,_,h2=>by simp[D.lt] at h2
 | .tup a,.tup b,.tup c,h1,h2=>by simp only[D.lt] at *;exact D.lP a b c h1 h2
theorem D.lP:∀a b c:List D,D.ft a b=true->D.ft b c=true->D.ft a c=true
 | [],[],_,h1,_=>by simp[D.ft] at h1
 | [],_::_,[],_,h2=>by simp[D.ft] at h2
 | [],_::_,_::_,_,_=>by simp[D.ft]
 | _::_,[],_,h1,_=>by simp[D.ft] at h1
 | _::_,_::_,[],_,h2=>by simp[D.ft] at h2
 | x::xs,y::ys,z::zs,h1,h2=>by
  rw[D.dh] at h1 h2 ⊢;by_cases h:x=y
  ·subst h;rw[if_pos rfl] at h1;by_cases h':x=z
   ·rw[if_pos h'] at h2 ⊢;exact D.lP xs ys zs h1 h2
   ·rw[if_neg h'] at h2 ⊢;exact h2
  ·rw[if_neg h] at h1;by_cases h':y=z
   ·subst h';rw[if_neg h];exact h1
   ·rw[if_neg h'] at h2;have h3:=D.lt_trans x y z h1 h2;by_cases h'':x=z
    ·subst h'';rw[D.lt_irrefl] at h3;cases h3
    ·rw[if_neg h''];exact h3
end
@[reducible] noncomputable def Gq:KeyOrd where
 α:=D
 blt:=D.lt
 irrefl:=D.lt_irrefl
 trans:=D.lt_trans
 negTrans:=λa b c h=>by
  cases h1:D.lt a b with
  | true=>exact .inl rfl
  | false=>
   right;cases h2:D.lt b a with
   | true=>exact D.lt_trans b a c h2 h
   | false=>rw[D.dY a b h1 h2] at h;exact h
 total:=D.dY
end Mx
end
section
namespace MxSort
open PySem PySem.W PyProof.Rows
section
variable {O:KeyOrd} {key:Nat->O.α}
noncomputable def qK (key:Nat->O.α) (p:Array Nat) (i:Nat):O.α:=key (p.getD i 0)
noncomputable def Up (key:Nat->O.α) (p:Array Nat) (n:Nat):Prop:=∀i j,i<=j->j < n->O.kle (qK key p i) (qK key p j)
noncomputable def Dn (key:Nat->O.α) (p:Array Nat) (n:Nat):Prop:=∀i j,i<=j->j < n->O.kle (qK key p j) (qK key p i)
theorem sF {p q:Array Nat} {i j:Nat} (h:p[i]?=q[j]?):p.getD i 0=q.getD j 0:=by
 have e1:∀(p:Array Nat) (i:Nat),p.getD i 0=(p[i]?).getD 0:=λp i=>by simp[Array.getD_eq_getD_getElem?]
 rw[e1,e1,h]
theorem sV {p:Array Nat} {i j:Nat} (hj:j<=p.size) (k:Nat):qK key (kas_rev p i j) k=if i<=k/\k < j then qK key p (i + j - 1 - k) else qK key p k:=by
 have e:=getElem?_mirror_all (i:=i) hj k;unfold kas_rev qK;by_cases h1:i<=k/\k < j
 ·rw[if_pos h1] at e ⊢;exact congrArg key (sF e)
 ·rw[if_neg h1] at e ⊢;exact congrArg key (sF e)
noncomputable def Ord (N:Nat) (p:Array Nat):Prop:=p.toList.Perm (List.range N)
theorem Ord.size {N:Nat} {p:Array Nat} (h:Ord N p):p.size=N:=by have:=h.length_eq;rw[List.length_range] at this;rw[<-this];simp
variable {cmp:Nat->Nat->(Bool->Shared->Prop)->Shared->Prop} {s:Shared} {N:Nat}
noncomputable def Tells (O:KeyOrd) (key:Nat->O.α) (cmp:Nat->Nat->(Bool->Shared->Prop)->Shared->Prop) (N:Nat) (s:Shared):Prop:=
 ∀i j,i < N->j < N->∀C:Bool->Shared->Prop,C (O.blt (key i) (key j)) s->cmp i j C s
theorem Up.succ {p:Array Nat} {n:Nat} (h:Up key p n) (h1:1<=n) (h2:O.kle (qK key p (n - 1)) (qK key p n)):Up key p (n + 1):=λi j fR hj=>by
 by_cases e:j=n
 ·subst e;by_cases e2:i=j
  ·subst e2;exact KeyOrd.kle_refl _
  ·exact QH (h i (j - 1) (by lia) (by lia)) h2
 ·exact h i j fR (by lia)
theorem Dn.succ {p:Array Nat} {n:Nat} (h:Dn key p n) (h1:1<=n) (h2:O.kle (qK key p n) (qK key p (n - 1))):Dn key p (n + 1):=λi j fR hj=>by
 by_cases e:j=n
 ·subst e;by_cases e2:i=j
  ·subst e2;exact KeyOrd.kle_refl _
  ·exact QH h2 (h i (j - 1) (by lia) (by lia))
 ·exact h i j fR (by lia)
theorem Dn.of {p q:Array Nat} {n:Nat} (e:∀k,qK key q k=qK key p k) (h:Dn key p n):Dn key q n:=λi j a b=>by rw[e,e];exact h i j a b
theorem yZ {p:Array Nat} {n:Nat} (hn:n<=p.size) (h:Dn key p n):Up key (kas_rev p 0 n) n:=λi j fR hj=>by rw[sV hn,sV hn,if_pos (by lia),if_pos (by lia)];exact h _ _ (by lia) (by lia)
end
end MxSort
end
section
namespace Mx
open PySem PySem.Spec PyProof.Rows L2 PySem.SeqAt
mutual
noncomputable def D.dep:D->Nat
 | .int _=>0
 | .str _=>0
 | .tup ds=>D.cL ds + 1
noncomputable def D.cL:List D->Nat
 | []=>0
 | d::ds=>max (D.dep d) (D.cL ds)
end
mutual
noncomputable def DV (H:Hp):V->D->Prop
 | x,.int i=>x= .int i
 | x,.str z=>x= .str z
 | x,.tup ds=>∃a xs,x= .ref a/\H a=some (.tup xs)/\aY H xs ds
noncomputable def aY (H:Hp):List V->List D->Prop
 | [],[]=>True
 | x::xs,d::ds=>DV H x d/\aY H xs ds
 | [],_::_=>False
 | _::_,[]=>False
end
theorem aY.nil {H:Hp}:aY H [] []:=by unfold aY;trivial
theorem aY.cons {H:Hp} {x:V} {xs:List V} {d:D} {ds:List D} (h:DV H x d) (t:aY H xs ds):aY H (x::xs) (d::ds):=by unfold aY;exact⟨h,t⟩
theorem DV.int {H:Hp} {i:Int}:DV H (.int i) (.int i):=by unfold DV;rfl
theorem DV.str {H:Hp} {x:Str}:DV H (.str x) (.str x):=by unfold DV;rfl
theorem DV.tup {H:Hp} {a:Addr} {xs:List V} {ds:List D} (h:H a=some (.tup xs)) (t:aY H xs ds):DV H (.ref a) (.tup ds):=by unfold DV;exact⟨a,xs,rfl,h,t⟩
theorem DV.af {H:Hp} {x:V} {ds:List D} (h:DV H x (.tup ds)):∃a xs,x= .ref a/\H a=some (.tup xs)/\aY H xs ds:=by unfold DV at h;exact h
theorem DV.int_inv {H:Hp} {x:V} {i:Int} (h:DV H x (.int i)):x= .int i:=by unfold DV at h;exact h
theorem DV.str_inv {H:Hp} {x:V} {i:Str} (h:DV H x (.str i)):x= .str i:=by unfold DV at h;exact h
theorem aY.cons_inv {H:Hp} {xs:List V} {d:D} {ds:List D} (h:aY H xs (d::ds)):∃x r,xs=x::r/\DV H x d/\aY H r ds:=by
 cases xs with
 | nil=>unfold aY at h;exact h.elim
 | cons x r=>unfold aY at h;exact⟨x,r,rfl,h⟩
theorem aY.length {H:Hp}:∀{xs:List V} {ds:List D},aY H xs ds->xs.length=ds.length
 | [],[],_=>rfl
 | [],_::_,h=>by unfold aY at h;exact h.elim
 | _::_,[],h=>by unfold aY at h;exact h.elim
 | _::xs,_::ds,h=>by unfold aY at h;simp[aY.length h.2]
theorem aY.get {H:Hp}:∀{xs:List V} {ds:List D} {i:Nat} {x:V},aY H xs ds->xs[i]?=some x->∃d,ds[i]?=some d/\DV H x d
 | [],_,_,_,_,e=>by simp at e
 | _::_,[],_,_,h,_=>by unfold aY at h;exact h.elim
 | _::_,_::_,0,_,h,e=>by unfold aY at h;simp at e;subst e;exact⟨_,rfl,h.1⟩
 | _::xs,_::ds,i + 1,x,h,e=>by unfold aY at h;obtain⟨d,e1,e2⟩:=aY.get (i:=i) h.2 (by simpa using e);exact⟨d,by simpa using e1,e2⟩
theorem aY.append {H:Hp}:∀{xs ys:List V} {ds es:List D},aY H xs ds->aY H ys es->aY H (xs++ys) (ds++es)
 | [],_,[],_,_,h=>h
 | [],_,_::_,_,h,_=>by unfold aY at h;exact h.elim
 | _::_,_,[],_,h,_=>by unfold aY at h;exact h.elim
 | _::xs,ys,_::ds,es,h,h'=>by unfold aY at h;exact aY.cons h.1 (aY.append h.2 h')
noncomputable def zL (H H':Hp):Prop:=∀a xs,H a=some (.tup xs)->H' a=some (.tup xs)
mutual
theorem DV.mono {H H':Hp} (t:zL H H'):∀{x:V} {d:D},DV H x d->DV H' x d
 | x,.int i,h=>by unfold DV at h ⊢;exact h
 | x,.str z,h=>by unfold DV at h ⊢;exact h
 | x,.tup ds,h=>by obtain⟨a,xs,e,e1,e2⟩:=h.af;subst e;exact DV.tup (t a xs e1) (aY.mono t e2)
theorem aY.mono {H H':Hp} (t:zL H H'):∀{xs:List V} {ds:List D},aY H xs ds->aY H' xs ds
 | [],[],_=>aY.nil
 | [],_::_,h=>by unfold aY at h;exact h.elim
 | _::_,[],h=>by unfold aY at h;exact h.elim
 | _::xs,_::ds,h=>by unfold aY at h;exact aY.cons (DV.mono t h.1) (aY.mono t h.2)
end
mutual
theorem DV.inj {H:Hp}:∀{x:V} {d e:D},DV H x d->DV H x e->d=e
 | x,.int i,e,h1,h2=>by
  have:=h1.int_inv;subst this;cases e with
  | int j=>have:=h2.int_inv;injection this with q;rw[q]
  | str j=>have:=h2.str_inv;cases this
  | tup j=>obtain⟨_,_,q,_⟩:=h2.af;cases q
 | x,.str i,e,h1,h2=>by
  have:=h1.str_inv;subst this;cases e with
  | int j=>have:=h2.int_inv;cases this
  | str j=>have:=h2.str_inv;injection this with q;rw[q]
  | tup j=>obtain⟨_,_,q,_⟩:=h2.af;cases q
 | x,.tup ds,e,h1,h2=>by
  obtain⟨a,xs,q,e1,e2⟩:=h1.af;subst q;cases e with
  | int j=>have:=h2.int_inv;cases this
  | str j=>have:=h2.str_inv;cases this
  | tup j=>obtain⟨b,ys,q,f1,f2⟩:=h2.af;cases q;rw[e1] at f1;cases f1;rw[aY.inj e2 f2]
theorem aY.inj {H:Hp}:∀{xs:List V} {ds es:List D},aY H xs ds->aY H xs es->ds=es
 | [],[],[],_,_=>rfl
 | [],[],_::_,_,h=>by unfold aY at h;exact h.elim
 | [],_::_,_,h,_=>by unfold aY at h;exact h.elim
 | _::_,[],_,h,_=>by unfold aY at h;exact h.elim
 | _::_,_::_,[],_,h=>by unfold aY at h;exact h.elim
 | _::xs,_::ds,_::es,h1,h2=>by unfold aY at h1 h2;rw[DV.inj h1.1 h2.1,aY.inj h1.2 h2.2]
end
noncomputable def Jq (ds es:List D) (j:Nat):Bool:=match ds[j]?,es[j]? with
 | some d,some e=>D.gi d e
 | _,_=>true
theorem rO:∀ds es:List D,((List.range (min ds.length es.length)).all (Jq ds es)&&ds.length==es.length)=D.eqs ds es
 | [],[]=>by simp[D.eqs]
 | [],_::_=>by simp[D.eqs]
 | _::_,[]=>by simp[D.eqs]
 | d::ds,e::es=>by
  have ih:=rO ds es;have hm:min (d::ds).length (e::es).length=min ds.length es.length + 1:=by simp only[Qy];lia
  have e1:((d::ds).length==(e::es).length)=(ds.length==es.length):=by rw[Bool.eq_iff_iff];simp
  rw[hm,List.range_succ_eq_map,List.all_cons,List.all_map,e1,D.eqs,<-ih,Bool.and_assoc];rfl
theorem ml {d:D}:∀{ds:List D} {j:Nat},ds[j]?=some d->D.dep d<=D.cL ds
 | [],_,h=>by simp at h
 | d'::ds,0,h=>by simp at h;subst h;unfold D.cL;lia
 | d'::ds,j + 1,h=>by have:=ml (ds:=ds) (j:=j) (by simpa using h);unfold D.cL;lia
section
variable {P:Program} {w:World} {H:Hp} {s:Shared}
theorem au (hok:d9 P w H s.heap) {a:Addr} {xs:List V} (h:H a=some (.tup xs)):∃its:List Value,aw xs its/\s.heap.IsTuple a its.toArray:=by obtain⟨_,its,r,t⟩:=hok a _ h;exact⟨its,r,t.is⟩
theorem eq_data (hok:d9 P w H s.heap):∀(n:Nat) (d e:D) (x y:V) (u v:Value) (A:Around),D.dep d<=n->A.units + n < cLine->DV H x d->DV H y e->RelV x u->RelV y v->EqAt A s u v (D.gi d e):=by
 intro n
 induction n with
 | zero=>
  intro d e x y u v A hd hu hx hy rx ry;cases d with
  | int i=>
   have:=hx.int_inv;subst this;obtain⟨t,rfl⟩:=rx;cases e with
   | int j=>have:=hy.int_inv;subst this;obtain⟨t',rfl⟩:=ry;exact EqAt.int_int i t j t'
   | str j=>have:=hy.str_inv;subst this;obtain⟨t',rfl⟩:=ry;exact EqAt.int_str i t j t'
   | tup j=>obtain⟨b,ys,q,f1,f2⟩:=hy.af;subst q;cases ry;obtain⟨its,_,ht⟩:=au hok f1;exact EqAt.int_tuple i t ht (by lia)
  | str i=>
   have:=hx.str_inv;subst this;obtain⟨t,rfl⟩:=rx;cases e with
   | int j=>have:=hy.int_inv;subst this;obtain⟨t',rfl⟩:=ry;exact EqAt.str_int i t j t'
   | str j=>have:=hy.str_inv;subst this;obtain⟨t',rfl⟩:=ry;exact EqAt.str_str i t j t'
   | tup j=>obtain⟨b,ys,q,f1,f2⟩:=hy.af;subst q;cases ry;obtain⟨its,_,ht⟩:=au hok f1;exact EqAt.str_tuple i t ht (by lia)
  | tup ds=>unfold D.dep at hd;lia
 | succ n ih=>
  intro d e x y u v A hd hu hx hy rx ry;cases d with
  | int i=>exact ih (.int i) e x y u v A (by unfold D.dep;lia) (by lia) hx hy rx ry
  | str i=>exact ih (.str i) e x y u v A (by unfold D.dep;lia) (by lia) hx hy rx ry
  | tup ds=>
   obtain⟨a,xs,q,e1,e2⟩:=hx.af;subst q;cases rx;obtain⟨its,r1,ht⟩:=au hok e1;cases e with
   | int j=>have:=hy.int_inv;subst this;obtain⟨t',rfl⟩:=ry;exact EqAt.tuple_int j t' ht (by lia)
   | str j=>have:=hy.str_inv;subst this;obtain⟨t',rfl⟩:=ry;exact EqAt.tuple_str j t' ht (by lia)
   | tup es=>
    obtain⟨b,ys,q,f1,f2⟩:=hy.af;subst q;cases ry;obtain⟨aI,r2,b8⟩:=au hok f1;by_cases eS:a=b
    ·subst eS;rw[e1] at f1;cases f1;have:=aY.inj e2 f2;subst this;have q:D.gi (.tup ds) (.tup ds)=true:=(D.cQ _ _).mpr rfl;rw[q];exact EqAt.same _
    ·have l1:its.toArray.size=ds.length:=by rw[Qg,<-r1.length,e2.length]
     have l2:aI.toArray.size=es.length:=by rw[Qg,<-r2.length,f2.length]
     have key:=RcAt.tuples (A:=A) (e:=Jq ds es) ht b8 (by lia) (λj h1 h2=>?_)
     ·have q:=rO ds es;rw[<-l1,<-l2] at q;rw[q] at key;exact EqAt.of_refs eS key
     ·have kX:j < xs.length:=by rw[e2.length,<-l1];exact h1
      have jB:j < ys.length:=by rw[f2.length,<-l2];exact h2
      obtain⟨d,g1,g2⟩:=e2.get (i:=j) (x:=xs[j]) (by simp[kX]);obtain⟨e,k1,k2⟩:=f2.get (i:=j) (x:=ys[j]) (by simp[jB]);obtain⟨u,AB,ru⟩:=r1.get (i:=j) (x:=xs[j]) (by simp[kX]);obtain⟨v,Dv,rv⟩:=r2.get (i:=j) (x:=ys[j]) (by simp[jB]);have eu:its.toArray[j]=u:=by have:its[j]?=some u:=AB;simp only[List.getElem_toArray];have q:=Qi.mp this;exact q.2
      have ev:aI.toArray[j]=v:=by have:aI[j]?=some v:=Dv;simp only[List.getElem_toArray];have q:=Qi.mp this;exact q.2
      rw[eu,ev];have ee:Jq ds es j=D.gi d e:=by unfold Jq;rw[g1,k1]
      rw[ee];refine ih d e xs[j] ys[j] u v A.in1 ?_ (by show A.units + 1 + n < cLine;lia) g2 k2 ru rv;have:=ml g1;unfold D.dep at hd
      lia
end
mutual
noncomputable def D.ff:D->D->Prop
 | .int _,.int _=>True
 | .str _,.str _=>True
 | .tup a,.tup b=>D.gk a b
 | _,_=>False
noncomputable def D.gk:List D->List D->Prop
 | x::xs,y::ys=>D.ff x y/\D.gk xs ys
 | _,_=>True
end
noncomputable def Cv (A:Around) (s:Shared) (u v:Value) (b:Bool):Prop:=
 ∀(prog:Program) (w:World) (E:Value->Shared->Prop) (Q:Value->Shared->Prop),Q (.bool b) s->wpAny (model prog w) A (richCompare .Lt u v) Q E s
inductive Zp (A:Around) (s:Shared):List Value->List Value->List D->List D->Prop
 | nil {ws:List Value} {es:List D}:ws.length=es.length->Zp A s [] ws [] es
 | AZ {vs:List Value} {ds:List D}:vs.length=ds.length->Zp A s vs [] ds []
 | cons {v w:Value} {d e:D} {vs ws:List Value} {ds es:List D}:EqAt A s v w (D.gi d e)->(d≠e->Cv A s v w (D.lt d e))->Zp A s vs ws ds es->Zp A s (v::vs) (w::ws) (d::ds) (e::es)
section
open PySem.AutoSeq1 (wpAny_loadPart')
open PySem.MeetsSeq PySem.MeetsSeq2 PySem.MeetsSeq3
theorem lp (l b:Addr) (items fD:Array Value) (n n2:Nat) (dd zm:Option Addr) (sl vF:Array (Option Value)) (ds es:List D) (z1:items.size=ds.length) (z2:fD.size=es.length):
  Meets (Builtin.«tuple.__lt__» ⟨[.ref l,.ref b],[]⟩)
   (λA R s=>s.heap.get? l=some {cls:= .type "tuple",dict:=dd,data:= .seq items n,slots:=sl}/\s.heap.get? b=some {cls:= .type "tuple",dict:=zm,data:= .seq fD n2,slots:=vF}/\
    Zp A.in1 s items.toList fD.toList ds es/\R (.ok (.ret (.bool (D.ft ds es)))) s):=
 .of_wp λprog w A R s h=>by
  obtain⟨hp,g,d,tk,os⟩:=s;obtain⟨hl,hb,Pa,h⟩:=h;have f2:=AutoSeq1.sub_tuple_tuple
  wp_walk using wpAny_loadPart' hl,wpAny_loadPart' hb,wpAny_forIn_list _ (λrest b s'=>b.1=none/\s'=⟨hp,g,d,tk,os⟩/\∃(vs ws:List Value) (vy gj:List D),rest=vs.zip ws/\
   Zp A.in1 ⟨hp,g,d,tk,os⟩ vs ws vy gj/\vy.length + fD.size=gj.length + items.size/\R (.ok (.ret (.bool (D.ft vy gj)))) ⟨hp,g,d,tk,os⟩) _
  case turn=>
   rintro⟨y,x⟩ rest b s' ⟨nF,rfl,vs,ws,vy,gj,hz,Li,hlen,hR⟩;cases Li with
   | nil _=>rw[List.zip_nil_left] at hz;cases hz
   | AZ _=>rw[List.zip_nil_right] at hz;cases hz
   | cons he hl He=>
    rename_i v wv d0 e0 vH ws' ds'' es'';rw[List.zip_cons_cons] at hz;injection hz with hyx Ha;injection hyx with hy hx;subst hy hx;rw[D.dh] at hR;simp only[Qy] at hlen;refine Qb (he prog w _ _ ?_);by_cases hde:d0=e0
    ·rw[if_pos hde] at hR;rw[(D.cQ d0 e0).mpr hde]
     wp_walk
     exact⟨rfl,rfl,_,_,_,_,Ha,He,by lia,hR⟩
    ·rw[if_neg hde] at hR;have NM:D.gi d0 e0=false:=by rw[D.jz];exact QF hde
     rw[NM];have OW:=hl hde prog w
     wp_walk using OW
     exact⟨_,rfl,by simpa using hR⟩
  case fin=>
   rintro⟨b1,b2⟩ s' ⟨nF,rfl,vs,ws,vy,gj,hz,Li,hlen,hR⟩;simp only at nF;subst nF;have hv:D.ft vy gj=decide (items.size < fD.size):=by
    cases Li with
    | nil _=>
     cases gj with
     | nil=>simp only[List.length_nil] at hlen;rw[D.ft];exact(QF (by lia)).symm
     | cons c u=>simp only[List.length_nil,Qy] at hlen;rw[D.ft];exact(QJ (by lia)).symm
    | AZ _=>
     cases vy with
     | nil=>simp only[List.length_nil] at hlen;rw[D.ft];exact(QF (by lia)).symm
     | cons c u=>simp only[List.length_nil,Qy] at hlen;rw[D.ft];exact(QF (by lia)).symm
    | cons he hl He=>rw[List.zip_cons_cons] at hz;cases hz
   rw[hv] at hR
   wp_walk
   exact⟨_,rfl,by simpa [Builtin.Tuple.tupleCompareSizes] using hR⟩
  case h=>exact⟨rfl,rfl,items.toList,fD.toList,ds,es,rfl,Pa,by lia,h⟩
end
section
variable {P:Program} {w:World} {H:Hp} {s:Shared}
theorem zk (hok:d9 P w H s.heap) {A:Around} {n:Nat} (hu:A.units + n < cLine) (ih:∀(d e:D) (x y:V) (u v:Value),D.dep d<=n->D.ff d e->DV H x d->DV H y e->RelV x u->RelV y v->Cv A s u v (D.lt d e)):
  ∀{xs ys:List V} {us vs:List Value} {ds es:List D},D.cL ds<=n->D.gk ds es->aY H xs ds->aY H ys es->aw xs us->aw ys vs->Zp A s us vs ds es
 | [],ys,us,vs,[],es,_,_,_,h2,r1,r2=>by cases r1;exact .nil (by rw[<-r2.length,h2.length])
 | x::xs,[],us,vs,ds,[],_,_,h1,_,r1,r2=>by cases r2;exact .AZ (by rw[<-r1.length,h1.length])
 | [],_,_,_,_::_,_,_,_,h,_,_,_=>by unfold aY at h;exact h.elim
 | _::_,_,_,_,[],_,_,_,h,_,_,_=>by unfold aY at h;exact h.elim
 | _::_,[],_,_,_::_,_::_,_,_,_,h,_,_=>by unfold aY at h;exact h.elim
 | _::_,_::_,_,_,_::_,[],_,_,_,h,_,_=>by unfold aY at h;exact h.elim
 | x::xs,y::ys,us,vs,d::ds,e::es,hd,hl,h1,h2,r1,r2=>by
  unfold aY at h1 h2;unfold D.gk at hl;unfold D.cL at hd;cases r1 with
  | cons r1 t1=>
   cases r2 with
   | cons r2 t2=>exact .cons (eq_data hok n d e x y _ _ A (by lia) hu h1.1 h2.1 r1 r2) (λ_=>ih d e x y _ _ (by lia) hl.1 h1.1 h2.1 r1 r2) (zk hok hu ih (by lia) hl.2 h1.2 h2.2 t1 t2)
theorem AO (hok:d9 P w H s.heap):∀(n:Nat) (d e:D) (x y:V) (u v:Value) (A:Around),D.dep d<=n->A.units + n < cLine->D.ff d e->DV H x d->DV H y e->RelV x u->RelV y v->Cv A s u v (D.lt d e):=by
 intro n
 induction n with
 | zero=>
  intro d e x y u v A hd hu hl hx hy rx ry;cases d with
  | int i=>
   have:=hx.int_inv;subst this;obtain⟨t,rfl⟩:=rx;cases e with
   | int j=>have:=hy.int_inv;subst this;obtain⟨t',rfl⟩:=ry;intro prog wd E Q q;exact(PyProof.Rows.lt_int q:wpAny (model prog wd) A (compareOp .Lt (.int i t) (.int j t')) Q E s)
   | str j=>unfold D.ff at hl;exact hl.elim
   | tup j=>unfold D.ff at hl;exact hl.elim
  | str i=>
   have:=hx.str_inv;subst this;obtain⟨t,rfl⟩:=rx;cases e with
   | int j=>unfold D.ff at hl;exact hl.elim
   | str j=>have:=hy.str_inv;subst this;obtain⟨t',rfl⟩:=ry;intro prog wd E Q q;exact(PySem.P.lt_str q:wpAny (model prog wd) A (compareOp .Lt (.str i t) (.str j t')) Q E s)
   | tup j=>unfold D.ff at hl;exact hl.elim
  | tup ds=>unfold D.dep at hd;lia
 | succ n ih=>
  intro d e x y u v A hd hu hl hx hy rx ry;cases d with
  | int i=>exact ih (.int i) e x y u v A (by unfold D.dep;lia) (by lia) hl hx hy rx ry
  | str i=>exact ih (.str i) e x y u v A (by unfold D.dep;lia) (by lia) hl hx hy rx ry
  | tup ds=>
   obtain⟨a,xs,q,e1,e2⟩:=hx.af;subst q;cases rx;cases e with
   | int j=>unfold D.ff at hl;exact hl.elim
   | str j=>unfold D.ff at hl;exact hl.elim
   | tup es=>
    obtain⟨b,ys,q,f1,f2⟩:=hy.af;subst q;cases ry;obtain⟨its,r1,ht⟩:=au hok e1;obtain⟨aI,r2,b8⟩:=au hok f1;have l1:its.toArray.size=ds.length:=by rw[Qg,<-r1.length,e2.length]
    have l2:aI.toArray.size=es.length:=by rw[Qg,<-r2.length,f2.length]
    have oM:D.cL ds<=n:=by unfold D.dep at hd;lia
    have Dh:D.gk ds es:=by unfold D.ff at hl;exact hl
    have zz:Zp A.in1 s its aI ds es:=zk hok (n:=n) (by show A.units + 1 + n < cLine;lia) (λd e x y u v hd2 fB AC Hd rx2 ry2=>ih d e x y u v A.in1 hd2 (by show A.units + 1 + n < cLine;lia) fB AC Hd rx2 ry2) oM Dh e2 f2 r1 r2;intro prog wd E Q q;obtain⟨⟨cls,dd,data,sl⟩,ho,hc,k,Au⟩:=id ht;obtain⟨⟨Gn,zm,data2,vF⟩,sJ,oH,k2,qC⟩:=id b8;simp only at hc Au oH qC;subst hc Au oH qC;have q':Q (.bool (D.ft ds es)) s:=by have z:=q;unfold D.lt at z;exact z
    exact richCompare_meets_room (op:= .Lt) ⟨_,ho,rfl⟩ ⟨_,sJ,rfl⟩ PySem.F.slot_tuple_lt PySem.F.entry_tuple_lt (PySem.F.args_tuple_lt_2 _ _) (lp a b its.toArray aI.toArray k k2 dd zm sl vF ds es l1 l2)
     ⟨ho,sJ,zz,show Value.bool (D.ft ds es)≠Value.notImplemented/\Q (.bool (D.ft ds es)) s from⟨(λx=>nomatch x),q'⟩⟩ (by lia)
end
end Mx
end
section
namespace Mx
open PySem PySem.W PySem.Spec PyProof.Rows L2 PySem.SeqAt MxSort
section
variable {P:Program} {w:World} {H:Hp} {prog:Program} {s:Shared} {A:Around}
theorem AL {b:Bool} {n m:Nat} {Q:Bool->Shared->Prop} {us vs:List Value} {ds es:List D} (z:Zp A s us vs ds es):∀(i:Nat),1<=i->ds.length + m=es.length + n->Q (D.ft ds es) s->KatLex prog w A b (decide (n < m)) Q (us.zip vs) i s:=by
 induction z with
 | nil hl=>
  intro i hi hlen q;rw[List.zip_nil_left];refine kat_nil ?_;rename_i ws es;cases es with
  | nil=>simp only[List.length_nil] at hlen;rw[D.ft] at q;rw[QF (by lia)];exact q
  | cons c u=>simp only[List.length_nil,Qy] at hlen;rw[D.ft] at q;rw[QJ (by lia)];exact q
 | AZ hl=>
  intro i hi hlen q;rw[List.zip_nil_right];refine kat_nil ?_;rename_i vs ds;cases ds with
  | nil=>simp only[List.length_nil] at hlen;rw[D.ft] at q;rw[QF (by lia)];exact q
  | cons c u=>simp only[List.length_nil,Qy] at hlen;rw[D.ft] at q;rw[QF (by lia)];exact q
 | cons he hl z' ih=>
  intro i hi hlen q;rename_i v wv d e vH ws' vy gj;rw[List.zip_cons_cons];simp only[Qy] at hlen;rw[D.dh] at q;refine kat_cons (he prog w _ _ ?_);by_cases hde:d=e
  ·rw[(D.cQ d e).mpr hde];rw[if_pos hde] at q;exact kat_yes (ih (i + 1) (by lia) (by lia) q)
  ·rw[show D.gi d e=false by rw[D.jz];exact QF hde];rw[if_neg hde] at q;refine kat_no ?_;rw[show (b&&i==0)=false by rw[show (i==0)=false by simp;lia];simp];exact kat_one v wv (hl hde prog w _ _ q)
end
noncomputable def jR (ds es:List D):Prop:=es.Perm ds/\es.Pairwise λa b=>D.lt b a=false
theorem aY.map {H:Hp} {xs:List V} {ds:List D} (h:aY H xs ds):∀{p:List Nat},(∀i∈p,i < xs.length)->aY H (p.map λi=>xs.getD i .bb) (p.map λi=>ds.getD i (.int 0))
 | [],_=>aY.nil
 | i::p,hp=>by have hi:=hp i Qm;obtain⟨d,e1,e2⟩:=h.get (i:=i) (x:=xs[i]) (by simp[hi]);refine aY.cons ?_ (aY.map h λj hj=>hp j (Qj _ hj));dsimp only;rw[show xs.getD i .bb=xs[i] by simp[hi],show ds.getD i (.int 0)=d by simp[e1]];exact e2
theorem pO {xs:List V} {us:List Value} (h:aw xs us):∀{p:List Nat},(∀i∈p,i < xs.length)->aw (p.map λi=>xs.getD i .bb) (p.map λi=>us.getD i .none)
 | [],_=> .nil
 | i::p,hp=>by have hi:=hp i Qm;obtain⟨u,e1,e2⟩:=h.get (i:=i) (x:=xs[i]) (by simp[hi]);refine .cons ?_ (pO h λj hj=>hp j (Qj _ hj));dsimp only;rw[show xs.getD i .bb=xs[i] by simp[hi],show us.getD i .none=u by simp[e1]];exact e2
theorem kh {α:Type} (l:List α) (d:α):(List.range l.length).map (λi=>l.getD i d)=l:=by
 refine List.ext_getElem (by simp) λi h1 h2=>?_
 simp at h1;simp[h1]
end Mx
end
section
namespace L2
open PySem PySem.Spec PyProof.Rows
noncomputable def me (env:Env):List (Str×NameKind)->List (Str×Addr)->List (Str×Addr)
 | [],cs=>cs
 | (n,k)::r,cs=>me env r (if k== .free then(n,(env.cells.lookup n).getD 0)::cs else cs)
noncomputable def eZ (scope:Scope) (env:Env):List (Str×Addr):=me env scope.names []
theorem j6 {env:Env}:∀(l:List (Str×NameKind)) (cs:List (Str×Addr)),(∀y∈l,y.2= .free->∃c,env.cells.lookup y.1=some c)->
  (forIn l cs (λx r=>do
   if x.2==NameKind.free then do let a<-cellOf env x.1;pure (ForInStep.yield ((x.1,a)::r)) else pure (ForInStep.yield r)):Sem (List (Str×Addr)))=pure (me env l cs)
 | [],cs,_=>rfl
 | (n,k)::r,cs,h=>by
  rw[List.forIn_cons];have ih:=λcs=>j6 r cs λy hy=>h y (Qj _ hy)
  cases hk:(k==NameKind.free) with
  | false=>simp only[hk,Bool.false_eq_true,if_false,me,pure_bind];exact ih cs
  | true=>
   obtain⟨c,hc⟩:=h (n,k) Qm (by simpa using hk);have k9:env.cells.lookup n=some c:=hc;have e:cellOf env n=pure c:=by unfold cellOf;rw[k9]
   simp only[hk,if_true,me,e,pure_bind,k9,Option.getD_some];exact ih _
theorem gh {scope:Scope} {env:Env} (h:∀y∈scope.names,y.2= .free->∃c,env.cells.lookup y.1=some c):closureFor scope env=pure (eZ scope env):=by have q:=j6 (env:=env) scope.names [] h;unfold closureFor eZ;rw[<-q];simp only[bind_pure]
theorem ja {env:Env} {x:Str} {c:Addr}:∀(l:List (Str×NameKind)) (cs:List (Str×Addr)),(∀y∈l,y.2= .free->∃c,env.cells.lookup y.1=some c)->
  (∀c,cs.lookup x=some c->env.cells.lookup x=some c)->(me env l cs).lookup x=some c->env.cells.lookup x=some c
 | [],cs,_,h2,h=>h2 c h
 | (n,k)::r,cs,h1,h2,h=>by
  refine ja r _ (λy hy=>h1 y (Qj _ hy)) (λc' k9=>?_) h;by_cases hk:(k==NameKind.free)=true
  ·rw[if_pos hk] at k9;rw[QG] at k9;by_cases hx:(x==n)=true
   ·rw[hx] at k9;have nI:x=n:=by simpa using hx
    subst nI;obtain⟨c₁,e⟩:=h1 (x,k) Qm (by simpa using hk);have e':env.cells.lookup x=some c₁:=e;rw[e'] at k9 ⊢;simpa using k9
   ·rw[Bool.not_eq_true] at hx;rw[hx] at k9;exact h2 c' k9
  ·rw[if_neg hk] at k9;exact h2 c' k9
theorem jX {env:Env} {x:Str}:∀(l:List (Str×NameKind)) (cs:List (Str×Addr)),(((x,NameKind.free)∈l)\/∃c,cs.lookup x=some c)->∃c,(me env l cs).lookup x=some c
 | [],cs,h=>by
  rcases h with h | h
  ·cases h
  ·exact h
 | (n,k)::r,cs,h=>by
  refine jX r _ ?_;by_cases hk:(k==NameKind.free)=true
  ·rw[if_pos hk];by_cases hx:(x==n)=true
   ·exact .inr ⟨_,by rw[QG,hx]⟩
   ·rw[Bool.not_eq_true] at hx;rcases h with h | h
    ·rcases Qs.mp h with e | h
     ·injection e with e1 e2;subst e1;simp at hx
     ·exact .inl h
    ·exact .inr (by obtain⟨c,e⟩:=h;exact⟨c,by rw[QG,hx];exact e⟩)
  ·rw[if_neg hk];rcases h with h | h
   ·rcases Qs.mp h with e | h
    ·injection e with e1 e2;subst e2;exact absurd rfl hk
    ·exact .inl h
   ·exact .inr h
theorem aS {env:Env} {x:Str}:∀{names:List (Str×NameKind)} {k:NameKind},names.lookup x=some k->
  (names.map λ(n,k)=>if (k==NameKind.free&&env.scope.kind== .function&&env.kindOf n==some .cell) then(n,NameKind.cell) else(n,k)).lookup x=
   some (if (k==NameKind.free&&env.scope.kind== .function&&env.kindOf x==some .cell) then NameKind.cell else k)
 | [],_,h=>by simp at h
 | (n,k')::r,k,h=>by
  have ih:=@aS env x r k;show List.lookup x ((if (k'==NameKind.free&&env.scope.kind== .function&&env.kindOf n==some .cell)=true then(n,NameKind.cell) else(n,k'))::_)=_;cases hx:x==n with
  | true=>
   have nI:x=n:=by simpa using hx
   subst nI;simp only[QG,hx] at h;cases h;by_cases hc:(k'==NameKind.free&&env.scope.kind== .function&&env.kindOf x==some .cell)=true
   ·simp only[hc,if_true,QG,hx]
   ·rw[if_neg hc,if_neg hc];simp only[QG,hx]
  | false=>
   simp only[QG,hx] at h;by_cases hc:(k'==NameKind.free&&env.scope.kind== .function&&env.kindOf n==some .cell)=true
   ·rw[if_pos hc];simp only[QG,hx];exact ih h
   ·rw[if_neg hc];simp only[QG,hx];exact ih h
theorem bP {env:Env} {x:Str}:∀{names:List (Str×NameKind)},names.lookup x=none->
  (names.map λ(n,k)=>if (k==NameKind.free&&env.scope.kind== .function&&env.kindOf n==some .cell) then(n,NameKind.cell) else(n,k)).lookup x=none
 | [],h=>rfl
 | (n,k')::r,h=>by
  show List.lookup x ((if (k'==NameKind.free&&env.scope.kind== .function&&env.kindOf n==some .cell)=true then(n,NameKind.cell) else(n,k'))::_)=_;cases hx:x==n with
  | true=>simp only[QG,hx] at h;cases h
  | false=>
   simp only[QG,hx] at h;by_cases hc:(k'==NameKind.free&&env.scope.kind== .function&&env.kindOf n==some .cell)=true
   ·rw[if_pos hc];simp only[QG,hx];exact bP h
   ·rw[if_neg hc];simp only[QG,hx];exact bP h
noncomputable def cW (cap:List (Option Nat)) (σ:St):St:=cap.map λo=>o.bind λi=>(σ[i]?).join
noncomputable def CC (X:Cx) (ifs:List Expr) (t:TT):Prop:=
 ∀(pins:List (Addr×Obj)) (s:Shared) (σ:St) (H:Hp) (Q:Bool->Hp->Prop),Inv X pins σ H s->t σ H Q->
  wpAny (model X.prog X.w) X.A (forIn ifs true λc r=>if r=true then do let ok<-isTrue c X.env (eval c X.env);pure (ForInStep.yield ok) else pure (ForInStep.yield r)) (TP X pins σ Q) X.xe s
noncomputable def Mo:TT:=λ_ H Q=>Q true H
theorem Bm {X:Cx}:CC X [] Mo:=λ_ _ _ H _ I h=>wpAny_tests_nil ⟨H,I,h⟩
theorem Bn {X:Cx} {c:Expr} {t:TT} (h:PT X c t):CC X [c] t:=λpins s σ H Q I hw=>wpAny_tests_one (h pins s σ H Q I hw)
noncomputable def FW (J:It) (g:TG) (tt:TT) (te:TE) (σ0:St) (D:Addr) (F:Hp->Prop) (H1:Hp):Prop:=
 ∃W:Nat->Nat->List V->Hp->Prop,(∃m,W 0 m [] (upd H1 D (.lst [])))/\∀i m acc H,W i m acc H->
  (J.stop i H/\F H)\/(J.go i H/\∀x H',J.yld i H x H'->g x σ0 H' λσ2 H2=>tt σ2 H2 λb H3=>if b=true then te σ2 H3 λv H4=>∃fZ,H4 D=some (.lst fZ)/\fZ.length < sizeLine/\
   ∃m',m' < m/\W (i + 1) m' (fZ++[v]) (upd H4 D (.lst (fZ++[v]))) else∃m',m' < m/\W (i + 1) m' acc H3)
end L2
end
section
namespace Mx
open PySem PySem.W PySem.Spec PyProof.Rows L2 PySem.SeqAt
section
variable {X:Cx}
noncomputable def LX:V->Option Int->Option Int->Hp->VK->Prop:=λx lo hi H Q=>∃z,x= .str z/\z.length<=sizeLine/\Q (.str (PySem.Txt.slice z lo hi)) H
theorem EU:FA X LX:=by
 intro pins s σ H x v vl vu lo hi sl Q I rx hs pl pu h;obtain⟨z,rfl,hz,q⟩:=h;obtain⟨t,rfl⟩:=rx;refine⟨"str",_,PySem.F.slot_str_getitem.lookup,typeIs_str _ _ _,?_⟩;have fin:∀(t':Tok) (k:Nat),EP X pins σ Q (.str (PySem.Txt.slice z lo hi) t') {s with toks:=k}:=λt' k=>⟨.str _,H,I.tok k,⟨t',rfl⟩,q⟩
 have hlen:=Qr (PySem.Txt.slice_le z lo hi) hz;obtain⟨o,ho,hc,hd⟩:=hs;cases pl with
 | none=>
  cases pu with
  | none=>exact wpAny_getItem_str_slice (l:=none) (u:=none) (st:=none) ⟨o,ho,hc,hd⟩ rfl (post_val_or_str ⟨hlen,fin⟩)
  | int j tj=>exact wpAny_getItem_str_slice (l:=none) (u:=some (j,tj)) (st:=none) ⟨o,ho,hc,hd⟩ rfl (post_val_or_str ⟨hlen,fin⟩)
 | int i ti=>
  cases pu with
  | none=>exact wpAny_getItem_str_slice (l:=some (i,ti)) (u:=none) (st:=none) ⟨o,ho,hc,hd⟩ rfl (post_val_or_str ⟨hlen,fin⟩)
  | int j tj=>exact wpAny_getItem_str_slice (l:=some (i,ti)) (u:=some (j,tj)) (st:=none) ⟨o,ho,hc,hd⟩ rfl (post_val_or_str ⟨hlen,fin⟩)
noncomputable def LQ (K:PySem.W.Frag):List V->Hp->VK->Prop:=λxs H Q=>∃x T t b,xs=[x,.ty T]/\gR K H x t/\PySem.W.kitOne K t (.type T)=some b/\Q (.bl b) H
theorem wo:eQ X (.builtin "isinstance") (LQ X.K):=by intro pins s σ H xs us Q I r h;obtain⟨x,T,t,b,rfl,ty,hk,q⟩:=h;obtain⟨u,v,rfl,r1,r2⟩:=r.two;cases r2;exact uR I r1 ty hk λtk=>⟨.bl b,H,I.tok tk,rfl,q⟩
end
end Mx
end
section
namespace Mx
open PySem PySem.W PySem.Spec PyProof.Rows L2
structure vP (z TI TO i1 i2:Addr):Prop where
 TIz:TI≠z
 TOz:TO≠z
 i1z:i1≠z
 i2z:i2≠z
 TITO:TI≠TO
 TIi1:TI≠i1
 TIi2:TI≠i2
 TOi1:TO≠i1
 TOi2:TO≠i2
 i12:i1≠i2
theorem bX {H:Hp} {p:Addr} (h:H p=none) (o:HO):bp H (upd H p o):=λb u q=>by rw[aG (aW q h)];exact q
theorem lS {H H':Hp} (h:bp H H'):zL H H':=λa xs q=>h a _ q
theorem yD {H1 H:Hp} {D:Addr} {o:HO} (h:bp H1 H) (hD:H1 D=none):bp H1 (upd H D o):=λb u q=>by rw[aG (aW q hD)];exact h b u q
theorem kS {H:Hp} {D:Addr} {xs ys:List V} (hD:H D=some (.lst xs)):zL H (upd H D (.lst ys)):=λb zs q=>by
 by_cases e:b=D
 ·subst e;rw[hD] at q;cases q
 ·rw[aG e];exact q
theorem FD {α:Type} {x y:α} {r:List α}:jU (x::y::r) 1=some y:=fH (j:=1) rfl
theorem at2 {α:Type} {x y z:α} {r:List α}:jU (x::y::z::r) 2=some z:=fH (j:=2) rfl
section
variable {K:PySem.W.Frag} {g:TG} {tt:TT} {te:TE} {σ0:L2.St} {D:Addr} {F:Hp->Prop} {H1:Hp}
theorem oj {J:It} {n:Nat} (hD:H1 D=none) (E:Nat->List Mx.D) (hE:E 0=[]) (hn:n < sizeLine) (go:∀i H,i < n->bp H1 H->J.go i H) (stop:∀H,bp H1 H->J.stop n H)
  (hs:∀i x H H',i < n->bp H1 H->J.yld i H x H'->bp H H'/\∀(N:V->Hp->Prop) (M:Hp->Prop),(∀v H4 e,bp H' H4->DV H4 v e->E (i + 1)=E i++[e]->N v H4)->(∀H3,bp H' H3->E (i + 1)=E i->M H3)->
   g x σ0 H' λσ2 H2=>tt σ2 H2 λb H3=>if b=true then te σ2 H3 N else M H3)
  (hd:∀H acc,bp H1 H->H D=some (.lst acc)->aY H acc (E n)->F H):FW J g tt te σ0 D F H1:=by
 refine⟨λi m acc H=>m=n - i/\i<=n/\bp H1 H/\H D=some (.lst acc)/\aY H acc (E i)/\acc.length<=i,⟨n,by simp,Nat.zero_le _,bX hD _,aE,by rw[hE];exact aY.nil,Ql _⟩,?_⟩;rintro i m acc H ⟨rfl,hi,hS,KG,pX,sI⟩;by_cases cH:i < n
 ·refine .inr ⟨go i H cH hS,λx H' y=>?_⟩;obtain⟨s1,st⟩:=hs i x H H' cH hS y;refine st _ _ (λv H4 e s4 he e4=>?_) (λH3 s3 e3=>?_)
  ·have Ma:=s1.trans s4;have GI:=Ma _ _ KG;refine⟨acc,GI,by lia,n - (i + 1),by lia,rfl,cH,yD (hS.trans Ma) hD,aE,?_,by simp;lia⟩;rw[e4];exact(aY.append (pX.mono (lS Ma)) (aY.cons he aY.nil)).mono (kS GI)
  ·have L9:=s1.trans s3;exact⟨n - (i + 1),by lia,rfl,cH,hS.trans L9,L9 _ _ KG,by rw[e3];exact pX.mono (lS L9),by lia⟩
 ·have e:i=n:=by lia
  subst e;exact .inl ⟨stop H hS,hd H acc hS KG pX⟩
end
noncomputable def bK:Bool->Heap->Addr->Addr->Nat->Prop
 | false,h,i,l,k=>h.IsListIter i l k
 | true,h,i,l,k=>h.IsTupleIter i l k
noncomputable def fv:Bool->Heap->Addr->Array Value->Prop
 | false,h,l,xs=>h.IsList l xs
 | true,h,l,xs=>h.IsTuple l xs
theorem bK.at:∀{b:Bool} {h h':Heap} {i l:Addr} {k:Nat},bK b h i l k->(∀o,h.get? i=some o->h'.get? i=some o)->bK b h' i l k
 | false,_,_,_,_,_,x,e=>Heap.IsListIter.at x e
 | true,_,_,_,_,_,x,e=>Heap.IsTupleIter.at x e
theorem fv.at:∀{b:Bool} {h h':Heap} {l:Addr} {xs:Array Value},fv b h l xs->(∀o,h.get? l=some o->h'.get? l=some o)->fv b h' l xs
 | false,_,_,_,_,x,e=>let ⟨o,ho,r⟩:=x;⟨o,e o ho,r⟩
 | true,_,_,_,_,x,e=>let ⟨o,ho,r⟩:=x;⟨o,e o ho,r⟩
theorem bK.obj:∀{b:Bool} {h:Heap} {i l:Addr} {k:Nat},bK b h i l k->∃o,h.get? i=some o/\∀v,o.data≠ .cell v
 | false,_,_,_,_,x=>by obtain⟨o,e,c,d⟩:=x;exact⟨o,e,λv q=>by rw[d] at q;cases q⟩
 | true,_,_,_,_,x=>by obtain⟨o,e,c,d⟩:=x;exact⟨o,e,λv q=>by rw[d] at q;cases q⟩
section
variable {prog:Program} {w:World} {A:Around} {E:Value->Shared->Prop} {s:Shared}
theorem rF {it t:Addr} {i:Nat} {items:Array Value} {x:Value} {Q:Value->Shared->Prop} (hit:s.heap.IsTupleIter it t i) (ht:s.heap.IsTuple t items) (hx:items[i]?=some x)
  (hQ:∀h',h'.IsTupleIter it t (i + 1)->Heap.SameBut it s.heap h'->Q x {s with heap:=h'}):wpAny (model prog w) A (Builtin.SmallTypes.nextOf (.ref it)) Q E s:=by
 obtain⟨o,ho,hc,hd⟩:=id hit;obtain⟨ol,K1,_,nl,FJ⟩:=ht;unfold Builtin.SmallTypes.nextOf;refine Qb (wpAny_callSpecial?_slot (name:=Str.ofString "__next__") hit.typeIs F.slot_tuple_iterator_next (wpAny_call_entry F.slot_tuple_iterator_next hit.typeIs F.entry_tuple_iterator_next (show wpAny _ _ (field (.ref it) 0 >>=_) _ _ s from Qb (wpAny_field ho hd (x:= .ref t) rfl ?_)) (F.args_tuple_iterator_next_1 _)));show wpAny _ _ (if (Value.ref t==Value.none)=true then _ else _) _ _ s;rw[if_neg (show¬((Value.ref t==Value.none)=true) from Bool.false_ne_true)];refine(show wpAny _ _ (field (.ref it) 1 >>=_) _ _ s from Qb (wpAny_field ho hd (x:= .int i 0) rfl (show wpAny _ _ (seqItems? (.ref t) >>=_) _ _ s from Qb (wpAny_seqItems K1 FJ ?_))));simp only[Int.toNat_natCast,hx];refine Qb (wpAny_setField ho hd (by simp) (Qe ⟨x,rfl,Qe (hQ _ ⟨_,Heap.get?_update_self _ ho (Obj.isFreed_of_fields (Obj.data_mapFields hd _)),(Obj.cls_mapFields ..).trans hc,?_⟩ (Heap.SameBut.update ..))⟩));rw[Obj.data_mapFields hd];simp[rawInt]
theorem vn {it t:Addr} {i:Nat} {items:Array Value} {Q:Value->Shared->Prop} (hh:A.handled=none) (hit:s.heap.IsTupleIter it t i) (ht:s.heap.IsTuple t items) (hx:items[i]?=none)
  (hE:∀h' e,Heap.ExtBut it s.heap h'->(∃o,h'.get? e=some o/\o.cls= .type "StopIteration")->E (.ref e) {s with heap:=h'}):wpAny (model prog w) A (Builtin.SmallTypes.nextOf (.ref it)) Q E s:=by
 obtain⟨o,ho,hc,hd⟩:=id hit;obtain⟨ol,K1,_,nl,FJ⟩:=ht;unfold Builtin.SmallTypes.nextOf;refine Qb (wpAny_callSpecial?_slot (name:=Str.ofString "__next__") hit.typeIs F.slot_tuple_iterator_next (wpAny_call_entry F.slot_tuple_iterator_next hit.typeIs F.entry_tuple_iterator_next (show wpAny _ _ (field (.ref it) 0 >>=_) _ _ s from Qb (wpAny_field ho hd (x:= .ref t) rfl ?_)) (F.args_tuple_iterator_next_1 _)));show wpAny _ _ (if (Value.ref t==Value.none)=true then _ else _) _ _ s;rw[if_neg (show¬((Value.ref t==Value.none)=true) from Bool.false_ne_true)];refine(show wpAny _ _ (field (.ref it) 1 >>=_) _ _ s from Qb (wpAny_field ho hd (x:= .int i 0) rfl (show wpAny _ _ (seqItems? (.ref t) >>=_) _ _ s from Qb (wpAny_seqItems K1 FJ ?_))));simp only[Int.toNat_natCast,hx];refine Qb (wpAny_rule (Qb (wpAny_setField ho hd (by simp) (show wpAny _ _ (newExc (.type "StopIteration") [] >>=_) _ _ _ from Qb ?_))));simp only[newExc,newTuple];refine Qb (wpAny_newObj_type (Qb (m:=firstArgMember _ _) (wpAny_of_eq (a:=Value.none) (by first | rfl | (simp only[firstArgMember];rfl)) (wpAny_newObj_type ?_ (by size_fits)))) (by size_fits));simp only[raiseNew];refine Qb (wpAny_handled ?_)
 first | rw[show A.in1.handled=none from hh] | rw[hh]
 exact Qb (Qe (wpAny_throw (hE _ _ (((Heap.SameBut.update ..).extBut.push _).push _) ⟨_,Qn _ rfl,rfl⟩)))
theorem gB {b:Bool} {it l:Addr} {i:Nat} {items:Array Value} {x:Value} {Q:Value->Shared->Prop} (hit:bK b s.heap it l i) (hl:fv b s.heap l items) (hx:items[i]?=some x)
  (hQ:∀h',bK b h' it l (i + 1)->Heap.SameBut it s.heap h'->Q x {s with heap:=h'}):wpAny (model prog w) A (Builtin.SmallTypes.nextOf (.ref it)) Q E s:=by
 cases b with
 | false=>exact wpAny_nextOf_list_item hit hl hx hQ
 | true=>exact rF hit hl hx hQ
theorem lL {b:Bool} {it l:Addr} {i:Nat} {items:Array Value} {Q:Value->Shared->Prop} (hh:A.handled=none) (hit:bK b s.heap it l i) (hl:fv b s.heap l items) (hx:items[i]?=none)
  (hE:∀h' e,Heap.ExtBut it s.heap h'->(∃o,h'.get? e=some o/\o.cls= .type "StopIteration")->E (.ref e) {s with heap:=h'}):wpAny (model prog w) A (Builtin.SmallTypes.nextOf (.ref it)) Q E s:=by
 cases b with
 | false=>exact wpAny_nextOf_list_end hh hit hl hx hE
 | true=>exact vn hh hit hl hx hE
end
structure iM (z TO i1 i2 l:Addr):Prop where
 z:l≠z
 o:l≠TO
 a:l≠i1
 b:l≠i2
section
variable {prog:Program} {w:World} {A:Around} {E:Value->Shared->Prop} {s:Shared}
theorem vw {b1 b2:Bool} {z TI TO i1 i2 l1 l2:Addr} {k1 k2:Nat} {xs ys:Array Value} {x y a b:Value} {Q:Option Value->Shared->Prop} (D:vP z TI TO i1 i2) (O1:iM z TO i1 i2 l1) (O2:iM z TO i1 i2 l2)
  (hz:IsZip s.heap z TI TO .none) (KM:IsPair s.heap TI (.ref i1) (.ref i2)) (KO:IsPair s.heap TO a b) (h1:bK b1 s.heap i1 l1 k1) (h2:bK b2 s.heap i2 l2 k2) (jm:fv b1 s.heap l1 xs) (fB:fv b2 s.heap l2 ys) (hx:xs[k1]?=some x) (hy:ys[k2]?=some y)
  (hQ:∀h',IsZip h' z TI TO (rawInt s.heap.objs.size)->IsPair h' TO x y->bK b1 h' i1 l1 (k1 + 1)->bK b2 h' i2 l2 (k2 + 1)->IsPair h' s.heap.objs.size x y->
   (∀c o,c≠z->c≠TO->c≠i1->c≠i2->s.heap.get? c=some o->h'.get? c=some o)->Q (some (.ref s.heap.objs.size)) {s with heap:=h'}):wpAny (model prog w) A (pyNext (.ref z)) Q E s:=by
 have hT:s.TypeIs (.ref z) "zip":=⟨_,hz,rfl⟩;unfold pyNext;refine Qb (wpAny_attempt (wpAny_callSpecial?_slot (name:=Str.ofString "__next__") hT F.slot_zip_next (wpAny_call_entry F.slot_zip_next hT F.entry_zip_next ?_ (F.args_zip_next_1 _))));refine(show wpAny _ _ (field (.ref z) 2 >>=_) _ _ _ from Qb (wpAny_field hz rfl (x:= .bool false) rfl (show wpAny _ _ (field (.ref z) 3 >>=_) _ _ _ from Qb (wpAny_field hz rfl (x:= .ref TI) rfl (Qb (wpAny_seqItems KM rfl (show wpAny _ _ (Builtin.SmallTypes.ownedTupleIsFree (.ref z) >>=_) _ _ _ from Qb ?_)))))));unfold Builtin.SmallTypes.ownedTupleIsFree;refine Qb (wpAny_field hz rfl (x:= .none) rfl (Qe ?_));simp only[if_true];refine Qb (wpAny_rule (Qb (wpAny_field hz rfl (x:= .ref TO) rfl (Qb (QN hz (by simp) λg1 z1 e1=>Qb ?_)))))
 replace z1:IsZip g1 z TI TO .ellipsis:=z1
 simp only[List.zipIdx_cons,List.zipIdx_nil,List.forIn_cons,List.forIn_nil];refine Qb (Qb (wpAny_onRaise (show wpAny _ _ (Builtin.SmallTypes.nextOf (.ref i1) >>=_) _ _ _ from Qb (gB (h1.at λo q=>e1.extBut _ o D.i1z q) (jm.at λo q=>e1.extBut _ o O1.z q) hx λg2 j1 e2=>Qe ?_))));have t2:IsPair g2 TO a b:=e2.extBut _ _ D.TOi1 (e1.extBut _ _ D.TOz KO);refine Qb (wpAny_seqItems t2 rfl (Qb (wpAny_updateSeq_pair t2 λg3 t3 e3=>Qb (wpAny_letGo (Qe ?_)))))
 replace t3:IsPair g3 TO x b:=t3
 refine Qb (Qb (wpAny_onRaise (show wpAny _ _ (Builtin.SmallTypes.nextOf (.ref i2) >>=_) _ _ _ from Qb (gB (h2.at λo q=>e3.extBut _ o D.TOi2.symm (e2.extBut _ o D.i12.symm (e1.extBut _ o D.i2z q))) (fB.at λo q=>e3.extBut _ o O2.o (e2.extBut _ o O2.a (e1.extBut _ o O2.z q))) hy λg4 j2 e4=>Qe ?_))));have t4:IsPair g4 TO x b:=e4.extBut _ _ D.TOi2 t3;refine Qb (wpAny_seqItems t4 rfl (Qb (wpAny_updateSeq_pair t4 λg5 t5 e5=>Qb (wpAny_letGo (Qe (Qe ?_))))))
 replace t5:IsPair g5 TO x y:=t5
 refine Qb (wpAny_seqItems t5 rfl (Qb (wpAny_newTuple ?_)));have sz:g5.objs.size=s.heap.objs.size:=by rw[e5.1,e4.1,e3.1,e2.1,e1.1]
 have z5:IsZip g5 z TI TO .ellipsis:=e5.extBut _ _ D.TOz.symm (e4.extBut _ _ D.i2z.symm (e3.extBut _ _ D.TOz.symm (e2.extBut _ _ D.i1z.symm z1)));have old:∀c o,c≠z->c≠TO->c≠i1->c≠i2->s.heap.get? c=some o->g5.get? c=some o:=λc o c1 c2 c3 c4 q=>e5.extBut _ _ c2 (e4.extBut _ _ c4 (e3.extBut _ _ c2 (e2.extBut _ _ c3 (e1.extBut _ _ c1 q))))
 have n1:bK b1 g5 i1 l1 (k1 + 1):=j1.at λo q=>e5.extBut _ o D.TOi1.symm (e4.extBut _ o D.i12 (e3.extBut _ o D.TOi1.symm q))
 have n2:bK b2 g5 i2 l2 (k2 + 1):=j2.at λo q=>e5.extBut _ o D.TOi2.symm q
 have NA:z < g5.objs.size:=Qq z5;refine(show wpAny _ _ (Builtin.SmallTypes.ownedTupleHandOut (.ref z) (.ref g5.objs.size) >>=_) _ _ _ from Qb ?_);unfold Builtin.SmallTypes.ownedTupleHandOut;have z6:IsZip (g5.push {cls:= .type "tuple",data:= .seq #[x,y]}) z TI TO .ellipsis:=Qd _ z5;refine Qb (QN z6 (by simp) λg7 z7 e7=>?_)
 replace z7:IsZip g7 z TI TO (rawInt g5.objs.size):=z7
 refine QN z7 (by simp) λg8 z8 e8=>?_
 replace z8:IsZip g8 z TI TO (rawInt g5.objs.size):=z8
 have up:∀c o,c≠z->g5.get? c=some o->g8.get? c=some o:=λc o c1 q=>e8.extBut _ _ c1 (e7.extBut _ _ c1 (Qd _ q))
 have t8:IsPair g8 g5.objs.size x y:=e8.extBut _ _ (Nat.ne_of_gt NA) (e7.extBut _ _ (Nat.ne_of_gt NA) (Qn _ rfl));rw[sz] at z8 t8;refine Qe ⟨_,rfl,Qe ?_⟩;show Q (some (.ref g5.objs.size)) _;rw[sz];exact hQ g8 z8 (up _ _ D.TOz t5) (n1.at λo q=>up _ o D.i1z q) (n2.at λo q=>up _ o D.i2z q) t8 λc o c1 c2 c3 c4 q=>up c o c1 (old c o c1 c2 c3 c4 q)
theorem zi {b1 b2:Bool} {z TI TO i1 i2 l1 l2:Addr} {k1 k2:Nat} {xs ys:Array Value} {a b:Value} {Q:Option Value->Shared->Prop} (hh:A.handled=none) (D:vP z TI TO i1 i2) (O1:iM z TO i1 i2 l1) (O2:iM z TO i1 i2 l2)
  (hz:IsZip s.heap z TI TO .none) (KM:IsPair s.heap TI (.ref i1) (.ref i2)) (KO:IsPair s.heap TO a b) (h1:bK b1 s.heap i1 l1 k1) (h2:bK b2 s.heap i2 l2 k2) (jm:fv b1 s.heap l1 xs) (fB:fv b2 s.heap l2 ys) (G3:xs[k1]?=none\/ys[k2]?=none)
  (hQ:∀h',(∀c o,c≠z->c≠TO->c≠i1->c≠i2->s.heap.get? c=some o->h'.get? c=some o)->Q none {s with heap:=h'}):wpAny (model prog w) A (pyNext (.ref z)) Q E s:=by
 have hT:s.TypeIs (.ref z) "zip":=⟨_,hz,rfl⟩;unfold pyNext;refine Qb (wpAny_attempt (wpAny_callSpecial?_slot (name:=Str.ofString "__next__") hT F.slot_zip_next (wpAny_call_entry F.slot_zip_next hT F.entry_zip_next ?_ (F.args_zip_next_1 _))));have stop:∀(h':Heap) (e:Addr),(∀c o,c≠z->c≠TO->c≠i1->c≠i2->s.heap.get? c=some o->h'.get? c=some o)->(∃o,h'.get? e=some o/\o.cls= .type "StopIteration")->wpAny (model prog w) A (isInstance (.ref e) (.type "StopIteration")) (λr s'=>r=true/\Q none s') E {s with heap:=h'}:=λh' e kk he=>by obtain⟨o,ho,hc⟩:=he;exact wpAny_isInstance (T:="StopIteration") (b:=true) ⟨o,ho,hc⟩ isSubtype_stop ⟨rfl,hQ _ kk⟩
 refine(show wpAny _ _ (field (.ref z) 2 >>=_) _ _ _ from Qb (wpAny_field hz rfl (x:= .bool false) rfl (show wpAny _ _ (field (.ref z) 3 >>=_) _ _ _ from Qb (wpAny_field hz rfl (x:= .ref TI) rfl (Qb (wpAny_seqItems KM rfl (show wpAny _ _ (Builtin.SmallTypes.ownedTupleIsFree (.ref z) >>=_) _ _ _ from Qb ?_)))))));unfold Builtin.SmallTypes.ownedTupleIsFree;refine Qb (wpAny_field hz rfl (x:= .none) rfl (Qe ?_));simp only[if_true];refine Qb (wpAny_rule (Qb (wpAny_field hz rfl (x:= .ref TO) rfl (Qb (QN hz (by simp) λg1 z1 e1=>Qb ?_)))))
 replace z1:IsZip g1 z TI TO .ellipsis:=z1
 simp only[List.zipIdx_cons,List.zipIdx_nil,List.forIn_cons,List.forIn_nil];refine Qb (Qb (wpAny_onRaise ?_));show wpAny _ _ (Builtin.SmallTypes.nextOf (.ref i1) >>=_) _ _ _;cases hx:xs[k1]? with
 | none=>
  refine Qb (lL hh (h1.at λo q=>e1.extBut _ o D.i1z q) (jm.at λo q=>e1.extBut _ o O1.z q) hx λg2 e e2 he=>?_);obtain⟨oe,Do,B0⟩:=he;have z2:IsZip g2 z TI TO .ellipsis:=e2 _ _ D.i1z.symm z1;have KW:e≠z:=λx=>by subst x;rw[z2] at Do;cases Do;simp at B0
  refine QN z2 (by simp) λg3 _ e3=>?_
  refine Qb (wpAny_mono (stop g3 e (λc o c1 _ c3 _ x=>e3.extBut _ _ c1 (e2 _ _ c3 (e1.extBut _ _ c1 x))) ⟨oe,e3.extBut _ _ KW Do,B0⟩) (λr s' q=>?_) λ_ _ q=>q);obtain⟨rfl,q⟩:=q;exact Qe q
 | some x=>
  have hy:ys[k2]?=none:=by rcases G3 with h | h;rw[hx] at h;cases h;exact h
  refine Qb (gB (h1.at λo q=>e1.extBut _ o D.i1z q) (jm.at λo q=>e1.extBut _ o O1.z q) hx λg2 j1 e2=>Qe ?_);have t2:IsPair g2 TO a b:=e2.extBut _ _ D.TOi1 (e1.extBut _ _ D.TOz KO);refine Qb (wpAny_seqItems t2 rfl (Qb (wpAny_updateSeq_pair t2 λg3 t3 e3=>Qb (wpAny_letGo (Qe ?_)))));refine Qb (Qb (wpAny_onRaise (show wpAny _ _ (Builtin.SmallTypes.nextOf (.ref i2) >>=_) _ _ _ from Qb (lL hh (h2.at λo q=>e3.extBut _ o D.TOi2.symm (e2.extBut _ o D.i12.symm (e1.extBut _ o D.i2z q))) (fB.at λo q=>e3.extBut _ o O2.o (e2.extBut _ o O2.a (e1.extBut _ o O2.z q))) hy λg4 e e4 he=>?_))));obtain⟨oe,Do,B0⟩:=he;have z4:IsZip g4 z TI TO .ellipsis:=e4 _ _ D.i2z.symm (e3.extBut _ _ D.TOz.symm (e2.extBut _ _ D.i1z.symm z1));have KW:e≠z:=λx=>by subst x;rw[z4] at Do;cases Do;simp at B0
  refine QN z4 (by simp) λg5 _ e5=>?_
  refine Qb (wpAny_mono (stop g5 e (λc o c1 c2 c3 c4 x=>e5.extBut _ _ c1 (e4 _ _ c4 (e3.extBut _ _ c2 (e2.extBut _ _ c3 (e1.extBut _ _ c1 x))))) ⟨oe,e5.extBut _ _ KW Do,B0⟩) (λr s' q=>?_) λ_ _ q=>q);obtain⟨rfl,q⟩:=q;exact Qe q
end
noncomputable def oQ:Bool->Addr->Obj
 | false,l=>{cls:= .type "list_iterator",data:= .fields #[.ref l,.int 0 0]}
 | true,l=>{cls:= .type "tuple_iterator",data:= .fields #[.ref l,.int 0 0]}
theorem oR:∀{b:Bool} {h:Heap} {i l:Addr},h.get? i=some (oQ b l)->bK b h i l 0
 | false,_,_,_,e=>⟨_,e,rfl,rfl⟩
 | true,_,_,_,e=>⟨_,e,rfl,rfl⟩
theorem lK (b:Bool) (l:Addr):(oQ b l).isFreed=false:=by cases b <;> rfl
noncomputable abbrev JO (h:Heap) (b1:Bool) (l1:Addr):Heap:=h.push (oQ b1 l1)
noncomputable abbrev JP (h:Heap) (b1 b2:Bool) (l1 l2:Addr):Heap:=(JO h b1 l1).push (oQ b2 l2)
noncomputable abbrev JQ (h:Heap) (b1 b2:Bool) (l1 l2:Addr):Heap:=(JP h b1 b2 l1 l2).push {cls:= .type "tuple",data:= .seq #[.ref h.objs.size,.ref (JO h b1 l1).objs.size]}
noncomputable abbrev JR (h:Heap) (b1 b2:Bool) (l1 l2:Addr):Heap:=(JQ h b1 b2 l1 l2).push {cls:= .type "tuple",data:= .seq #[.none,.none]}
noncomputable abbrev FV (h:Heap) (b1 b2:Bool) (l1 l2:Addr):Heap:=(JR h b1 b2 l1 l2).push {cls:= .type "zip",data:= .fields #[.none,.bool false,.bool false,.ref (JP h b1 b2 l1 l2).objs.size,.ref (JQ h b1 b2 l1 l2).objs.size]}
theorem fv.push {b:Bool} {h:Heap} {l:Addr} {xs:Array Value} (x:fv b h l xs) (o:Obj):fv b (h.push o) l xs:=x.at λ_ e=>Qd _ e
theorem zj (b1 b2:Bool) (l1 l2:Addr) (xs ys:Array Value):
  Meets (Builtin.«zip.__new__» ⟨[.type "zip",.ref l1,.ref l2],[]⟩) (λ_ R s=>fv b1 s.heap l1 xs/\fv b2 s.heap l2 ys/\R (.ok (.ret (.ref (JR s.heap b1 b2 l1 l2).objs.size))) {s with heap:=FV s.heap b1 b2 l1 l2}):=
 .of_wp λprog w A R s h=>by
  obtain⟨hp,g,d,tk,os⟩:=s;obtain⟨jm,fB,h⟩:=h;have xD:=sub_zip;have Jx:=fB.push (oQ b1 l1);cases b1 <;> cases b2
  ·have k1:Heap.IsList (Shared.heap ⟨hp,g,d,tk,os⟩) l1 xs:=jm;have k2:Heap.IsList (Shared.heap ⟨hp.push {cls:= .type "list_iterator",data:= .fields #[.ref l1,.int 0 0]},g,d,tk,os⟩) l2 ys:=Jx
   wp_walk using wpAny_pyIter_list k1,wpAny_pyIter_list k2
   exact⟨_,rfl,h⟩
  ·have k1:Heap.IsList (Shared.heap ⟨hp,g,d,tk,os⟩) l1 xs:=jm;have k2:Heap.IsTuple (Shared.heap ⟨hp.push {cls:= .type "list_iterator",data:= .fields #[.ref l1,.int 0 0]},g,d,tk,os⟩) l2 ys:=Jx
   wp_walk using wpAny_pyIter_list k1,wpAny_pyIter_tuple k2
   exact⟨_,rfl,h⟩
  ·have k1:Heap.IsTuple (Shared.heap ⟨hp,g,d,tk,os⟩) l1 xs:=jm;have k2:Heap.IsList (Shared.heap ⟨hp.push {cls:= .type "tuple_iterator",data:= .fields #[.ref l1,.int 0 0]},g,d,tk,os⟩) l2 ys:=Jx
   wp_walk using wpAny_pyIter_tuple k1,wpAny_pyIter_list k2
   exact⟨_,rfl,h⟩
  ·have k1:Heap.IsTuple (Shared.heap ⟨hp,g,d,tk,os⟩) l1 xs:=jm;have k2:Heap.IsTuple (Shared.heap ⟨hp.push {cls:= .type "tuple_iterator",data:= .fields #[.ref l1,.int 0 0]},g,d,tk,os⟩) l2 ys:=Jx
   wp_walk using wpAny_pyIter_tuple k1,wpAny_pyIter_tuple k2
   exact⟨_,rfl,h⟩
section
variable {prog:Program} {w:World} {A:Around} {E:Value->Shared->Prop} {s:Shared}
theorem uy {b1 b2:Bool} {l1 l2:Addr} {xs ys:Array Value} {Q:Value->Shared->Prop} (jm:fv b1 s.heap l1 xs) (fB:fv b2 s.heap l2 ys)
  (h:∀h',IsZip h' (s.heap.objs.size + 4) (s.heap.objs.size + 2) (s.heap.objs.size + 3) .none->IsPair h' (s.heap.objs.size + 2) (.ref s.heap.objs.size) (.ref (s.heap.objs.size + 1))->IsPair h' (s.heap.objs.size + 3) .none .none->
   bK b1 h' s.heap.objs.size l1 0->bK b2 h' (s.heap.objs.size + 1) l2 0->(∀c o,s.heap.get? c=some o->h'.get? c=some o)->Q (.ref (s.heap.objs.size + 4)) {s with heap:=h'}):wpAny (model prog w) A (call (.type "zip") [.ref l1,.ref l2]) Q E s:=by
 refine callType_new F.called_zip (by decide) (F.typeCall_zip_2 _ _) (F.newCall_zip_2 _ _) (λobj=>F.args_object_init_3 obj _ _) F.entry_zip_new (zj b1 b2 l1 l2 xs ys) ⟨jm,fB,?_⟩;have y1:(JO s.heap b1 l1).objs.size=s.heap.objs.size + 1:=QK ..;have y2:(JP s.heap b1 b2 l1 l2).objs.size=s.heap.objs.size + 2:=by rw[QK,y1]
 have y3:(JQ s.heap b1 b2 l1 l2).objs.size=s.heap.objs.size + 3:=by rw[QK,y2]
 have y4:(JR s.heap b1 b2 l1 l2).objs.size=s.heap.objs.size + 4:=by rw[QK,y3]
 have g5:(FV s.heap b1 b2 l1 l2).get? (JR s.heap b1 b2 l1 l2).objs.size=some _:=Qn _ rfl;have g4:(FV s.heap b1 b2 l1 l2).get? (JQ s.heap b1 b2 l1 l2).objs.size=some _:=Qd _ (Qn _ rfl);have g3:(FV s.heap b1 b2 l1 l2).get? (JP s.heap b1 b2 l1 l2).objs.size=some _:=Qd _ (Qd _ (Qn _ rfl));have g2:(FV s.heap b1 b2 l1 l2).get? (JO s.heap b1 l1).objs.size=some _:=Qd _ (Qd _ (Qd _ (Qn _ (lK b2 l2))));have g1:(FV s.heap b1 b2 l1 l2).get? s.heap.objs.size=some _:=Qd _ (Qd _ (Qd _ (Qd _ (Qn _ (lK b1 l1)))));show _/\_;rw[y2,y3,y4] at g5;rw[y1,y2] at g3;rw[y3] at g4;rw[y1] at g2;rw[y4];exact⟨⟨_,g5,rfl⟩,h _ g5 g3 g4 (oR g1) (oR g2) λc o x=>Qd _ (Qd _ (Qd _ (Qd _ (Qd _ x))))⟩
end
noncomputable def p6:Bool->List V->HO
 | false,xs=> .lst xs
 | true,xs=> .tup xs
theorem sM {b:Bool} {xs ys:List V} (h:p6 b xs=p6 b ys):xs=ys:=by
 cases b with
 | false=>injection h
 | true=>injection h
noncomputable def JX (b1 b2:Bool) (l1 l2:Addr):It where
 go:=λi H=>∃xs ys x y,H l1=some (p6 b1 xs)/\H l2=some (p6 b2 ys)/\xs[i]?=some x/\ys[i]?=some y
 yld:=λi H v H'=>∃p x y,v= .ref p/\H p=none/\H'=upd H p (.tup [x,y])/\∀xs ys,H l1=some (p6 b1 xs)->H l2=some (p6 b2 ys)->xs[i]?=some x/\ys[i]?=some y
 stop:=λi H=>∃xs ys,H l1=some (p6 b1 xs)/\H l2=some (p6 b2 ys)/\(xs.length<=i\/ys.length<=i)
theorem fX {X:Cx} {pins:List (Addr×Obj)} {s:Shared} {σ:L2.St} {H:Hp} (I:Inv X pins σ H s) {b:Bool} {l:Addr} {xs:List V} (h:H l=some (p6 b xs)):∃its:List Value,aw xs its/\fv b s.heap l its.toArray:=by
 cases b with
 | false=>obtain⟨its,r,p,_⟩:=I.list (.inl (.inl h));exact⟨its,r,p.isList⟩
 | true=>obtain⟨its,r,p,_⟩:=I.tuple (.inl (.inl h));exact⟨its,r,p⟩
noncomputable def PF (b1 b2:Bool) (z TI TO i1 i2 l1 l2:Addr) (i:Nat) (h:Heap):Prop:=IsZip h z TI TO .none/\IsPair h TI (.ref i1) (.ref i2)/\(∃a b,IsPair h TO a b)/\bK b1 h i1 l1 i/\bK b2 h i2 l2 i
theorem vt {P:Program} {w:World} {K:PySem.W.Frag} {es:List Expr} {k:Nat} {tp:Pos} {b1 b2:Bool} {z TI TO i1 i2 l1 l2:Addr} (ap:vP z TI TO i1 i2):
  Turn P w K (.Tuple es k tp) (JX b1 b2 l1 l2) [z,TI,TO,i1,i2] z (PF b1 b2 z TI TO i1 i2 l1 l2) where
 mem:=by simp
 obj:=λi h st b hb=>by
  obtain⟨s1,s2,⟨a,b',s3⟩,s4,s5⟩:=st;simp only[Qs,Qt,or_false] at hb;rcases hb with rfl | rfl | rfl | rfl | rfl
  ·exact⟨_,s1,λv q=>by cases q⟩
  ·exact⟨_,s2,λv q=>by cases q⟩
  ·exact⟨_,s3,λv q=>by cases q⟩
  ·exact s4.obj
  ·exact s5.obj
 keep:=λi h h' st kk=>by obtain⟨s1,s2,⟨a,b',s3⟩,s4,s5⟩:=st;exact⟨kk z (by simp) _ s1,kk TI (by simp) _ s2,⟨a,b',kk TO (by simp) _ s3⟩,s4.at λo e=>kk i1 (by simp) o e,s5.at λo e=>kk i2 (by simp) o e⟩
 item:=by
  intro X hP hw hK hc i pins s σ H E I hf st hg;subst hP hw hK;obtain⟨xs,ys,x,y,jm,fB,hx,hy⟩:=hg;obtain⟨s1,s2,⟨a,b',s3⟩,s4,s5⟩:=st;obtain⟨f9,r1,p1⟩:=fX I jm;obtain⟨aI,r2,p2⟩:=fX I fB;obtain⟨u1,AB,Po⟩:=r1.get hx;obtain⟨u2,O4,Pp⟩:=r2.get hy;have ne:∀{l:Addr} {o:HO},H l=some o->∀b∈[z,TI,TO,i1,i2],l≠b:=λ {l o} hl b hb e=>by subst e;rw[(hf l hb).1] at hl;cases hl
  have off:∀{l:Addr} {o:HO},H l=some o->iM z TO i1 i2 l:=λ {l o} hl=>⟨ne hl z (by simp),ne hl TO (by simp),ne hl i1 (by simp),ne hl i2 (by simp)⟩
  refine vw ap (off jm) (off fB) s1 s2 s3 s4 s5 p1 p2 (by simpa using AB) (by simpa using O4) λh' a1 a2 a3 a4 a5 a7=>⟨_,rfl,?_⟩
  refine wpAny_letOwnedTupleGo_zip (s:={s with heap:=h'}) a1 λh2 c1 c2=>?_
  have Ol:s.heap.objs.size≠z:=λe=>by have:=Qq s1;rw[<-e] at this;exact Nat.lt_irrefl _ this
  have KN:IsPair h2 TI (.ref i1) (.ref i2):=(c2.2 TI ap.TIz).trans (a7 TI _ ap.TIz ap.TITO ap.TIi1 ap.TIi2 s2);have KI:h2.get? s.heap.objs.size=some {cls:= .type "tuple",data:= .seq #[u1,u2]}:=(c2.2 _ Ol).trans a5;have kk:∀b o,b∉[z,TI,TO,i1,i2]->s.heap.get? b=some o->h2.get? b=some o:=λb o hb e=>by simp only[Qs,Qt,or_false,not_or] at hb;exact(c2.2 b hb.1).trans (a7 b o hb.1 hb.2.2.1 hb.2.2.2.1 hb.2.2.2.2 e)
  have lt:∀{b:Addr} {o:Obj},s.heap.get? b=some o->b≠s.heap.objs.size:=λe=>QL (Qq e)
  have Hz:∀b u,H b=some u->b∉[z,TI,TO,i1,i2]:=λb u e hb=>by rw[(hf b hb).1] at e;cases e
  have FH:H s.heap.objs.size=none:=I.fresh;have I2:Inv X pins σ (upd H s.heap.objs.size (.tup [x,y])) {s with heap:=h2,toks:=s.toks}:=by
   refine I.step (g':=s.gens) (d':=s.drawn) (ch:=[z,TI,TO,i1,i2]) (λb hb=>⟨(hf b hb).2.2.2.1,(hf b hb).2.1,(hf b hb).2.2.2.2.1,(hf b hb).2.2.2.2.2⟩) (λb o _ _ hb e _=>kk b o hb e) (λb o _ _ hb e _=>⟨o.slots,kk b o hb e⟩)
    (λb o hb e n=>by rw[aG (lt e)];exact n) (λb o hb e=>⟨o,kk b o hb e⟩) (λb zs e=>by rw[aG (aW e FH)];exact e) (λb o u e=>by rw[aG (aW e FH)];exact e)
    (λb ps e=>⟨#[],by rw[aG (aW e FH),e];simp⟩) (λm hm=>?_) (λb u e=>?_) I.bare
   ·obtain⟨o,gj,ep,ho,rr⟩:=hm;exact⟨o,gj,ep,kk _ o (λhb=>(hf _ hb).2.1 rfl) ho,rr⟩
   ·by_cases hb:b=s.heap.objs.size
    ·subst hb;rw[aE] at e;cases e;exact⟨by show 2<=sizeLine;decide,[u1,u2],.cons Po (.cons Pp .nil),_,KI,rfl,0,rfl,rfl,rfl⟩
    ·rw[aG hb] at e;refine(I.hok b u e).nz (λc v hc q=>kk c v ?_ q) (λc q=>by rw[aG (aW q FH)];exact q) λc zs q=>by rw[aG (aW q FH)];exact q
     rcases hc with rfl | hc
     ·exact Hz c u e
     ·exact Hz c _ hc
  refine⟨.ref s.heap.objs.size,_,I2,rfl,⟨s.heap.objs.size,x,y,rfl,FH,rfl,λvv JN q1 q2=>?_⟩,⟨c1,KN,⟨u1,u2,(c2.2 TO ap.TOz).trans a2⟩,a3.at λo e=>(c2.2 i1 ap.i1z).trans e,a4.at λo e=>(c2.2 i2 ap.i2z).trans e⟩,λb hb=>?_⟩
  ·rw[jm] at q1;rw[fB] at q2;rw[sM (Option.some.inj q1).symm,sM (Option.some.inj q2).symm];exact⟨hx,hy⟩
  ·rw[aG (λe=>?_)]
   ·exact(hf b hb).1
   ·have q:∃o,s.heap.get? b=some o:=by
     simp only[Qs,Qt,or_false] at hb;rcases hb with rfl | rfl | rfl | rfl | rfl
     ·exact⟨_,s1⟩
     ·exact⟨_,s2⟩
     ·exact⟨_,s3⟩
     ·obtain⟨o,e,_⟩:=s4.obj;exact⟨o,e⟩
     ·obtain⟨o,e,_⟩:=s5.obj;exact⟨o,e⟩
    obtain⟨o,q⟩:=q;exact lt q e
 done:=by
  intro X hP hw hK hc i pins s σ H E I hf st hg;subst hP hw hK;obtain⟨xs,ys,jm,fB,G3⟩:=hg;obtain⟨s1,s2,⟨a,b',s3⟩,s4,s5⟩:=st;obtain⟨f9,r1,p1⟩:=fX I jm;obtain⟨aI,r2,p2⟩:=fX I fB;have ne:∀{l:Addr} {o:HO},H l=some o->∀b∈[z,TI,TO,i1,i2],l≠b:=λ {l o} hl b hb e=>by subst e;rw[(hf l hb).1] at hl;cases hl
  have off:∀{l:Addr} {o:HO},H l=some o->iM z TO i1 i2 l:=λ {l o} hl=>⟨ne hl z (by simp),ne hl TO (by simp),ne hl i1 (by simp),ne hl i2 (by simp)⟩
  have e1:=r1.length;have e2:=r2.length;refine zi (I.ok.hd hc) ap (off jm) (off fB) s1 s2 s3 s4 s5 p1 p2 (by simp;lia) λh' kk=>⟨rfl,?_⟩
  have Hz:∀b u,H b=some u->b∉[z,TI,TO,i1,i2]:=λb u e hb=>by rw[(hf b hb).1] at e;cases e
  have Ho:∀b o,b∉[z,TI,TO,i1,i2]->s.heap.get? b=some o->h'.get? b=some o:=λb o hb e=>by simp only[Qs,Qt,or_false,not_or] at hb;exact kk b o hb.1 hb.2.2.1 hb.2.2.2.1 hb.2.2.2.2 e
  refine I.step (g':=s.gens) (d':=s.drawn) (t':=s.toks) (h':=h') (ch:=[z,TI,TO,i1,i2]) (λb hb=>⟨(hf b hb).2.2.2.1,(hf b hb).2.1,(hf b hb).2.2.2.2.1,(hf b hb).2.2.2.2.2⟩) (λb o _ _ hb e _=>Ho b o hb e) (λb o _ _ hb e _=>⟨o.slots,Ho b o hb e⟩)
   (λb o hb e n=>n) (λb o hb e=>⟨o,Ho b o hb e⟩) (λb zs e=>e) (λb o u e=>e) (λb ps e=>⟨#[],by rw[e];simp⟩) (λm hm=>?_) (λb u e=>?_) I.bare
  ·obtain⟨o,gj,ep,ho,rr⟩:=hm;exact⟨o,gj,ep,Ho _ o (λhb=>(hf _ hb).2.1 rfl) ho,rr⟩
  ·refine(I.hok b u e).nz (λc v hc q=>Ho c v ?_ q) (λc q=>q) λc zs q=>q
   rcases hc with rfl | hc
   ·exact Hz c u e
   ·exact Hz c _ hc
 self:=λ_ _ _ _ _ st h=>wpAny_pyIter_zip st.1 h
noncomputable def Hg (ta:TA):TI:=λσ H R=>ta σ H λvs H1=>∃b1 b2 l1 l2 xs ys,vs=[.ref l1,.ref l2]/\H1 l1=some (p6 b1 xs)/\H1 l2=some (p6 b2 ys)/\R (JX b1 b2 l1 l2) H1
theorem Bd {X:Cx} {es:List Expr} {k:Nat} {tp:Pos} {a b:Expr} {ta:TA} {p pos:Pos} (hg:Gl X "zip") (hm:X.mg "zip"=none) (ha:PA X [a,b] ta) (hs:starEach [a,b] X.env=[(false,eval a X.env),(false,eval b X.env)]:=by rfl) (AA:starEach [b] X.env=[(false,eval b X.env)]:=by rfl):
  PI X (.Tuple es k tp) (.Call (.Name "zip" p) [a,b] [] pos) (Hg ta):=by
 intro pins s σ H R I h;refine Call_ (kf I hg hm boot_zip (PyProof.Rows.callWith_type1 (bO (ha pos pins s σ H _ I h) λus s1 ⟨vs,H1,I1,r1,q1⟩=>?_) (by rw[hs,AA]) (by rw[AA];rfl)));obtain⟨b1,b2,l1,l2,xs,ys,e,e1,e2,q⟩:=q1;subst e;obtain⟨u,v,rfl,ru,rv⟩:=r1.two;cases ru;cases rv;obtain⟨f9,_,p1⟩:=fX I1 e1;obtain⟨aI,_,p2⟩:=fX I1 e2;refine uy p1 p2 λh' g1 g2 g3 g4 g5 kk=>?_
 refine wpAny_pyIter_zip (s:={s1 with heap:=h'}) g1 ?_;have I2:Inv X pins σ H1 {s1 with heap:=h'}:=I1.kept (t':=s1.toks) kk;refine⟨s1.heap.objs.size + 4,[s1.heap.objs.size + 4,s1.heap.objs.size + 2,s1.heap.objs.size + 3,s1.heap.objs.size,s1.heap.objs.size + 1],_,_,H1,rfl,I2,vt (l1:=l1) (l2:=l2) ⟨?_,?_,?_,?_,?_,?_,?_,?_,?_,?_⟩,⟨g1,g2,⟨_,_,g3⟩,g4,g5⟩,λb hb=>?_,q⟩
 iterate 10 (first | (apply QL;lia) | (apply Nat.ne_of_gt;lia))
 have lH:s1.heap.objs.size<=b:=by simp only[Qs,Qt,or_false] at hb;rcases hb with h | h | h | h | h <;> (rw[h];first | exact Nat.le_add_right _ _ | exact Ql _)
 exact I1.uI lH (I1.hok.fresh lH)
open AutoSeq1 (wpAny_loadPart')
noncomputable def eT (b:Bool) (e it l:Addr) (i:Nat) (h:Heap):Prop:=(∃old,IsEnum h e it i old)/\bK b h it l i
end Mx
end
section
namespace MxTim
open PySem PySem.W PyProof.Rows
noncomputable def BW:Bool->Keyed->Array Keyed->Nat->Nat->Nat->StateT SortSt Sem (Option Nat):=sortPriv% PySem.Builtin.gallop
theorem C9 (gf:Bool) (k:Keyed) (xs:Array Keyed) (b m h:Nat):BW gf k xs b m h=(do
 let past (i:Nat):StateT SortSt Sem (Option Bool):=do
  let y<-elem' xs (b + i)
  if gf then lt' y k else return (<-lt' k y).map (!·)
 let mut la:=0
 let mut st:=1
 let mut u:=0
 let mut v:=0
 let some c0<-past h | return none
 if c0 then
  let mx:=m - h
  for _ in [0:m] do
   if st>=mx then break
   let some c1<-past (h + st) | return none
   if !c1 then break
   la:=st
   st:=2 * st + 1
  u:=h + la + 1
  v:=h + min st mx
 else
  let mx:=h + 1
  for _ in [0:m] do
   if st>=mx then break
   let some c1<-past (h - st) | return none
   if c1 then break
   la:=st
   st:=2 * st + 1
  u:=h + 1 - min st mx
  v:=h - la
 for _ in [0:m] do
  if u>=v then break
  let mm:=u + (v - u) / 2
  let some c2<-past mm | return none
  if c2 then u:=mm + 1 else v:=mm
 return some v):=rfl
section
variable {prog:Program} {w:World} {A:Around} {E:Value->Shared->Prop} {κ:SortKind} {s:Shared} {O:KeyOrd} {ky:Keyed->O.α} {Mem:Keyed->Prop}
noncomputable def Tells (prog:Program) (w:World) (A:Around) (κ:SortKind) (s:Shared) (O:KeyOrd) (ky:Keyed->O.α) (Mem:Keyed->Prop):Prop:=
 ∀x y,Mem x->Mem y->∀C:Bool->Shared->Prop,C (O.blt (ky x) (ky y)) s->wpAny (model prog w) A (keyLt' κ x.1 y.1) C (λ_ _=>False) s
theorem oX (T:Tells prog w A κ s O ky Mem) {x y:Keyed} (hx:Mem x) (hy:Mem y) {st:SortSt} (hk:kindOf st=κ) {Q:Option Bool->SortSt->Shared->Prop} (h:Q (some (O.blt (ky x) (ky y))) st s):kasC (model prog w) A E (lt' x y) Q st s:=by rw[lt'_eq];refine Qk (kasC_get ?_);rw[hk];refine Qk (kasC_lift (wpAny_attempt (wpAny_mono (T x y hx hy (λc s'=>Q (some c) st s') h) (λc s' hc=>?_) λ_ _ hF=>hF.elim)));exact Qo hc
theorem aO {xs:Array Keyed} {i:Nat} {x:Keyed} (hx:xs[i]?=some x) {st:SortSt} {Q:Keyed->SortSt->Shared->Prop} (h:Q x st s):kasC (model prog w) A E (elem' xs i) Q st s:=by rw[elem'_eq,hx];exact Qo h
theorem cT {β:Type} {l:List Nat} {b0:β} {f:Nat->β->StateT SortSt Sem (ForInStep β)} {Q:β->SortSt->Shared->Prop} (Inv:Nat->β->SortSt->Prop) {dc:SortSt} (h0:Inv 0 b0 dc)
  (step:∀j b st x,j < l.length->Inv j b st->kasC (model prog w) A E (f x b) (λr ak s'=>s'=s/\match r with | .done b'=>Q b' ak s | .yield b'=>Inv (j + 1) b' ak) st s)
  (fin:∀b st,Inv l.length b st->Q b st s):kasC (model prog w) A E (forIn l b0 f) Q dc s:=by
 have go:∀(l':List Nat) (j:Nat) (b:β) (st:SortSt),j + l'.length=l.length->Inv j b st->kasC (model prog w) A E (forIn l' b f) Q st s:=by
  intro l'
  induction l' with
  | nil=>intro j b st hj hI;simp only[List.length_nil,Nat.add_zero] at hj;subst hj;exact kasC_nil (fin b st hI)
  | cons x l' ih=>
   intro j b st hj hI;simp only[Qy] at hj;refine kasC_cons (wpAny_mono (step j b st x (by lia) hI) (λr s' h'=>?_) λ_ _ e=>e);obtain⟨r,ak⟩:=r;obtain⟨rfl,h'⟩:=h';cases r with
   | done b'=>exact h'
   | yield b'=>exact ih (j + 1) b' ak (by lia) h'
 exact go l 0 b0 dc (by lia) h0
theorem bG {α:Type} {m:StateT SortSt Sem α} {Q Q':α->SortSt->Shared->Prop} {st:SortSt} (h:kasC (model prog w) A E m Q st s) (hq:∀a ak s',Q a ak s'->Q' a ak s'):kasC (model prog w) A E m Q' st s:=by unfold kasC at h ⊢;exact wpAny_mono h (λr s' h'=>hq _ _ _ h') λ_ _ e=>e
noncomputable def dB (O:KeyOrd) (ky:Keyed->O.α) (gf:Bool) (k:Keyed) (g:Nat->Keyed) (i:Nat):Bool:=if gf=true then O.blt (ky (g i)) (ky k) else !O.blt (ky k) (ky (g i))
theorem iU (T:Tells prog w A κ s O ky Mem) {gf:Bool} {k:Keyed} {xs:Array Keyed} {b m h:Nat} (g:Nat->Keyed) (hg:∀i,i < m->xs[b + i]?=some (g i)) (hm:∀i,i < m->Mem (g i)) (hk:Mem k) (hh:h < m)
  (mono:∀i j,i<=j->j < m->dB O ky gf k g j=true->dB O ky gf k g i=true) {st:SortSt} (hs:kindOf st=κ) {Q:Option Nat->SortSt->Shared->Prop}
  (q:∀v,v<=m->(∀i,i < v->dB O ky gf k g i=true)->(∀i,v<=i->i < m->dB O ky gf k g i=false)->Q (some v) st s):kasC (model prog w) A E (BW gf k xs b m h) Q st s:=by
 have past:∀(i:Nat) {R:Option Bool->SortSt->Shared->Prop},i < m->R (some (dB O ky gf k g i)) st s->kasC (model prog w) A E (do
   let y<-elem' xs (b + i)
   if gf=true then lt' y k else do
    let r<-lt' k y
    pure (r.map (!·))) R st s:=λi R hi hR=>by
  refine Qk (aO (hg i hi) ?_);unfold dB at hR;cases gf with
  | true=>rw[if_pos rfl] at hR ⊢;exact oX T (hm i hi) hk hs hR
  | false=>rw[if_neg (by simp)] at hR ⊢;exact Qk (oX T hk (hm i hi) hs (Qo hR))
 have tw:∀i j,i<=j->j < m->dB O ky gf k g i=false->dB O ky gf k g j=false:=λi j fR hj hi=>by
  cases c:dB O ky gf k g j with
  | false=>rfl
  | true=>rw[mono i j fR hj c] at hi;cases hi
 rw[C9];dsimp only;refine Qk (past h hh ?_);dsimp only;cases c0:dB O ky gf k g h with
 | true=>
  rw[if_pos rfl];refine Qk (bG (Q:=λr ak s'=>st=ak/\s=s'/\∃la sp,r=(none,la,sp)/\h + la < m/\la < sp/\dB O ky gf k g (h + la)=true/\∀i,h + min sp (m - h)<=i->i < m->dB O ky gf k g i=false) (kasC_range (cT (λj r ak=>st=ak/\∃la sp,r=(none,la,sp)/\h + la < m/\la < sp/\j + 1<=sp/\dB O ky gf k g (h + la)=true) ⟨rfl,0,1,rfl,by lia,by lia,by lia,c0⟩ (λj r ak x hj hI=>?_) (λr ak hI=>?_))) (λr ak s' hI=>?_))
  ·obtain⟨rfl,la,sp,rfl,sI,nG,G4,hb⟩:=hI;dsimp only;by_cases c:sp>=m - h
   ·rw[if_pos c];exact Qo ⟨rfl,rfl,rfl,la,sp,rfl,sI,nG,hb,λi hi him=>by lia⟩
   ·rw[if_neg c];refine Qk (past _ (by lia) ?_);dsimp only;cases cb:dB O ky gf k g (h + sp) with
    | true=>rw[if_neg (by simp)];exact Qo ⟨rfl,rfl,_,_,rfl,by lia,by lia,by lia,cb⟩
    | false=>rw[if_pos (by simp)];exact Qo ⟨rfl,rfl,rfl,la,sp,rfl,sI,nG,hb,λi hi him=>tw (h + sp) i (by lia) him cb⟩
  ·obtain⟨rfl,la,sp,rfl,sI,nG,G4,hb⟩:=hI;rw[List.length_range'] at G4;exact⟨rfl,rfl,la,sp,rfl,sI,nG,hb,λi hi him=>by lia⟩
  obtain⟨rfl,rfl,la,sp,rfl,sI,nG,hb,zt⟩:=hI;have mJ:∀i,i < h + la + 1->dB O ky gf k g i=true:=λi hi=>mono i _ (by lia) sI hb
  dsimp only;refine Qk (kasC_range (cT (λj r ak=>st=ak/\∃u v,r=(none,u,v)/\v<=m/\u<=v/\v - u + j<=m/\(∀i,i < u->dB O ky gf k g i=true)/\(∀i,v<=i->i < m->dB O ky gf k g i=false)) ⟨rfl,_,_,rfl,by lia,by lia,by lia,mJ,zt⟩ (λj r ak x hj hI=>?_) (λr ak hI=>?_)))
  ·obtain⟨rfl,u,v,rfl,hv,Lf,G5,h1,h2⟩:=hI;dsimp only;by_cases c:u>=v
   ·rw[if_pos c];have e:u=v:=by lia
    subst e;exact Qo ⟨rfl,Qo (q u hv h1 h2)⟩
   ·rw[if_neg c];have ON:u + (v - u) / 2 < v:=by lia
    refine Qk (past _ (by lia) ?_);dsimp only;cases cb:dB O ky gf k g (u + (v - u) / 2) with
    | true=>rw[if_pos rfl];exact Qo ⟨rfl,rfl,_,_,rfl,hv,by lia,by lia,λi hi=>mono i _ (by lia) (by lia) cb,h2⟩
    | false=>rw[if_neg (by simp)];exact Qo ⟨rfl,rfl,_,_,rfl,by lia,by lia,by lia,h1,λi hi him=>tw _ i hi him cb⟩
  ·obtain⟨rfl,u,v,rfl,hv,Lf,G5,h1,h2⟩:=hI;have e:u=v:=by
    rw[List.length_range'] at G5
    lia
   subst e;exact Qo (q u hv h1 h2)
 | false=>
  rw[if_neg (by simp)];refine Qk (bG (Q:=λr ak s'=>st=ak/\s=s'/\∃la sp,r=(none,la,sp)/\la<=h/\la < sp/\dB O ky gf k g (h - la)=false/\∀i,i < h + 1 - min sp (h + 1)->dB O ky gf k g i=true) (kasC_range (cT (λj r ak=>st=ak/\∃la sp,r=(none,la,sp)/\la<=h/\la < sp/\j + 1<=sp/\dB O ky gf k g (h - la)=false) ⟨rfl,0,1,rfl,by lia,by lia,by lia,c0⟩ (λj r ak x hj hI=>?_) (λr ak hI=>?_))) (λr ak s' hI=>?_))
  ·obtain⟨rfl,la,sp,rfl,sI,nG,G4,hb⟩:=hI;dsimp only;by_cases c:sp>=h + 1
   ·rw[if_pos c];exact Qo ⟨rfl,rfl,rfl,la,sp,rfl,sI,nG,hb,λi hi=>by lia⟩
   ·rw[if_neg c];refine Qk (past _ (by lia) ?_);dsimp only;cases cb:dB O ky gf k g (h - sp) with
    | true=>rw[if_pos rfl];exact Qo ⟨rfl,rfl,rfl,la,sp,rfl,sI,nG,hb,λi hi=>mono i (h - sp) (by lia) (by lia) cb⟩
    | false=>rw[if_neg (by simp)];exact Qo ⟨rfl,rfl,_,_,rfl,by lia,by lia,by lia,cb⟩
  ·obtain⟨rfl,la,sp,rfl,sI,nG,G4,hb⟩:=hI;rw[List.length_range'] at G4;exact⟨rfl,rfl,la,sp,rfl,sI,nG,hb,λi hi=>by lia⟩
  obtain⟨rfl,rfl,la,sp,rfl,sI,nG,hb,mJ⟩:=hI;have zt:∀i,h - la<=i->i < m->dB O ky gf k g i=false:=λi hi him=>tw (h - la) i (by lia) him hb
  dsimp only;refine Qk (kasC_range (cT (λj r ak=>st=ak/\∃u v,r=(none,u,v)/\v<=m/\u<=v/\v - u + j<=m/\(∀i,i < u->dB O ky gf k g i=true)/\(∀i,v<=i->i < m->dB O ky gf k g i=false)) ⟨rfl,_,_,rfl,by lia,by lia,by lia,mJ,zt⟩ (λj r ak x hj hI=>?_) (λr ak hI=>?_)))
  ·obtain⟨rfl,u,v,rfl,hv,Lf,G5,h1,h2⟩:=hI;dsimp only;by_cases c:u>=v
   ·rw[if_pos c];have e:u=v:=by lia
    subst e;exact Qo ⟨rfl,Qo (q u hv h1 h2)⟩
   ·rw[if_neg c];have ON:u + (v - u) / 2 < v:=by lia
    refine Qk (past _ (by lia) ?_);dsimp only;cases cb:dB O ky gf k g (u + (v - u) / 2) with
    | true=>rw[if_pos rfl];exact Qo ⟨rfl,rfl,_,_,rfl,hv,by lia,by lia,λi hi=>mono i _ (by lia) (by lia) cb,h2⟩
    | false=>rw[if_neg (by simp)];exact Qo ⟨rfl,rfl,_,_,rfl,by lia,by lia,by lia,h1,λi hi him=>tw _ i hi him cb⟩
  ·obtain⟨rfl,u,v,rfl,hv,Lf,G5,h1,h2⟩:=hI;have e:u=v:=by
    rw[List.length_range'] at G5
    lia
   subst e;exact Qo (q u hv h1 h2)
end
section
variable {O:KeyOrd} {ky:Keyed->O.α}
noncomputable def le (O:KeyOrd) (ky:Keyed->O.α) (x y:Keyed):Prop:=O.kle (ky x) (ky y)
noncomputable def gQ (O:KeyOrd) (ky:Keyed->O.α) (l:List Keyed):Prop:=l.Pairwise (le O ky)
structure MI (O:KeyOrd) (ky:Keyed->O.α) (la lb out:List Keyed) (i j:Nat):Prop where
 p:out.Perm (la.take i++lb.take j)
 s:gQ O ky out
 a:∀x∈out,∀y∈la.drop i,le O ky x y
 b:∀x∈out,∀y∈lb.drop j,le O ky x y
theorem cM {l:List Keyed} {i k:Nat}:l.drop i=(l.drop i).take k++l.drop (i + k):=by rw[<-List.drop_drop,List.take_append_drop]
theorem gI {l:List Keyed} {i k:Nat}:l.take (i + k)=l.take i++(l.drop i).take k:=by rw[List.take_add]
theorem MI.nS {la lb out:List Keyed} {i j k:Nat} (h:MI O ky la lb out i j) (sa:gQ O ky la) (hk:∀x∈(la.drop i).take k,∀y∈lb.drop j,le O ky x y):MI O ky la lb (out++(la.drop i).take k) (i + k) j:=by
 have sd:gQ O ky (la.drop i):=sa.sublist (List.drop_sublist _ _);rw[cM (k:=k)] at sd;obtain⟨s1,s2,s3⟩:=List.pairwise_append.mp sd;have DO:∀y∈(la.drop i).take k,y∈la.drop i:=λy hy=>List.mem_of_mem_take hy
 have uY:∀y∈la.drop (i + k),y∈la.drop i:=λy hy=>by rw[cM (k:=k)];exact QM _ hy
 refine⟨?_,List.pairwise_append.mpr ⟨h.s,s1,λx hx y hy=>h.a x hx y (DO y hy)⟩,λx hx y hy=>?_,λx hx y hy=>?_⟩
 ·rw[gI];refine(h.p.append_right _).trans ?_;rw[Qu,Qu];exact List.Perm.append_left _ List.perm_append_comm
 ·rcases QC.mp hx with hx | hx
  ·exact h.a x hx y (uY y hy)
  ·exact s3 x hx y hy
 ·rcases QC.mp hx with hx | hx
  ·exact h.b x hx y hy
  ·exact hk x hx y hy
theorem MI.nT {la lb out:List Keyed} {i j k:Nat} (h:MI O ky la lb out i j) (sb:gQ O ky lb) (hk:∀x∈(lb.drop j).take k,∀y∈la.drop i,le O ky x y):MI O ky la lb (out++(lb.drop j).take k) i (j + k):=by
 have sd:gQ O ky (lb.drop j):=sb.sublist (List.drop_sublist _ _);rw[cM (k:=k)] at sd;obtain⟨s1,s2,s3⟩:=List.pairwise_append.mp sd;have DO:∀y∈(lb.drop j).take k,y∈lb.drop j:=λy hy=>List.mem_of_mem_take hy
 have uY:∀y∈lb.drop (j + k),y∈lb.drop j:=λy hy=>by rw[cM (k:=k)];exact QM _ hy
 refine⟨?_,List.pairwise_append.mpr ⟨h.s,s1,λx hx y hy=>h.b x hx y (DO y hy)⟩,λx hx y hy=>?_,λx hx y hy=>?_⟩
 ·rw[gI];refine(h.p.append_right _).trans ?_;rw[Qu]
 ·rcases QC.mp hx with hx | hx
  ·exact h.a x hx y hy
  ·exact hk x hx y hy
 ·rcases QC.mp hx with hx | hx
  ·exact h.b x hx y (uY y hy)
  ·exact s3 x hx y hy
noncomputable def qa (O:KeyOrd) (ky:Keyed->O.α) (la lb out:List Keyed):Prop:=out.Perm (la++lb)/\gQ O ky out
theorem MI.sj {la lb out:List Keyed} {i j:Nat} (h:MI O ky la lb out i j) (sa:gQ O ky la) (hj:lb.length<=j):qa O ky la lb (out++la.drop i++lb.drop j):=by have e:lb.drop j=[]:=List.drop_of_length_le hj;have e2:lb.take j=lb:=List.take_of_length_le hj;rw[e,QU];refine⟨?_,List.pairwise_append.mpr ⟨h.s,sa.sublist (List.drop_sublist _ _),h.a⟩⟩;refine(h.p.append_right _).trans ?_;rw[e2,Qu];refine(List.Perm.append_left _ List.perm_append_comm).trans ?_;rw[<-Qu,List.take_append_drop]
theorem MI.Gu {la lb out:List Keyed} {i j:Nat} (h:MI O ky la lb out i j) (sb:gQ O ky lb) (hi:la.length<=i):qa O ky la lb (out++la.drop i++lb.drop j):=by have e:la.drop i=[]:=List.drop_of_length_le hi;have e2:la.take i=la:=List.take_of_length_le hi;rw[e,QU];refine⟨?_,List.pairwise_append.mpr ⟨h.s,sb.sublist (List.drop_sublist _ _),h.b⟩⟩;refine(h.p.append_right _).trans ?_;rw[e2,Qu,List.take_append_drop]
theorem MI.sZ {la lb out:List Keyed} {i j:Nat} (h:MI O ky la lb out i j) (sa:gQ O ky la) (sb:gQ O ky lb) (hl:∀x∈lb.drop j,∀y∈la.drop i,le O ky x y):qa O ky la lb (out++lb.drop j++la.drop i):=by
 refine⟨?_,List.pairwise_append.mpr ⟨List.pairwise_append.mpr ⟨h.s,sb.sublist (List.drop_sublist _ _),h.b⟩,sa.sublist (List.drop_sublist _ _),λx hx y hy=>?_⟩⟩
 ·refine((h.p.append_right _).append_right _).trans ?_;rw[Qu (la.take i),List.take_append_drop];refine(List.perm_append_comm).trans ?_;rw[<-Qu];refine(List.Perm.append_right _ List.perm_append_comm).trans ?_;rw[List.take_append_drop]
 ·rcases QC.mp hx with hx | hx
  ·exact h.a x hx y hy
  ·exact hl x hx y hy
theorem MI.start {la lb:List Keyed}:MI O ky la lb [] 0 0:=⟨by simp,List.Pairwise.nil,λx hx=>absurd hx (by simp),λx hx=>absurd hx (by simp)⟩
end
noncomputable def DQ:Array Keyed->Array Keyed->StateT SortSt Sem (Array Keyed):=sortPriv% PySem.Builtin.mergeLo
noncomputable def setG:Nat->StateT SortSt Sem Unit:=sortPriv% PySem.Builtin.setMinGallop
noncomputable abbrev GS:=Option (Array Keyed)×Array Keyed×Nat×Nat×Nat×Nat×Nat
noncomputable abbrev SS:=Option (Array Keyed)×Array Keyed×Nat×Nat×Nat×Nat
noncomputable abbrev OS:=Option (Array Keyed)×Array Keyed×Nat×Nat×Nat
noncomputable def zB (x y o:Array Keyed) (i j:Nat):Array Keyed:=o++x.extract i x.size++y.extract j y.size
noncomputable def vf (x y o:Array Keyed) (i j:Nat):Array Keyed:=o++y.extract j y.size++x.extract i x.size
noncomputable def Jw (x y o:Array Keyed) (i j mg ca cb:Nat):StateT SortSt Sem (ForInStep GS):=do
 let e<-elem' x i
 if (i + 1 + 1==x.size)=true then pure (.done (some (vf x y (o.push e) (i + 1) j),o.push e,i + 1,j,mg,ca,cb))
 else if (decide (ca < 7)&&decide (cb < 7))=true then pure (.done (none,o.push e,i + 1,j,mg,ca,cb))
 else pure (.yield (none,o.push e,i + 1,j,mg,ca,cb))
noncomputable def Jv (x y o:Array Keyed) (i j mg ca pW:Nat):StateT SortSt Sem (ForInStep GS):=do
 let e<-elem' y j
 if (j + 1==y.size)=true then pure (.done (some (zB x y (o.push e) i (j + 1)),o.push e,i,j + 1,mg,ca,pW))
 else do
  let f<-elem' x i
  let r<-BW true f y (j + 1) (y.size - (j + 1)) 0
  match r with
  | some k=>
   if k > 0 then
    if (j + 1 + k==y.size)=true then pure (.done (some (zB x y (o.push e++y.extract (j + 1) (j + 1 + k)) i (j + 1 + k)),o.push e++y.extract (j + 1) (j + 1 + k),i,j + 1 + k,mg,ca,k))
    else Jw x y (o.push e++y.extract (j + 1) (j + 1 + k)) i (j + 1 + k) mg ca k
   else Jw x y (o.push e) i (j + 1) mg ca k
  | _=>pure (.done (some (zB x y (o.push e) i (j + 1)),o.push e,i,j + 1,mg,ca,pW))
noncomputable def Ju (x y o:Array Keyed) (i j mg Kf pW:Nat):StateT SortSt Sem (ForInStep GS):=do
 setG mg
 let e<-elem' y j
 let r<-BW false e x i (x.size - i) 0
 match r with
 | some k=>
  if k > 0 then
   if (i + k + 1==x.size)=true then pure (.done (some (vf x y (o++x.extract i (i + k)) (i + k) j),o++x.extract i (i + k),i + k,j,mg,k,pW))
   else if (i + k==x.size)=true then pure (.done (some (zB x y (o++x.extract i (i + k)) (i + k) j),o++x.extract i (i + k),i + k,j,mg,k,pW))
   else Jv x y (o++x.extract i (i + k)) (i + k) j mg k pW
  else Jv x y o i j mg k pW
 | _=>pure (.done (some (zB x y o i j),o,i,j,mg,Kf,pW))
noncomputable def FR (x y:Array Keyed) (mg:Nat) (r:SS):StateT SortSt Sem (ForInStep SS):=do
 let e<-elem' y r.2.2.2.1
 let f<-elem' x r.2.2.1
 let c<-lt' e f
 match c with
 | some yw=>
  if yw=true then do
   let e<-elem' y r.2.2.2.1
   if (r.2.2.2.1 + 1==y.size)=true then pure (.done (some (zB x y (r.2.1.push e) r.2.2.1 (r.2.2.2.1 + 1)),r.2.1.push e,r.2.2.1,r.2.2.2.1 + 1,0,r.2.2.2.2.2 + 1))
   else if r.2.2.2.2.2 + 1>=mg then pure (.done (none,r.2.1.push e,r.2.2.1,r.2.2.2.1 + 1,0,r.2.2.2.2.2 + 1))
   else pure (.yield (none,r.2.1.push e,r.2.2.1,r.2.2.2.1 + 1,0,r.2.2.2.2.2 + 1))
  else do
   let f<-elem' x r.2.2.1
   if (r.2.2.1 + 1 + 1==x.size)=true then pure (.done (some (vf x y (r.2.1.push f) (r.2.2.1 + 1) r.2.2.2.1),r.2.1.push f,r.2.2.1 + 1,r.2.2.2.1,r.2.2.2.2.1 + 1,0))
   else if r.2.2.2.2.1 + 1>=mg then pure (.done (none,r.2.1.push f,r.2.2.1 + 1,r.2.2.2.1,r.2.2.2.2.1 + 1,0))
   else pure (.yield (none,r.2.1.push f,r.2.2.1 + 1,r.2.2.2.1,r.2.2.2.2.1 + 1,0))
 | _=>pure (.done (some (zB x y r.2.1 r.2.2.1 r.2.2.2.1),r.2.1,r.2.2.1,r.2.2.2.1,r.2.2.2.2.1,r.2.2.2.2.2))
noncomputable def Ed (x y:Array Keyed) (r:OS):StateT SortSt Sem (ForInStep OS):=do
 let a<-forIn [:x.size + y.size] ((none,r.2.1,r.2.2.1,r.2.2.2.1,0,0):SS) λ_ a=>FR x y r.2.2.2.2 a
 match a.1 with
 | some v=>pure (.done (some v,a.2.1,a.2.2.1,a.2.2.2.1,r.2.2.2.2))
 | none=>do
  rule "list.sort.gallop"
  let b<-forIn [:x.size + y.size] ((none,a.2.1,a.2.2.1,a.2.2.2.1,r.2.2.2.2 + 1,a.2.2.2.2.1,a.2.2.2.2.2):GS) λ_ b=>
   if b.2.2.2.2.1 > 1 then Ju x y b.2.1 b.2.2.1 b.2.2.2.1 (b.2.2.2.2.1 - 1) b.2.2.2.2.2.1 b.2.2.2.2.2.2 else Ju x y b.2.1 b.2.2.1 b.2.2.2.1 b.2.2.2.2.1 b.2.2.2.2.2.1 b.2.2.2.2.2.2
  match b.1 with
  | some v=>pure (.done (some v,b.2.1,b.2.2.1,b.2.2.2.1,b.2.2.2.2.1))
  | none=>do
   setG (b.2.2.2.2.1 + 1)
   pure (.yield (none,b.2.1,b.2.2.1,b.2.2.2.1,b.2.2.2.2.1 + 1))
noncomputable def Nk (x y:Array Keyed):StateT SortSt Sem (Array Keyed):=do
 rule "list.sort.merge-lo"
 let e<-elem' y 0
 if (1==y.size)=true then pure (zB x y #[e] 0 1)
 else if (0 + 1==x.size)=true then pure (vf x y #[e] 0 1)
 else do
  let st<-get
  let r<-forIn [:x.size + y.size] ((none,#[e],0,1,gallopOf st):OS) λ_ r=>Ed x y r
  match r.1 with
  | some a=>pure a
  | none=>unsupported "internal:list.sort.merge-bound"
theorem AU (x y:Array Keyed):DQ x y=Nk x y:=by kernel_rfl
theorem jA (x:Array Keyed) (i:Nat):(x.extract i x.size).toList=x.toList.drop i:=by rw[Array.toList_extract];show (x.toList.drop i).take (x.size - i)=_;exact List.take_of_length_le (by rw[List.length_drop];simp)
theorem j4 (x:Array Keyed) (i k:Nat):(x.extract i (i + k)).toList=(x.toList.drop i).take k:=by rw[Array.toList_extract];show (x.toList.drop i).take (i + k - i)=_;rw[Nat.add_sub_cancel_left]
theorem fE (x y o:Array Keyed) (i j:Nat):(zB x y o i j).toList=o.toList++x.toList.drop i++y.toList.drop j:=by unfold zB;rw[Array.toList_append,Array.toList_append,jA,jA]
theorem fW (x y o:Array Keyed) (i j:Nat):(vf x y o i j).toList=o.toList++y.toList.drop j++x.toList.drop i:=by unfold vf;rw[Array.toList_append,Array.toList_append,jA,jA]
theorem aC {x:Array Keyed} {i:Nat} (h:i < x.size):x[i]?=some (kas_item x i):=by unfold kas_item;simp[Array.getD,h]
theorem take_one {x:Array Keyed} {i:Nat} (h:i < x.size):(x.toList.drop i).take 1=[kas_item x i]:=by have e:x.toList.drop i=x.toList[i]'(by simpa using h)::x.toList.drop (i + 1):=List.drop_eq_getElem_cons (by simpa using h);rw[e];unfold kas_item;simp[Array.getD,h]
theorem fV {x o:Array Keyed} {i:Nat} (h:i < x.size):(o.push (kas_item x i)).toList=o.toList++(x.toList.drop i).take 1:=by rw[take_one h];simp
section
variable {O:KeyOrd} {ky:Keyed->O.α} {Mem:Keyed->Prop}
theorem cz {x:Array Keyed} (sx:gQ O ky x.toList) {i j:Nat} (fR:i<=j) (hj:j < x.size):le O ky (kas_item x i) (kas_item x j):=by
 have e:∀k,(h:k < x.size)->kas_item x k=x.toList[k]'(by simpa using h):=λk h=>by unfold kas_item;simp[Array.getD,h]
 rw[e i (by lia),e j hj];by_cases c:i=j
 ·subst c;exact KeyOrd.kle_refl _
 ·exact List.pairwise_iff_getElem.mp sx i j (by simpa using (show i < x.size by lia)) (by simpa using hj) (by lia)
theorem cv {x:Array Keyed} {i:Nat} {e:Keyed} (h:e∈x.toList.drop i):∃k,i<=k/\k < x.size/\e=kas_item x k:=by
 obtain⟨k,hk,rfl⟩:=List.getElem_of_mem h;rw[List.length_drop] at hk;have zw:i + k < x.size:=by simp at hk;lia
 refine⟨i + k,by lia,zw,?_⟩;rw[List.getElem_drop];unfold kas_item;simp[Array.getD,zw]
theorem aT {x:Array Keyed} {i n:Nat} {e:Keyed} (h:e∈(x.toList.drop i).take n):∃k,i<=k/\k < i + n/\k < x.size/\e=kas_item x k:=by
 obtain⟨k,hk,rfl⟩:=List.getElem_of_mem h;rw[List.length_take,List.length_drop] at hk;have zw:i + k < x.size:=by simp at hk;lia
 refine⟨i + k,by lia,by lia,zw,?_⟩;rw[List.getElem_take,List.getElem_drop];unfold kas_item;simp[Array.getD,zw]
structure MP (O:KeyOrd) (ky:Keyed->O.α) (Mem:Keyed->Prop) (x y:Array Keyed):Prop where
 sa:gQ O ky x.toList
 sb:gQ O ky y.toList
 ma:∀i,i < x.size->Mem (kas_item x i)
 mb:∀i,i < y.size->Mem (kas_item y i)
 pa:1<=x.size
 pb:1<=y.size
 first:O.blt (ky (kas_item y 0)) (ky (kas_item x 0))=true
 last:∀j,j < y.size->O.blt (ky (kas_item y j)) (ky (kas_item x (x.size - 1)))=true
theorem MP.lst {x y:Array Keyed} (h:MP O ky Mem x y) {i j:Nat} (hi:i + 1=x.size):∀e∈y.toList.drop j,∀f∈x.toList.drop i,le O ky e f:=λe he f hf=>by
 obtain⟨k,_,k2,rfl⟩:=cv he;obtain⟨l,l1,l2,rfl⟩:=cv hf;have:l=x.size - 1:=by lia
 subst this;exact KeyOrd.kle_of_klt (h.last k k2)
structure zJ (O:KeyOrd) (ky:Keyed->O.α) (x y o:Array Keyed) (i j:Nat):Prop where
 m:MI O ky x.toList y.toList o.toList i j
 i1:i + 1 < x.size
 j1:j < y.size
noncomputable def GP (O:KeyOrd) (ky:Keyed->O.α) (x y:Array Keyed) (n:Nat) (v:Option (Array Keyed)) (o:Array Keyed) (i j:Nat):Prop:=(∃a,v=some a/\qa O ky x.toList y.toList a.toList)\/(v=none/\zJ O ky x y o i j/\n<=i + j)
noncomputable def SI (dc st:SortSt):Prop:=kindOf st=kindOf dc/\arrOf st=arrOf dc/\pendingOf st=pendingOf dc/\failedOf st=failedOf dc
theorem SI.refl (st:SortSt):SI st st:=⟨rfl,rfl,rfl,rfl⟩
theorem SI.trans {a b c:SortSt} (h:SI a b) (g:SI b c):SI a c:=⟨g.1.trans h.1,g.2.1.trans h.2.1,g.2.2.1.trans h.2.2.1,g.2.2.2.trans h.2.2.2⟩
variable {prog:Program} {w:World} {A:Around} {E:Value->Shared->Prop} {κ:SortKind} {s:Shared}
theorem jN {g:Nat} {st:SortSt} {Q:Unit->SortSt->Shared->Prop} (h:∀ak,SI st ak->Q () ak s):kasC (model prog w) A E (setG g) Q st s:=by
 have e:setG g=modify λt=>SortSt.mk' (kindOf t) (arrOf t) (pendingOf t) g (failedOf t):=by kernel_rfl
 rw[e];exact kasC_modify (h _ ⟨rfl,rfl,rfl,rfl⟩)
noncomputable def vJ (O:KeyOrd) (ky:Keyed->O.α) (x y:Array Keyed) (n:Nat):ForInStep GS->Prop
 | .done r=>GP O ky x y n r.1 r.2.1 r.2.2.1 r.2.2.2.1
 | .yield r=>r.1=none/\GP O ky x y n r.1 r.2.1 r.2.2.1 r.2.2.2.1
theorem xf {x y o:Array Keyed} (M:MP O ky Mem x y) {i j mg ca cb n:Nat} (h:MI O ky x.toList y.toList o.toList i j) (hi:i + 1 < x.size) (hj:j < y.size) (hk:∀l,j<=l->l < y.size->le O ky (kas_item x i) (kas_item y l)) (hn:n<=i + 1 + j) {st:SortSt} {Q:ForInStep GS->SortSt->Shared->Prop}
  (q:∀r,vJ O ky x y n r->Q r st s):kasC (model prog w) A E (Jw x y o i j mg ca cb) Q st s:=by
 unfold Jw;refine Qk (aO (aC (by lia)) ?_);have m1:=h.nS (k:=1) M.sa (λe he f hf=>by
  obtain⟨a,a1,a2,a3,rfl⟩:=aT he;obtain⟨b,b1,b2,rfl⟩:=cv hf;have:a=i:=by lia
  subst this;exact hk b b1 b2)
 rw[<-fV (x:=x) (by lia)] at m1;by_cases c:(i + 1 + 1==x.size)=true
 ·rw[if_pos c];have c':i + 1 + 1=x.size:=by simpa using c
  refine Qo (q _ (.inl ⟨_,rfl,?_⟩));rw[fW];exact m1.sZ M.sa M.sb (M.lst c')
 ·rw[if_neg c];have c':¬i + 1 + 1=x.size:=by simpa using c
  have g:GP O ky x y n none (o.push (kas_item x i)) (i + 1) j:= .inr ⟨rfl,⟨m1,by lia,hj⟩,by lia⟩;by_cases d:(decide (ca < 7)&&decide (cb < 7))=true
  ·rw[if_pos d];exact Qo (q _ g)
  ·rw[if_neg d];exact Qo (q _ ⟨rfl,g⟩)
theorem xc (T:Tells prog w A κ s O ky Mem) {x y o:Array Keyed} (M:MP O ky Mem x y) {i j mg ca cb n:Nat} (h:MI O ky x.toList y.toList o.toList i j) (hi:i + 1 < x.size) (hj:j < y.size) (hk:∀l,i<=l->l < x.size->le O ky (kas_item y j) (kas_item x l)) (hn:n<=i + j + 1) {st:SortSt} (hs:kindOf st=κ)
  {Q:ForInStep GS->SortSt->Shared->Prop} (q:∀r,vJ O ky x y n r->Q r st s):kasC (model prog w) A E (Jv x y o i j mg ca cb) Q st s:=by
 unfold Jv;refine Qk (aO (aC hj) ?_);have m1:=h.nT (k:=1) M.sb (λe he f hf=>by
  obtain⟨a,a1,a2,a3,rfl⟩:=aT he;obtain⟨b,b1,b2,rfl⟩:=cv hf;have:a=j:=by lia
  subst this;exact hk b b1 b2)
 rw[<-fV (x:=y) hj] at m1;by_cases c:(j + 1==y.size)=true
 ·rw[if_pos c];have c':j + 1=y.size:=by simpa using c
  refine Qo (q _ (.inl ⟨_,rfl,?_⟩));rw[fE];exact m1.sj M.sa (by simp;lia)
 ·rw[if_neg c];have c':¬j + 1=y.size:=by simpa using c
  refine Qk (aO (aC (by lia)) (Qk ?_));refine iU T (λt=>kas_item y (j + 1 + t)) (λt ht=>aC (by lia)) (λt ht=>M.mb _ (by lia)) (M.ma i (by lia)) (by lia) (λa b eS hb oG=>?_) hs (λk hk1 cH lH=>?_)
  ·unfold dB at oG ⊢;rw[if_pos rfl] at oG ⊢;have:=cz M.sb (show j + 1 + a<=j + 1 + b by lia) (by lia);exact KeyOrd.klt_of_kle_of_klt this oG
  ·have lo:∀t,t < k->O.blt (ky (kas_item y (j + 1 + t))) (ky (kas_item x i))=true:=λt ht=>by have:=cH t ht;unfold dB at this;rw[if_pos rfl] at this;exact this
   have uN:∀l,j + 1 + k<=l->l < y.size->le O ky (kas_item x i) (kas_item y l):=λl jm fB=>by have z:=lH (l - (j + 1)) (by lia) (by lia);unfold dB at z;rw[if_pos rfl] at z;have z2:O.blt (ky (kas_item y (j + 1 + (l - (j + 1))))) (ky (kas_item x i))=false:=z;rw[show j + 1 + (l - (j + 1))=l by lia] at z2;exact z2
   dsimp only;by_cases k0:k > 0
   ·rw[if_pos k0];have m2:=m1.nT (k:=k) M.sb (λe he f hf=>by
     obtain⟨a,a1,a2,a3,rfl⟩:=aT he;obtain⟨b,b1,b2,rfl⟩:=cv hf;have h1:=lo (a - (j + 1)) (by lia);rw[show j + 1 + (a - (j + 1))=a by lia] at h1;exact QH (KeyOrd.kle_of_klt h1) (cz M.sa b1 b2))
    rw[<-j4,<-Array.toList_append] at m2;by_cases d:(j + 1 + k==y.size)=true
    ·rw[if_pos d];have d':j + 1 + k=y.size:=by simpa using d
     refine Qo (q _ (.inl ⟨_,rfl,?_⟩));rw[fE];exact m2.sj M.sa (by simp;lia)
    ·rw[if_neg d];have d':¬j + 1 + k=y.size:=by simpa using d
     exact xf M m2 hi (by lia) uN (by lia) q
   ·rw[if_neg k0];have:k=0:=by lia
    subst this;exact xf M m1 hi (by lia) uN (by lia) q
theorem xa (T:Tells prog w A κ s O ky Mem) {x y o:Array Keyed} (M:MP O ky Mem x y) {i j mg ca cb n:Nat} (h:zJ O ky x y o i j) (hn:n<=i + j) {dc st:SortSt} (hs:kindOf st=κ) (j9:SI dc st)
  {Q:ForInStep GS->SortSt->Shared->Prop} (q:∀r ak,SI dc ak->vJ O ky x y n r->Q r ak s):kasC (model prog w) A E (Ju x y o i j mg ca cb) Q st s:=by
 unfold Ju;have hi:=h.i1;have hj:=h.j1;refine Qk (jN λnL h1=>?_);have qG:kindOf nL=κ:=h1.1.trans hs;have q':=λr=>q r nL (j9.trans h1)
 refine Qk (aO (aC hj) (Qk ?_));refine iU T (λt=>kas_item x (i + t)) (λt ht=>aC (by lia)) (λt ht=>M.ma _ (by lia)) (M.mb j hj) (by lia) (λa b eS hb oG=>?_) qG (λk hk1 cH lH=>?_)
 ·unfold dB at oG ⊢;rw[if_neg (by simp)] at oG ⊢;have:=cz M.sa (show i + a<=i + b by lia) (by lia);cases z:O.blt (ky (kas_item y j)) (ky (kas_item x (i + a))) with
  | false=>rfl
  | true=>have z2:O.blt (ky (kas_item y j)) (ky (kas_item x (i + b)))=true:=KeyOrd.klt_of_klt_of_kle z this;have xo:(!O.blt (ky (kas_item y j)) (ky (kas_item x (i + b))))=true:=oG;rw[z2] at xo;cases xo
 ·have lo:∀t,t < k->le O ky (kas_item x (i + t)) (kas_item y j):=λt ht=>by have z:=cH t ht;unfold dB at z;rw[if_neg (by simp)] at z;have z2:(!O.blt (ky (kas_item y j)) (ky (kas_item x (i + t))))=true:=z;show O.blt (ky (kas_item y j)) (ky (kas_item x (i + t)))=false;simpa using z2
  have uN:∀l,i + k<=l->l < x.size->le O ky (kas_item y j) (kas_item x l):=λl jm fB=>by
   have z:=lH (l - i) (by lia) (by lia);unfold dB at z;rw[if_neg (by simp)] at z;have z2:(!O.blt (ky (kas_item y j)) (ky (kas_item x (i + (l - i)))))=false:=z;rw[show i + (l - i)=l by lia] at z2;have z3:O.blt (ky (kas_item y j)) (ky (kas_item x l))=true:=by simpa using z2
   exact KeyOrd.kle_of_klt z3
  dsimp only;by_cases k0:k > 0
  ·rw[if_pos k0];have m2:=h.m.nS (k:=k) M.sa (λe he f hf=>by
    obtain⟨a,a1,a2,a3,rfl⟩:=aT he;obtain⟨b,b1,b2,rfl⟩:=cv hf;have h1:=lo (a - i) (by lia);rw[show i + (a - i)=a by lia] at h1;exact QH h1 (cz M.sb b1 b2))
   rw[<-j4,<-Array.toList_append] at m2;by_cases c:(i + k + 1==x.size)=true
   ·rw[if_pos c];have c':i + k + 1=x.size:=by simpa using c
    refine Qo (q' _ (.inl ⟨_,rfl,?_⟩));rw[fW];exact m2.sZ M.sa M.sb (M.lst c')
   ·rw[if_neg c];have c':¬i + k + 1=x.size:=by simpa using c
    by_cases d:(i + k==x.size)=true
    ·rw[if_pos d];have d':i + k=x.size:=by simpa using d
     refine Qo (q' _ (.inl ⟨_,rfl,?_⟩));rw[fE];exact m2.Gu M.sb (by simp;lia)
    ·rw[if_neg d];have d':¬i + k=x.size:=by simpa using d
     exact xc T M m2 (by lia) hj uN (by lia) qG q'
  ·rw[if_neg k0];have:k=0:=by lia
   subst this;exact xc T M h.m hi hj uN (by lia) qG q'
end
section
variable {O:KeyOrd} {ky:Keyed->O.α} {Mem:Keyed->Prop}
variable {prog:Program} {w:World} {A:Around} {E:Value->Shared->Prop} {κ:SortKind} {s:Shared}
noncomputable def SStep (O:KeyOrd) (ky:Keyed->O.α) (x y:Array Keyed) (n:Nat):ForInStep SS->Prop
 | .done r=>GP O ky x y n r.1 r.2.1 r.2.2.1 r.2.2.2.1
 | .yield r=>r.1=none/\GP O ky x y n r.1 r.2.1 r.2.2.1 r.2.2.2.1
theorem GP.none {x y:Array Keyed} {n:Nat} {v:Option (Array Keyed)} {o:Array Keyed} {i j:Nat} (h:GP O ky x y n v o i j) (hv:v=none):zJ O ky x y o i j/\n<=i + j:=by
 rcases h with ⟨a,e,_⟩ | ⟨_,h⟩
 ·rw[hv] at e;cases e
 ·exact h
theorem EW (T:Tells prog w A κ s O ky Mem) {x y:Array Keyed} (M:MP O ky Mem x y) {mg:Nat} {r:SS} (h:zJ O ky x y r.2.1 r.2.2.1 r.2.2.2.1) {n:Nat} (hn:n<=r.2.2.1 + r.2.2.2.1 + 1) {st:SortSt} (hs:kindOf st=κ)
  {Q:ForInStep SS->SortSt->Shared->Prop} (q:∀r',SStep O ky x y n r'->Q r' st s):kasC (model prog w) A E (FR x y mg r) Q st s:=by
 obtain⟨v,o,i,j,ca,cb⟩:=r;have hi:i + 1 < x.size:=h.i1;have hj:j < y.size:=h.j1;have hm:MI O ky x.toList y.toList o.toList i j:=h.m;dsimp only at hn;unfold FR;dsimp only;refine Qk (aO (aC hj) (Qk (aO (aC (by lia)) (Qk (oX T (M.mb j hj) (M.ma i (by lia)) hs ?_)))));dsimp only;cases c:O.blt (ky (kas_item y j)) (ky (kas_item x i)) with
 | true=>
  rw[if_pos rfl];refine Qk (aO (aC hj) ?_);have m1:=hm.nT (k:=1) M.sb (λe he f hf=>by
   obtain⟨a,a1,a2,a3,rfl⟩:=aT he;obtain⟨b,b1,b2,rfl⟩:=cv hf;have:a=j:=by lia
   subst this;exact QH (KeyOrd.kle_of_klt c) (cz M.sa b1 b2))
  rw[<-fV (x:=y) hj] at m1;by_cases d:(j + 1==y.size)=true
  ·rw[if_pos d];have d':j + 1=y.size:=by simpa using d
   refine Qo (q _ (.inl ⟨_,rfl,?_⟩));rw[fE];exact m1.sj M.sa (by simp;lia)
  ·rw[if_neg d];have d':¬j + 1=y.size:=by simpa using d
   have g:GP O ky x y n none (o.push (kas_item y j)) i (j + 1):= .inr ⟨rfl,⟨m1,hi,by lia⟩,by lia⟩;by_cases e:cb + 1>=mg
   ·rw[if_pos e];exact Qo (q _ g)
   ·rw[if_neg e];exact Qo (q _ ⟨rfl,g⟩)
 | false=>
  rw[if_neg (by simp)];refine Qk (aO (aC (by lia)) ?_);have m1:=hm.nS (k:=1) M.sa (λe he f hf=>by
   obtain⟨a,a1,a2,a3,rfl⟩:=aT he;obtain⟨b,b1,b2,rfl⟩:=cv hf;have:a=i:=by lia
   subst this;exact QH (show O.kle (ky (kas_item x a)) (ky (kas_item y j)) from c) (cz M.sb b1 b2))
  rw[<-fV (x:=x) (by lia)] at m1;by_cases d:(i + 1 + 1==x.size)=true
  ·rw[if_pos d];have d':i + 1 + 1=x.size:=by simpa using d
   refine Qo (q _ (.inl ⟨_,rfl,?_⟩));rw[fW];exact m1.sZ M.sa M.sb (M.lst d')
  ·rw[if_neg d];have d':¬i + 1 + 1=x.size:=by simpa using d
   have g:GP O ky x y n none (o.push (kas_item x i)) (i + 1) j:= .inr ⟨rfl,⟨m1,by lia,hj⟩,by lia⟩;by_cases e:ca + 1>=mg
   ·rw[if_pos e];exact Qo (q _ g)
   ·rw[if_neg e];exact Qo (q _ ⟨rfl,g⟩)
noncomputable def F2 (O:KeyOrd) (ky:Keyed->O.α) (x y:Array Keyed) (n:Nat):ForInStep OS->Prop
 | .done r=>∃a,r.1=some a/\qa O ky x.toList y.toList a.toList
 | .yield r=>r.1=none/\zJ O ky x y r.2.1 r.2.2.1 r.2.2.2.1/\n<=r.2.2.1 + r.2.2.2.1
theorem A8 (T:Tells prog w A κ s O ky Mem) {x y:Array Keyed} (M:MP O ky Mem x y) {r:OS} (h:zJ O ky x y r.2.1 r.2.2.1 r.2.2.2.1) {n:Nat} (hn:n<=r.2.2.1 + r.2.2.2.1) {dc st:SortSt} (hs:kindOf st=κ) (j9:SI dc st)
  {Q:ForInStep OS->SortSt->Shared->Prop} (q:∀r' ak,SI dc ak->F2 O ky x y (n + 1) r'->Q r' ak s):kasC (model prog w) A E (Ed x y r) Q st s:=by
 unfold Ed;have hp:=M.pa;refine Qk (bG (Q:=λa ak s'=>st=ak/\s=s'/\GP O ky x y (n + 1) a.1 a.2.1 a.2.2.1 a.2.2.2.1) (kasC_range (cT (λjj a ak=>st=ak/\a.1=none/\zJ O ky x y a.2.1 a.2.2.1 a.2.2.2.1/\n + jj<=a.2.2.1 + a.2.2.2.1) ⟨rfl,rfl,h,by simpa using hn⟩ (λjj a ak z hj hI=>?_) (λa ak hI=>?_))) (λa ak s' hI=>?_))
 ·obtain⟨rfl,a0,CG,an⟩:=hI;refine EW T M CG (n:=n + jj + 1) (by lia) hs (λr' eU=>⟨rfl,?_⟩);cases r' with
  | done b=>
   refine⟨rfl,rfl,?_⟩;rcases eU with ⟨v,e,m⟩ | ⟨e,ok,l⟩
   ·exact .inl ⟨v,e,m⟩
   ·exact .inr ⟨e,ok,by lia⟩
  | yield b=>obtain⟨b0,gb⟩:=eU;obtain⟨ok,l⟩:=gb.none b0;exact⟨rfl,b0,ok,by lia⟩
 ·obtain⟨rfl,a0,CG,an⟩:=hI;rw[List.length_range'] at an;exact⟨rfl,rfl,.inr ⟨a0,CG,by lia⟩⟩
 obtain⟨rfl,rfl,ga⟩:=hI;rcases ga with ⟨v,e,m⟩ | ⟨e,ok,l⟩
 ·rw[e];exact Qo (q _ _ j9 ⟨v,rfl,m⟩)
 ·rw[e];refine Qk (kasC_lift (wpAny_rule ?_));refine Qk (bG (Q:=λb ak s'=>SI dc ak/\s=s'/\GP O ky x y (n + 1) b.1 b.2.1 b.2.2.1 b.2.2.2.1) (kasC_range (cT (λjj b ak=>SI dc ak/\kindOf ak=κ/\b.1=none/\zJ O ky x y b.2.1 b.2.2.1 b.2.2.2.1/\n + 1<=b.2.2.1 + b.2.2.2.1) ⟨j9,hs,rfl,ok,l⟩ (λjj b ak z hj hI=>?_) (λb ak hI=>?_))) (λb ak s' hI=>?_))
  ·obtain⟨si,ks,b0,zV,bn⟩:=hI;have kk:∀dJ,SI dc dJ->kindOf dJ=κ:=λdJ h2=>(h2.1.trans si.1.symm).trans ks
   by_cases c:b.2.2.2.2.1 > 1
   ·rw[if_pos c];refine xa T M zV bn ks si (λr' dJ h2 eU=>⟨rfl,?_⟩);cases r' with
    | done b'=>exact⟨h2,rfl,eU⟩
    | yield b'=>obtain⟨c0,gc⟩:=eU;obtain⟨D3,l'⟩:=gc.none c0;exact⟨h2,kk dJ h2,c0,D3,l'⟩
   ·rw[if_neg c];refine xa T M zV bn ks si (λr' dJ h2 eU=>⟨rfl,?_⟩);cases r' with
    | done b'=>exact⟨h2,rfl,eU⟩
    | yield b'=>obtain⟨c0,gc⟩:=eU;obtain⟨D3,l'⟩:=gc.none c0;exact⟨h2,kk dJ h2,c0,D3,l'⟩
  ·obtain⟨si,ks,b0,zV,bn⟩:=hI;exact⟨si,rfl,.inr ⟨b0,zV,bn⟩⟩
  obtain⟨si,rfl,gb⟩:=hI;rcases gb with ⟨v,e2,m⟩ | ⟨e2,LJ,l2⟩
  ·rw[e2];exact Qo (q _ _ si ⟨v,rfl,m⟩)
  ·rw[e2];exact Qk (jN λdJ h2=>Qo (q _ _ (si.trans h2) ⟨rfl,LJ,l2⟩))
theorem AV (T:Tells prog w A κ s O ky Mem) {x y:Array Keyed} (M:MP O ky Mem x y) {st:SortSt} (hs:kindOf st=κ) {Q:Array Keyed->SortSt->Shared->Prop} (q:∀v ak,SI st ak->qa O ky x.toList y.toList v.toList->Q v ak s):kasC (model prog w) A E (DQ x y) Q st s:=by
 rw[AU];unfold Nk;have hp:=M.pa;have hq:=M.pb;refine Qk (kasC_lift (wpAny_rule ?_));refine Qk (aO (aC (by lia)) ?_);have m1:=(MI.start (O:=O) (ky:=ky) (la:=x.toList) (lb:=y.toList)).nT (k:=1) M.sb (λe he f hf=>by
  obtain⟨a,a1,a2,a3,rfl⟩:=aT he;obtain⟨b,b1,b2,rfl⟩:=cv hf;have:a=0:=by lia
  subst this;exact QH (KeyOrd.kle_of_klt M.first) (cz M.sa (Nat.zero_le b) b2))
 have e0:(#[kas_item y 0]:Array Keyed).toList=[]++(y.toList.drop 0).take 1:=by rw[take_one (by lia)];rfl
 rw[<-e0,Nat.zero_add] at m1;by_cases c:(1==y.size)=true
 ·rw[if_pos c];have c':1=y.size:=by simpa using c
  refine Qo (q _ _ (SI.refl _) ?_);rw[fE];exact m1.sj M.sa (by simp;lia)
 ·rw[if_neg c];have c':¬1=y.size:=by simpa using c
  by_cases d:(0 + 1==x.size)=true
  ·rw[if_pos d];have d':0 + 1=x.size:=by simpa using d
   refine Qo (q _ _ (SI.refl _) ?_);rw[fW];exact m1.sZ M.sa M.sb (M.lst d')
  ·rw[if_neg d];have d':¬0 + 1=x.size:=by simpa using d
   refine Qk (kasC_get ?_);refine Qk (bG (Q:=λr ak s'=>SI st ak/\s=s'/\∃a,r.1=some a/\qa O ky x.toList y.toList a.toList) (kasC_range (cT (λjj r ak=>SI st ak/\r.1=none/\zJ O ky x y r.2.1 r.2.2.1 r.2.2.2.1/\jj + 1<=r.2.2.1 + r.2.2.2.1) ⟨SI.refl _,rfl,⟨m1,(show 0 + 1 < x.size by lia),(show 1 < y.size by lia)⟩,by simp⟩ (λjj r ak z hj hI=>?_) (λr ak hI=>?_))) (λr ak s' hI=>?_))
   ·obtain⟨si,r0,Bt,rn⟩:=hI;refine A8 T M Bt rn (si.1.trans hs) si (λr' dJ h2 eU=>⟨rfl,?_⟩);cases r' with
    | done b=>exact⟨h2,rfl,eU⟩
    | yield b=>exact⟨h2,eU.1,eU.2.1,eU.2.2⟩
   ·obtain⟨si,r0,Bt,rn⟩:=hI;rw[List.length_range'] at rn;have h1:=Bt.i1;have h2:=Bt.j1
    lia
   obtain⟨si,rfl,a,e,m⟩:=hI;rw[e];exact Qo (q _ _ si m)
end
section
variable {O:KeyOrd} {ky:Keyed->O.α}
structure HI (O:KeyOrd) (ky:Keyed->O.α) (la lb R:List Keyed) (i j:Nat):Prop where
 p:R.Perm (la.drop i++lb.drop j)
 s:gQ O ky R
 a:∀x∈la.take i,∀y∈R,le O ky x y
 b:∀x∈lb.take j,∀y∈R,le O ky x y
theorem fI {l:List Keyed} {i k:Nat} (h:k<=i):l.take i=l.take k++(l.drop k).take (i - k):=by have:=gI (l:=l) (i:=k) (k:=i - k);rw[show k + (i - k)=i by lia] at this;exact this
theorem jV {l:List Keyed} {i k:Nat} (h:k<=i):l.drop k=(l.drop k).take (i - k)++l.drop i:=by have:=cM (l:=l) (i:=k) (k:=i - k);rw[show k + (i - k)=i by lia] at this;exact this
theorem HI.nS {la lb R:List Keyed} {i k j:Nat} (h:HI O ky la lb R i j) (hk:k<=i) (sa:gQ O ky la) (hb:∀e∈(la.drop k).take (i - k),∀y∈lb.take j,le O ky y e):HI O ky la lb ((la.drop k).take (i - k)++R) k j:=by
 have st:gQ O ky (la.take i):=sa.sublist (List.take_sublist _ _);rw[fI hk] at st;obtain⟨s1,s2,s3⟩:=List.pairwise_append.mp st;have m1:∀y∈(la.drop k).take (i - k),y∈la.take i:=λy hy=>by rw[fI hk];exact QM _ hy
 have m2:∀y∈la.take k,y∈la.take i:=λy hy=>by rw[fI hk];exact List.mem_append_left _ hy
 refine⟨?_,List.pairwise_append.mpr ⟨s2,h.s,λx hx y hy=>h.a x (m1 x hx) y hy⟩,λx hx y hy=>?_,λx hx y hy=>?_⟩
 ·refine(h.p.append_left _).trans ?_;rw[<-Qu,<-jV (l:=la) hk]
 ·rcases QC.mp hy with hy | hy
  ·exact s3 x hx y hy
  ·exact h.a x (m2 x hx) y hy
 ·rcases QC.mp hy with hy | hy
  ·exact hb y hy x hx
  ·exact h.b x hx y hy
theorem HI.nT {la lb R:List Keyed} {i k j:Nat} (h:HI O ky la lb R i j) (hk:k<=j) (sb:gQ O ky lb) (hb:∀e∈(lb.drop k).take (j - k),∀y∈la.take i,le O ky y e):HI O ky la lb ((lb.drop k).take (j - k)++R) i k:=by
 have st:gQ O ky (lb.take j):=sb.sublist (List.take_sublist _ _);rw[fI hk] at st;obtain⟨s1,s2,s3⟩:=List.pairwise_append.mp st;have m1:∀y∈(lb.drop k).take (j - k),y∈lb.take j:=λy hy=>by rw[fI hk];exact QM _ hy
 have m2:∀y∈lb.take k,y∈lb.take j:=λy hy=>by rw[fI hk];exact List.mem_append_left _ hy
 refine⟨?_,List.pairwise_append.mpr ⟨s2,h.s,λx hx y hy=>h.b x (m1 x hx) y hy⟩,λx hx y hy=>?_,λx hx y hy=>?_⟩
 ·refine(h.p.append_left _).trans ?_;rw[<-Qu];refine(List.Perm.append_right _ List.perm_append_comm).trans ?_;rw[Qu,<-jV (l:=lb) hk]
 ·rcases QC.mp hy with hy | hy
  ·exact hb y hy x hx
  ·exact h.a x hx y hy
 ·rcases QC.mp hy with hy | hy
  ·exact s3 x hx y hy
  ·exact h.b x (m2 x hx) y hy
theorem HI.iT {la lb R:List Keyed} {i j:Nat} (h:HI O ky la lb R i j) (sa:gQ O ky la) (sb:gQ O ky lb) (hf:∀x∈lb.take j,∀y∈la.take i,le O ky x y):qa O ky la lb (lb.take j++la.take i++R):=by
 refine⟨?_,?_⟩
 ·refine(h.p.append_left _).trans ?_;rw[Qu,<-Qu (la.take i),List.take_append_drop];refine(List.perm_append_comm).trans ?_;rw[Qu];refine List.Perm.append_left _ ((List.perm_append_comm).trans ?_);rw[List.take_append_drop]
 ·refine List.pairwise_append.mpr ⟨List.pairwise_append.mpr ⟨sb.sublist (List.take_sublist _ _),sa.sublist (List.take_sublist _ _),hf⟩,h.s,λx hx y hy=>?_⟩;rcases QC.mp hx with hx | hx
  ·exact h.b x hx y hy
  ·exact h.a x hx y hy
theorem HI.sf {la lb R:List Keyed} {j:Nat} (h:HI O ky la lb R 0 j) (sa:gQ O ky la) (sb:gQ O ky lb):qa O ky la lb (la.take 0++lb.take j++R):=by have:=h.iT sa sb (λx hx y hy=>absurd hy (by simp));simpa using this
theorem HI.CW {la lb R:List Keyed} {i:Nat} (h:HI O ky la lb R i 0) (sa:gQ O ky la) (sb:gQ O ky lb):qa O ky la lb (la.take i++lb.take 0++R):=by have:=h.iT sa sb (λx hx y hy=>absurd hx (by simp));simpa using this
theorem HI.start {la lb:List Keyed}:HI O ky la lb [] la.length lb.length:=⟨by simp,List.Pairwise.nil,λx _ y hy=>absurd hy (by simp),λx _ y hy=>absurd hy (by simp)⟩
end
noncomputable def DP:Array Keyed->Array Keyed->StateT SortSt Sem (Array Keyed):=sortPriv% PySem.Builtin.mergeHi
noncomputable abbrev GH:=Option (Array Keyed)×Nat×Nat×Array Keyed×Nat×Nat×Nat
noncomputable abbrev SH:=Option (Array Keyed)×Nat×Nat×Array Keyed×Nat×Nat
noncomputable abbrev OH:=Option (Array Keyed)×Nat×Nat×Array Keyed×Nat
noncomputable def k8 (x y o:Array Keyed) (i j:Nat):Array Keyed:=x.extract 0 i++y.extract 0 j++o.reverse
noncomputable def uJ (x y o:Array Keyed) (i j:Nat):Array Keyed:=y.extract 0 j++x.extract 0 i++o.reverse
noncomputable def FM (x y o:Array Keyed) (i j mg ca cb:Nat):StateT SortSt Sem (ForInStep GH):=do
 let e<-elem' x (i - 1)
 if (i - 1==0)=true then pure (.done (some (k8 x y (o.push e) (i - 1) j),i - 1,j,o.push e,mg,ca,cb))
 else if (decide (ca < 7)&&decide (cb < 7))=true then pure (.done (none,i - 1,j,o.push e,mg,ca,cb))
 else pure (.yield (none,i - 1,j,o.push e,mg,ca,cb))
noncomputable def fB (x y o:Array Keyed) (i j mg ca pW:Nat):StateT SortSt Sem (ForInStep GH):=do
 let e<-elem' y (j - 1)
 if (j - 1==1)=true then pure (.done (some (uJ x y (o.push e) i (j - 1)),i,j - 1,o.push e,mg,ca,pW))
 else do
  let f<-elem' x (i - 1)
  let r<-BW true f y 0 (j - 1) (j - 1 - 1)
  match r with
  | some k=>
   if j - 1 - k > 0 then
    if (k==1)=true then pure (.done (some (uJ x y (o.push e++(y.extract k (j - 1)).reverse) i k),i,k,o.push e++(y.extract k (j - 1)).reverse,mg,ca,j - 1 - k))
    else if (k==0)=true then pure (.done (some (k8 x y (o.push e++(y.extract k (j - 1)).reverse) i k),i,k,o.push e++(y.extract k (j - 1)).reverse,mg,ca,j - 1 - k))
    else FM x y (o.push e++(y.extract k (j - 1)).reverse) i k mg ca (j - 1 - k)
   else FM x y (o.push e) i (j - 1) mg ca (j - 1 - k)
  | _=>pure (.done (some (k8 x y (o.push e) i (j - 1)),i,j - 1,o.push e,mg,ca,pW))
noncomputable def jm (x y o:Array Keyed) (i j mg Kf pW:Nat):StateT SortSt Sem (ForInStep GH):=do
 setG mg
 let e<-elem' y (j - 1)
 let r<-BW false e x 0 i (i - 1)
 match r with
 | some k=>
  if i - k > 0 then
   if (k==0)=true then pure (.done (some (k8 x y (o++(x.extract k i).reverse) k j),k,j,o++(x.extract k i).reverse,mg,i - k,pW))
   else fB x y (o++(x.extract k i).reverse) k j mg (i - k) pW
  else fB x y o i j mg (i - k) pW
 | _=>pure (.done (some (k8 x y o i j),i,j,o,mg,Kf,pW))
noncomputable def Me (x y:Array Keyed) (mg:Nat) (r:SH):StateT SortSt Sem (ForInStep SH):=do
 let e<-elem' y (r.2.2.1 - 1)
 let f<-elem' x (r.2.1 - 1)
 let c<-lt' e f
 match c with
 | some xw=>
  if xw=true then do
   let f<-elem' x (r.2.1 - 1)
   if (r.2.1 - 1==0)=true then pure (.done (some (k8 x y (r.2.2.2.1.push f) (r.2.1 - 1) r.2.2.1),r.2.1 - 1,r.2.2.1,r.2.2.2.1.push f,r.2.2.2.2.1 + 1,0))
   else if r.2.2.2.2.1 + 1>=mg then pure (.done (none,r.2.1 - 1,r.2.2.1,r.2.2.2.1.push f,r.2.2.2.2.1 + 1,0))
   else pure (.yield (none,r.2.1 - 1,r.2.2.1,r.2.2.2.1.push f,r.2.2.2.2.1 + 1,0))
  else do
   let e<-elem' y (r.2.2.1 - 1)
   if (r.2.2.1 - 1==1)=true then pure (.done (some (uJ x y (r.2.2.2.1.push e) r.2.1 (r.2.2.1 - 1)),r.2.1,r.2.2.1 - 1,r.2.2.2.1.push e,0,r.2.2.2.2.2 + 1))
   else if r.2.2.2.2.2 + 1>=mg then pure (.done (none,r.2.1,r.2.2.1 - 1,r.2.2.2.1.push e,0,r.2.2.2.2.2 + 1))
   else pure (.yield (none,r.2.1,r.2.2.1 - 1,r.2.2.2.1.push e,0,r.2.2.2.2.2 + 1))
 | _=>pure (.done (some (k8 x y r.2.2.2.1 r.2.1 r.2.2.1),r.2.1,r.2.2.1,r.2.2.2.1,r.2.2.2.2.1,r.2.2.2.2.2))
noncomputable def Ee (x y:Array Keyed) (r:OH):StateT SortSt Sem (ForInStep OH):=do
 let a<-forIn [:x.size + y.size] ((none,r.2.1,r.2.2.1,r.2.2.2.1,0,0):SH) λ_ a=>Me x y r.2.2.2.2 a
 match a.1 with
 | some v=>pure (.done (some v,a.2.1,a.2.2.1,a.2.2.2.1,r.2.2.2.2))
 | none=>do
  rule "list.sort.gallop"
  let b<-forIn [:x.size + y.size] ((none,a.2.1,a.2.2.1,a.2.2.2.1,r.2.2.2.2 + 1,a.2.2.2.2.1,a.2.2.2.2.2):GH) λ_ b=>
   if b.2.2.2.2.1 > 1 then jm x y b.2.2.2.1 b.2.1 b.2.2.1 (b.2.2.2.2.1 - 1) b.2.2.2.2.2.1 b.2.2.2.2.2.2 else jm x y b.2.2.2.1 b.2.1 b.2.2.1 b.2.2.2.2.1 b.2.2.2.2.2.1 b.2.2.2.2.2.2
  match b.1 with
  | some v=>pure (.done (some v,b.2.1,b.2.2.1,b.2.2.2.1,b.2.2.2.2.1))
  | none=>do
   setG (b.2.2.2.2.1 + 1)
   pure (.yield (none,b.2.1,b.2.2.1,b.2.2.2.1,b.2.2.2.2.1 + 1))
noncomputable def M4 (x y:Array Keyed):StateT SortSt Sem (Array Keyed):=do
 rule "list.sort.merge-hi"
 let e<-elem' x (x.size - 1)
 if (x.size - 1==0)=true then pure (k8 x y #[e] (x.size - 1) y.size)
 else if (y.size==1)=true then pure (uJ x y #[e] (x.size - 1) y.size)
 else do
  let st<-get
  let r<-forIn [:x.size + y.size] ((none,x.size - 1,y.size,#[e],gallopOf st):OH) λ_ r=>Ee x y r
  match r.1 with
  | some a=>pure a
  | none=>unsupported "internal:list.sort.merge-bound"
theorem AR (x y:Array Keyed):DP x y=M4 x y:=by kernel_rfl
theorem mw (x:Array Keyed) (i:Nat):(x.extract 0 i).toList=x.toList.take i:=by rw[Array.toList_extract];show (x.toList.drop 0).take (i - 0)=_;simp
theorem sv (x:Array Keyed) {k i:Nat}:(x.extract k i).toList=(x.toList.drop k).take (i - k):=by rw[Array.toList_extract]
theorem dW (x y o:Array Keyed) (i j:Nat):(k8 x y o i j).toList=x.toList.take i++y.toList.take j++o.toList.reverse:=by unfold k8;rw[Array.toList_append,Array.toList_append,mw,mw,Array.toList_reverse]
theorem fQ (x y o:Array Keyed) (i j:Nat):(uJ x y o i j).toList=y.toList.take j++x.toList.take i++o.toList.reverse:=by unfold uJ;rw[Array.toList_append,Array.toList_append,mw,mw,Array.toList_reverse]
theorem tW (x o:Array Keyed) (k i:Nat):(o++(x.extract k i).reverse).toList.reverse=(x.toList.drop k).take (i - k)++o.toList.reverse:=by rw[Array.toList_append,Array.toList_reverse,List.reverse_append,List.reverse_reverse,sv]
theorem iB {x o:Array Keyed} {i:Nat} (h1:1<=i) (h2:i<=x.size):(o.push (kas_item x (i - 1))).toList.reverse=(x.toList.drop (i - 1)).take (i - (i - 1))++o.toList.reverse:=by rw[show i - (i - 1)=1 by lia,take_one (by lia)];simp
section
variable {O:KeyOrd} {ky:Keyed->O.α} {Mem:Keyed->Prop}
variable {prog:Program} {w:World} {A:Around} {E:Value->Shared->Prop} {κ:SortKind} {s:Shared}
theorem eB {x:Array Keyed} {i:Nat} {e:Keyed} (h:e∈x.toList.take i):∃k,k < i/\k < x.size/\e=kas_item x k:=by
 have h':e∈(x.toList.drop 0).take i:=by simpa using h
 obtain⟨k,_,k1,k2,e⟩:=aT h';exact⟨k,by lia,k2,e⟩
structure zI (O:KeyOrd) (ky:Keyed->O.α) (x y o:Array Keyed) (i j:Nat):Prop where
 m:HI O ky x.toList y.toList o.toList.reverse i j
 i1:1<=i
 i2:i < x.size
 j1:2<=j
 j2:j<=y.size
theorem MP.fst {x y:Array Keyed} (h:MP O ky Mem x y) {i:Nat} (hi:i<=x.size):∀e∈y.toList.take 1,∀f∈x.toList.take i,le O ky e f:=λe he f hf=>by
 obtain⟨k,k1,k2,rfl⟩:=eB he;obtain⟨l,l1,l2,rfl⟩:=eB hf;have:k=0:=by lia
 subst this;exact QH (KeyOrd.kle_of_klt h.first) (cz h.sa (Nat.zero_le l) l2)
noncomputable def HP (O:KeyOrd) (ky:Keyed->O.α) (x y:Array Keyed) (n:Nat) (v:Option (Array Keyed)) (o:Array Keyed) (i j:Nat):Prop:=(∃a,v=some a/\qa O ky x.toList y.toList a.toList)\/(v=none/\zI O ky x y o i j/\i + j + n<=x.size + y.size)
theorem HP.none {x y:Array Keyed} {n:Nat} {v:Option (Array Keyed)} {o:Array Keyed} {i j:Nat} (h:HP O ky x y n v o i j) (hv:v=none):zI O ky x y o i j/\i + j + n<=x.size + y.size:=by
 rcases h with ⟨a,e,_⟩ | ⟨_,h⟩
 ·rw[hv] at e;cases e
 ·exact h
noncomputable def vK (O:KeyOrd) (ky:Keyed->O.α) (x y:Array Keyed) (n:Nat):ForInStep GH->Prop
 | .done r=>HP O ky x y n r.1 r.2.2.2.1 r.2.1 r.2.2.1
 | .yield r=>r.1=none/\HP O ky x y n r.1 r.2.2.2.1 r.2.1 r.2.2.1
theorem xA {x y o:Array Keyed} (M:MP O ky Mem x y) {i j mg ca cb n:Nat} (h:HI O ky x.toList y.toList o.toList.reverse i j) (hi:1<=i) (uN:i < x.size) (hj:2<=j) (Av:j<=y.size) (hk:∀l,l < j->le O ky (kas_item y l) (kas_item x (i - 1))) (hn:i - 1 + j + n<=x.size + y.size) {st:SortSt} {Q:ForInStep GH->SortSt->Shared->Prop}
  (q:∀r,vK O ky x y n r->Q r st s):kasC (model prog w) A E (FM x y o i j mg ca cb) Q st s:=by
 unfold FM;refine Qk (aO (aC (by lia)) ?_);have m1:=h.nS (k:=i - 1) (by lia) M.sa (λe he f hf=>by
  obtain⟨a,a1,a2,a3,rfl⟩:=aT he;obtain⟨b,b1,b2,rfl⟩:=eB hf;have:a=i - 1:=by lia
  subst this;exact hk b b1)
 rw[<-iB (x:=x) hi (by lia)] at m1;by_cases c:(i - 1==0)=true
 ·rw[if_pos c];have c':i - 1=0:=by simpa using c
  refine Qo (q _ (.inl ⟨_,rfl,?_⟩));rw[dW];rw[c'] at m1 ⊢;exact m1.sf M.sa M.sb
 ·rw[if_neg c];have c':¬i - 1=0:=by simpa using c
  have g:HP O ky x y n none (o.push (kas_item x (i - 1))) (i - 1) j:= .inr ⟨rfl,⟨m1,by lia,by lia,hj,Av⟩,by lia⟩;by_cases d:(decide (ca < 7)&&decide (cb < 7))=true
  ·rw[if_pos d];exact Qo (q _ g)
  ·rw[if_neg d];exact Qo (q _ ⟨rfl,g⟩)
theorem xy (T:Tells prog w A κ s O ky Mem) {x y o:Array Keyed} (M:MP O ky Mem x y) {i j mg ca cb n:Nat} (h:HI O ky x.toList y.toList o.toList.reverse i j) (hi:1<=i) (uN:i < x.size) (hj:2<=j) (Av:j<=y.size) (hk:∀l,l < i->le O ky (kas_item x l) (kas_item y (j - 1))) (hn:i + (j - 1) + n<=x.size + y.size) {st:SortSt} (hs:kindOf st=κ)
  {Q:ForInStep GH->SortSt->Shared->Prop} (q:∀r,vK O ky x y n r->Q r st s):kasC (model prog w) A E (fB x y o i j mg ca cb) Q st s:=by
 unfold fB;refine Qk (aO (aC (by lia)) ?_);have m1:=h.nT (k:=j - 1) (by lia) M.sb (λe he f hf=>by
  obtain⟨a,a1,a2,a3,rfl⟩:=aT he;obtain⟨b,b1,b2,rfl⟩:=eB hf;have:a=j - 1:=by lia
  subst this;exact hk b b1)
 rw[<-iB (x:=y) (by lia) Av] at m1;by_cases c:(j - 1==1)=true
 ·rw[if_pos c];have c':j - 1=1:=by simpa using c
  refine Qo (q _ (.inl ⟨_,rfl,?_⟩));rw[fQ];rw[c'] at m1 ⊢;exact m1.iT M.sa M.sb (M.fst (by lia))
 ·rw[if_neg c];have c':¬j - 1=1:=by simpa using c
  refine Qk (aO (aC (by lia)) (Qk ?_));refine iU T (λt=>kas_item y t) (λt ht=>by rw[Nat.zero_add];exact aC (by lia)) (λt ht=>M.mb _ (by lia)) (M.ma (i - 1) (by lia)) (by lia) (λa b eS hb oG=>?_) hs (λk hk1 cH lH=>?_)
  ·unfold dB at oG ⊢;rw[if_pos rfl] at oG ⊢;have:=cz M.sb eS (by lia);exact KeyOrd.klt_of_kle_of_klt this oG
  ·have lo:∀t,t < k->le O ky (kas_item y t) (kas_item x (i - 1)):=λt ht=>by have z:=cH t ht;unfold dB at z;rw[if_pos rfl] at z;exact KeyOrd.kle_of_klt z
   have up:∀t,k<=t->t < j - 1->le O ky (kas_item x (i - 1)) (kas_item y t):=λt h1 h2=>by have z:=lH t h1 h2;unfold dB at z;rw[if_pos rfl] at z;exact z
   dsimp only;by_cases k0:j - 1 - k > 0
   ·rw[if_pos k0];have m2:=m1.nT (k:=k) (by lia) M.sb (λe he f hf=>by
     obtain⟨a,a1,a2,a3,rfl⟩:=aT he;obtain⟨b,b1,b2,rfl⟩:=eB hf;exact QH (cz M.sa (show b<=i - 1 by lia) (by lia)) (up a a1 (by lia)))
    rw[<-tW] at m2;by_cases d:(k==1)=true
    ·rw[if_pos d];have d':k=1:=by simpa using d
     subst d';refine Qo (q _ (.inl ⟨_,rfl,?_⟩));rw[fQ];exact m2.iT M.sa M.sb (M.fst (by lia))
    ·rw[if_neg d];have d':¬k=1:=by simpa using d
     by_cases e:(k==0)=true
     ·rw[if_pos e];have e':k=0:=by simpa using e
      subst e';refine Qo (q _ (.inl ⟨_,rfl,?_⟩));rw[dW];exact m2.CW M.sa M.sb
     ·rw[if_neg e];have e':¬k=0:=by simpa using e
      exact xA M m2 hi uN (by lia) (by lia) lo (by lia) q
   ·rw[if_neg k0];exact xA M m1 hi uN (by lia) (by lia) (λl hl=>lo l (by lia)) (by lia) q
theorem xx (T:Tells prog w A κ s O ky Mem) {x y o:Array Keyed} (M:MP O ky Mem x y) {i j mg ca cb n:Nat} (h:zI O ky x y o i j) (hn:i + j + n<=x.size + y.size) {dc st:SortSt} (hs:kindOf st=κ) (j9:SI dc st)
  {Q:ForInStep GH->SortSt->Shared->Prop} (q:∀r ak,SI dc ak->vK O ky x y n r->Q r ak s):kasC (model prog w) A E (jm x y o i j mg ca cb) Q st s:=by
 unfold jm;have hi:=h.i1;have uN:=h.i2;have hj:=h.j1;have Av:=h.j2;refine Qk (jN λnL h1=>?_);have qG:kindOf nL=κ:=h1.1.trans hs;have q':=λr=>q r nL (j9.trans h1)
 refine Qk (aO (aC (by lia)) (Qk ?_));refine iU T (λt=>kas_item x t) (λt ht=>by rw[Nat.zero_add];exact aC (by lia)) (λt ht=>M.ma _ (by lia)) (M.mb (j - 1) (by lia)) (by lia) (λa b eS hb oG=>?_) qG (λk hk1 cH lH=>?_)
 ·unfold dB at oG ⊢;rw[if_neg (by simp)] at oG ⊢;have:=cz M.sa eS (by lia);cases z:O.blt (ky (kas_item y (j - 1))) (ky (kas_item x a)) with
  | false=>rfl
  | true=>have z2:O.blt (ky (kas_item y (j - 1))) (ky (kas_item x b))=true:=KeyOrd.klt_of_klt_of_kle z this;have xo:(!O.blt (ky (kas_item y (j - 1))) (ky (kas_item x b)))=true:=oG;rw[z2] at xo;cases xo
 ·have lo:∀t,t < k->le O ky (kas_item x t) (kas_item y (j - 1)):=λt ht=>by have z:=cH t ht;unfold dB at z;rw[if_neg (by simp)] at z;have z2:(!O.blt (ky (kas_item y (j - 1))) (ky (kas_item x t)))=true:=z;show O.blt (ky (kas_item y (j - 1))) (ky (kas_item x t))=false;simpa using z2
  have up:∀t,k<=t->t < i->le O ky (kas_item y (j - 1)) (kas_item x t):=λt h1 h2=>by
   have z:=lH t h1 h2;unfold dB at z;rw[if_neg (by simp)] at z;have z2:(!O.blt (ky (kas_item y (j - 1))) (ky (kas_item x t)))=false:=z;have z3:O.blt (ky (kas_item y (j - 1))) (ky (kas_item x t))=true:=by simpa using z2
   exact KeyOrd.kle_of_klt z3
  dsimp only;by_cases k0:i - k > 0
  ·rw[if_pos k0];have m2:=h.m.nS (k:=k) (by lia) M.sa (λe he f hf=>by
    obtain⟨a,a1,a2,a3,rfl⟩:=aT he;obtain⟨b,b1,b2,rfl⟩:=eB hf;exact QH (cz M.sb (show b<=j - 1 by lia) (by lia)) (up a a1 (by lia)))
   rw[<-tW] at m2;by_cases e:(k==0)=true
   ·rw[if_pos e];have e':k=0:=by simpa using e
    subst e';refine Qo (q' _ (.inl ⟨_,rfl,?_⟩));rw[dW];exact m2.sf M.sa M.sb
   ·rw[if_neg e];have e':¬k=0:=by simpa using e
    exact xy T M m2 (by lia) (by lia) hj Av lo (by lia) qG q'
  ·rw[if_neg k0];exact xy T M h.m hi uN hj Av (λl hl=>lo l (by lia)) (by lia) qG q'
noncomputable def ND (O:KeyOrd) (ky:Keyed->O.α) (x y:Array Keyed) (n:Nat):ForInStep SH->Prop
 | .done r=>HP O ky x y n r.1 r.2.2.2.1 r.2.1 r.2.2.1
 | .yield r=>r.1=none/\HP O ky x y n r.1 r.2.2.2.1 r.2.1 r.2.2.1
theorem ET (T:Tells prog w A κ s O ky Mem) {x y:Array Keyed} (M:MP O ky Mem x y) {mg:Nat} {r:SH} (h:zI O ky x y r.2.2.2.1 r.2.1 r.2.2.1) {n:Nat} (hn:r.2.1 + r.2.2.1 + n<=x.size + y.size + 1) {st:SortSt} (hs:kindOf st=κ)
  {Q:ForInStep SH->SortSt->Shared->Prop} (q:∀r',ND O ky x y n r'->Q r' st s):kasC (model prog w) A E (Me x y mg r) Q st s:=by
 obtain⟨v,i,j,o,ca,cb⟩:=r;have hi:1<=i:=h.i1;have uN:i < x.size:=h.i2;have hj:2<=j:=h.j1;have Av:j<=y.size:=h.j2;have hm:HI O ky x.toList y.toList o.toList.reverse i j:=h.m;dsimp only at hn;unfold Me;dsimp only;refine Qk (aO (aC (by lia)) (Qk (aO (aC (by lia)) (Qk (oX T (M.mb (j - 1) (by lia)) (M.ma (i - 1) (by lia)) hs ?_)))));dsimp only;cases c:O.blt (ky (kas_item y (j - 1))) (ky (kas_item x (i - 1))) with
 | true=>
  rw[if_pos rfl];refine Qk (aO (aC (by lia)) ?_);have m1:=hm.nS (k:=i - 1) (by lia) M.sa (λe he f hf=>by
   obtain⟨a,a1,a2,a3,rfl⟩:=aT he;obtain⟨b,b1,b2,rfl⟩:=eB hf;have:a=i - 1:=by lia
   subst this;exact QH (cz M.sb (show b<=j - 1 by lia) (by lia)) (KeyOrd.kle_of_klt c))
  rw[<-iB (x:=x) hi (by lia)] at m1;by_cases d:(i - 1==0)=true
  ·rw[if_pos d];have d':i - 1=0:=by simpa using d
   refine Qo (q _ (.inl ⟨_,rfl,?_⟩));rw[dW];rw[d'] at m1 ⊢;exact m1.sf M.sa M.sb
  ·rw[if_neg d];have d':¬i - 1=0:=by simpa using d
   have g:HP O ky x y n none (o.push (kas_item x (i - 1))) (i - 1) j:= .inr ⟨rfl,⟨m1,by lia,by lia,hj,Av⟩,by lia⟩;by_cases e:ca + 1>=mg
   ·rw[if_pos e];exact Qo (q _ g)
   ·rw[if_neg e];exact Qo (q _ ⟨rfl,g⟩)
 | false=>
  rw[if_neg (by simp)];refine Qk (aO (aC (by lia)) ?_);have m1:=hm.nT (k:=j - 1) (by lia) M.sb (λe he f hf=>by
   obtain⟨a,a1,a2,a3,rfl⟩:=aT he;obtain⟨b,b1,b2,rfl⟩:=eB hf;have:a=j - 1:=by lia
   subst this;exact QH (cz M.sa (show b<=i - 1 by lia) (by lia)) c)
  rw[<-iB (x:=y) (by lia) Av] at m1;by_cases d:(j - 1==1)=true
  ·rw[if_pos d];have d':j - 1=1:=by simpa using d
   refine Qo (q _ (.inl ⟨_,rfl,?_⟩));rw[fQ];rw[d'] at m1 ⊢;exact m1.iT M.sa M.sb (M.fst (by lia))
  ·rw[if_neg d];have d':¬j - 1=1:=by simpa using d
   have g:HP O ky x y n none (o.push (kas_item y (j - 1))) i (j - 1):= .inr ⟨rfl,⟨m1,hi,uN,by lia,by lia⟩,by lia⟩;by_cases e:cb + 1>=mg
   ·rw[if_pos e];exact Qo (q _ g)
   ·rw[if_neg e];exact Qo (q _ ⟨rfl,g⟩)
noncomputable def NC (O:KeyOrd) (ky:Keyed->O.α) (x y:Array Keyed) (n:Nat):ForInStep OH->Prop
 | .done r=>∃a,r.1=some a/\qa O ky x.toList y.toList a.toList
 | .yield r=>r.1=none/\zI O ky x y r.2.2.2.1 r.2.1 r.2.2.1/\r.2.1 + r.2.2.1 + n<=x.size + y.size
theorem A9 (T:Tells prog w A κ s O ky Mem) {x y:Array Keyed} (M:MP O ky Mem x y) {r:OH} (h:zI O ky x y r.2.2.2.1 r.2.1 r.2.2.1) {n:Nat} (hn:r.2.1 + r.2.2.1 + n<=x.size + y.size) {dc st:SortSt} (hs:kindOf st=κ) (j9:SI dc st)
  {Q:ForInStep OH->SortSt->Shared->Prop} (q:∀r' ak,SI dc ak->NC O ky x y (n + 1) r'->Q r' ak s):kasC (model prog w) A E (Ee x y r) Q st s:=by
 unfold Ee;have hp:=M.pa;refine Qk (bG (Q:=λa ak s'=>st=ak/\s=s'/\HP O ky x y (n + 1) a.1 a.2.2.2.1 a.2.1 a.2.2.1) (kasC_range (cT (λjj a ak=>st=ak/\a.1=none/\zI O ky x y a.2.2.2.1 a.2.1 a.2.2.1/\a.2.1 + a.2.2.1 + n + jj<=x.size + y.size) ⟨rfl,rfl,h,by simpa using hn⟩ (λjj a ak z hj hI=>?_) (λa ak hI=>?_))) (λa ak s' hI=>?_))
 ·obtain⟨rfl,a0,CG,an⟩:=hI;refine ET T M CG (n:=n + jj + 1) (by lia) hs (λr' eU=>⟨rfl,?_⟩);cases r' with
  | done b=>
   refine⟨rfl,rfl,?_⟩;rcases eU with ⟨v,e,m⟩ | ⟨e,ok,l⟩
   ·exact .inl ⟨v,e,m⟩
   ·exact .inr ⟨e,ok,by lia⟩
  | yield b=>obtain⟨b0,gb⟩:=eU;obtain⟨ok,l⟩:=gb.none b0;exact⟨rfl,b0,ok,by lia⟩
 ·obtain⟨rfl,a0,CG,an⟩:=hI;rw[List.length_range'] at an;exact⟨rfl,rfl,.inr ⟨a0,CG,by lia⟩⟩
 obtain⟨rfl,rfl,ga⟩:=hI;rcases ga with ⟨v,e,m⟩ | ⟨e,ok,l⟩
 ·rw[e];exact Qo (q _ _ j9 ⟨v,rfl,m⟩)
 ·rw[e];refine Qk (kasC_lift (wpAny_rule ?_));refine Qk (bG (Q:=λb ak s'=>SI dc ak/\s=s'/\HP O ky x y (n + 1) b.1 b.2.2.2.1 b.2.1 b.2.2.1) (kasC_range (cT (λjj b ak=>SI dc ak/\kindOf ak=κ/\b.1=none/\zI O ky x y b.2.2.2.1 b.2.1 b.2.2.1/\b.2.1 + b.2.2.1 + (n + 1)<=x.size + y.size) ⟨j9,hs,rfl,ok,l⟩ (λjj b ak z hj hI=>?_) (λb ak hI=>?_))) (λb ak s' hI=>?_))
  ·obtain⟨si,ks,b0,zV,bn⟩:=hI;have kk:∀dJ,SI dc dJ->kindOf dJ=κ:=λdJ h2=>(h2.1.trans si.1.symm).trans ks
   by_cases c:b.2.2.2.2.1 > 1
   ·rw[if_pos c];refine xx T M zV bn ks si (λr' dJ h2 eU=>⟨rfl,?_⟩);cases r' with
    | done b'=>exact⟨h2,rfl,eU⟩
    | yield b'=>obtain⟨c0,gc⟩:=eU;obtain⟨D3,l'⟩:=gc.none c0;exact⟨h2,kk dJ h2,c0,D3,l'⟩
   ·rw[if_neg c];refine xx T M zV bn ks si (λr' dJ h2 eU=>⟨rfl,?_⟩);cases r' with
    | done b'=>exact⟨h2,rfl,eU⟩
    | yield b'=>obtain⟨c0,gc⟩:=eU;obtain⟨D3,l'⟩:=gc.none c0;exact⟨h2,kk dJ h2,c0,D3,l'⟩
  ·obtain⟨si,ks,b0,zV,bn⟩:=hI;exact⟨si,rfl,.inr ⟨b0,zV,bn⟩⟩
  obtain⟨si,rfl,gb⟩:=hI;rcases gb with ⟨v,e2,m⟩ | ⟨e2,LJ,l2⟩
  ·rw[e2];exact Qo (q _ _ si ⟨v,rfl,m⟩)
  ·rw[e2];exact Qk (jN λdJ h2=>Qo (q _ _ (si.trans h2) ⟨rfl,LJ,l2⟩))
theorem AS (T:Tells prog w A κ s O ky Mem) {x y:Array Keyed} (M:MP O ky Mem x y) {st:SortSt} (hs:kindOf st=κ) {Q:Array Keyed->SortSt->Shared->Prop} (q:∀v ak,SI st ak->qa O ky x.toList y.toList v.toList->Q v ak s):kasC (model prog w) A E (DP x y) Q st s:=by
 rw[AR];unfold M4;have hp:=M.pa;have hq:=M.pb;refine Qk (kasC_lift (wpAny_rule ?_));refine Qk (aO (aC (by lia)) ?_);have m0:=HI.start (O:=O) (ky:=ky) (la:=x.toList) (lb:=y.toList);have lx:x.toList.length=x.size:=by simp
 have ly:y.toList.length=y.size:=by simp
 rw[lx,ly] at m0;have m1:=m0.nS (k:=x.size - 1) (by lia) M.sa (λe he f hf=>by
  obtain⟨a,a1,a2,a3,rfl⟩:=aT he;obtain⟨b,b1,b2,rfl⟩:=eB hf;have:a=x.size - 1:=by lia
  subst this;exact KeyOrd.kle_of_klt (M.last b b2))
 have e0:(#[kas_item x (x.size - 1)]:Array Keyed).toList.reverse=(x.toList.drop (x.size - 1)).take (x.size - (x.size - 1))++[]:=by rw[show x.size - (x.size - 1)=1 by lia,take_one (by lia)];rfl
 rw[<-e0] at m1;by_cases c:(x.size - 1==0)=true
 ·rw[if_pos c];have c':x.size - 1=0:=by simpa using c
  refine Qo (q _ _ (SI.refl _) ?_);rw[dW];rw[c'] at m1 ⊢;exact m1.sf M.sa M.sb
 ·rw[if_neg c];have c':¬x.size - 1=0:=by simpa using c
  by_cases d:(y.size==1)=true
  ·rw[if_pos d];have d':y.size=1:=by simpa using d
   refine Qo (q _ _ (SI.refl _) ?_);rw[fQ];rw[d'] at m1 ⊢;exact m1.iT M.sa M.sb (M.fst (by lia))
  ·rw[if_neg d];have d':¬y.size=1:=by simpa using d
   refine Qk (kasC_get ?_);refine Qk (bG (Q:=λr ak s'=>SI st ak/\s=s'/\∃a,r.1=some a/\qa O ky x.toList y.toList a.toList) (kasC_range (cT (λjj r ak=>SI st ak/\r.1=none/\zI O ky x y r.2.2.2.1 r.2.1 r.2.2.1/\r.2.1 + r.2.2.1 + (jj + 1)<=x.size + y.size) ⟨SI.refl _,rfl,⟨m1,(show 1<=x.size - 1 by lia),(show x.size - 1 < x.size by lia),(show 2<=y.size by lia),Ql _⟩,(show x.size - 1 + y.size + (0 + 1)<=x.size + y.size by lia)⟩ (λjj r ak z hj hI=>?_) (λr ak hI=>?_))) (λr ak s' hI=>?_))
   ·obtain⟨si,r0,Bt,rn⟩:=hI;refine A9 T M Bt rn (si.1.trans hs) si (λr' dJ h2 eU=>⟨rfl,?_⟩);cases r' with
    | done b=>exact⟨h2,rfl,eU⟩
    | yield b=>exact⟨h2,eU.1,eU.2.1,eU.2.2⟩
   ·obtain⟨si,r0,Bt,rn⟩:=hI;rw[List.length_range'] at rn;have h1:=Bt.i1;have h2:=Bt.j1
    lia
   obtain⟨si,rfl,a,e,m⟩:=hI;rw[e];exact Qo (q _ _ si m)
end
noncomputable def Hu:Nat->StateT SortSt Sem Bool:=sortPriv% PySem.Builtin.mergeAt
noncomputable def back (M:Array Keyed) (p:Nat) (a:Array Keyed):Array Keyed:=M.toList.zipIdx.foldl (λb (q,j)=>b.setIfInBounds (p + j) q) a
theorem DM (i:Nat):Hu i=(do
 let t<-get
 let (some (p,n,pw),some (q,m,_)):=((pendingOf t)[i]?,(pendingOf t)[i + 1]?) | unsupported "internal:list.sort.pending"
 set (SortSt.mk' (kindOf t) (arrOf t) (((pendingOf t).setIfInBounds i (p,n + m,pw)).eraseIdxIfInBounds (i + 1)) (gallopOf t) (failedOf t))
 let some k<-BW false (<-elem' (arrOf t) q) (arrOf t) p n 0 | return false
 let (p,n):=(p + k,n - k)
 if n==0 then return true
 let some m<-BW true (<-elem' (arrOf t) (p + n - 1)) (arrOf t) q m (m - 1) | return false
 if m==0 then return true
 let x:=(arrOf t).extract p q
 let y:=(arrOf t).extract q (q + m)
 let M<-if n<=m then DQ x y else DP x y
 modify λt=>SortSt.mk' (kindOf t) (back M p (arrOf t)) (pendingOf t) (gallopOf t) (failedOf t)
 return (failedOf (<-get)).isNone):=by kernel_rfl
theorem lu:∀(M:List Keyed) (p c:Nat) (a:Array Keyed),p + c + M.length<=a.size->((M.zipIdx c).foldl (λb (q:Keyed×Nat)=>b.setIfInBounds (p + q.2) q.1) a).toList=a.toList.take (p + c)++M++a.toList.drop (p + c + M.length)
 | [],p,c,a,h=>by simp
 | e::M,p,c,a,h=>by
  rw[List.zipIdx_cons,List.foldl_cons];simp only[Qy] at h;have ih:=lu M p (c + 1) (a.setIfInBounds (p + c) e) (by rw[Array.size_setIfInBounds];lia);rw[ih];have hs:(a.setIfInBounds (p + c) e).toList=a.toList.take (p + c)++[e]++a.toList.drop (p + c + 1):=by rw[Array.toList_setIfInBounds];rw[List.set_eq_take_append_cons_drop];rw[if_pos (by simp;lia)];simp
  have hl:(a.toList.take (p + c)++[e]).length=p + c + 1:=by simp;lia
  rw[hs];have e1:(a.toList.take (p + c)++[e]++a.toList.drop (p + c + 1)).take (p + (c + 1))=a.toList.take (p + c)++[e]:=by rw[show p + (c + 1)=(a.toList.take (p + c)++[e]).length by lia,List.take_left]
  have e2:(a.toList.take (p + c)++[e]++a.toList.drop (p + c + 1)).drop (p + (c + 1) + M.length)=a.toList.drop (p + c + (e::M).length):=by
   rw[show p + (c + 1) + M.length=(a.toList.take (p + c)++[e]).length + M.length by lia,List.drop_append,List.drop_of_length_le (Nat.le_add_right _ _),List.nil_append,Nat.add_sub_cancel_left,List.drop_drop];congr 1;simp only[Qy]
   lia
  rw[e1,e2];simp
section
variable {O:KeyOrd} {ky:Keyed->O.α} {Mem:Keyed->Prop}
variable {prog:Program} {w:World} {A:Around} {E:Value->Shared->Prop} {κ:SortKind} {s:Shared}
theorem xK {t st:SortSt} {Q:PUnit->SortSt->Shared->Prop} (h:Q ⟨⟩ t s):kasC (model prog w) A E (set t:StateT SortSt Sem PUnit) Q st s:=by unfold kasC;rw[StateT.run_set];exact Qe h
theorem er (n1 n2 pw z:Nat):((#[(0,n1,pw),(n1,n2,z)]:Array (Nat×Nat×Nat)).setIfInBounds 0 (0,n1 + n2,pw)).eraseIdxIfInBounds (0 + 1)=#[(0,n1 + n2,pw)]:=by simp[Array.eraseIdxIfInBounds]
end
noncomputable def aL (lo n m:Nat):StateT SortSt Sem AscSt:=
 forIn [n:m] ((none,n):AscSt) λ_ r=>do
  let x<-ltAt' (lo + r.2) (lo + r.2 - 1)
  match x with
  | some c=>if c=true then pure (.done (none,r.2)) else pure (.yield (none,r.2 + 1))
  | _=>pure (.done (some none,r.2))
noncomputable def t3 (lo n m:Nat):StateT SortSt Sem (Option Nat):=do
 reverseSlice' lo (lo + n)
 let r<-aL lo n m
 match r.1 with
 | some v=>pure v
 | none=>pure (some r.2)
noncomputable def dL (lo n m:Nat):StateT SortSt Sem DescSt:=
 forIn [n:m] ((none,n,0):DescSt) λ_ r=>do
  let x<-ltAt' (lo + r.2.1) (lo + r.2.1 - 1)
  match x with
  | some c=>
   if c=true then
    if r.2.2 > 0 then do
     reverseSlice' (lo + r.2.1 - (r.2.2 + 1)) (lo + r.2.1)
     pure (.yield (none,r.2.1 + 1,0))
    else pure (.yield (none,r.2.1 + 1,0))
   else do
    let y<-ltAt' (lo + r.2.1 - 1) (lo + r.2.1)
    match y with
    | some d=>if d=true then pure (.done (none,r.2.1,r.2.2)) else pure (.yield (none,r.2.1 + 1,r.2.2 + 1))
    | _=>pure (.done (some none,r.2.1,r.2.2))
  | _=>pure (.done (some none,r.2.1,r.2.2))
noncomputable def dP (lo n m:Nat):StateT SortSt Sem (Option Nat):=do
 rule "list.sort.descending-run"
 let r<-dL lo (n + 1) m
 match r.1 with
 | some v=>pure v
 | none=>
  if r.2.2 > 0 then do
   reverseSlice' (lo + r.2.1 - (r.2.2 + 1)) (lo + r.2.1)
   t3 lo r.2.1 m
  else t3 lo r.2.1 m
noncomputable def cR (lo m:Nat):StateT SortSt Sem (Option Nat):=do
 let r<-aL lo 1 m
 match r.1 with
 | some v=>pure v
 | none=>
  if (r.2==m)=true then pure (some r.2)
  else if r.2 > 1 then do
   let x<-ltAt' lo (lo + r.2 - 1)
   match x with
   | some c=>if c=true then pure (some r.2) else do
     reverseSlice' lo (lo + r.2)
     dP lo r.2 m
   | _=>pure none
  else dP lo r.2 m
theorem Gh (lo m:Nat):countRun' lo m=cR lo m:=by kernel_rfl
noncomputable def pL (lo k:Nat):StateT SortSt Sem (Option Bool×Nat×Nat):=
 forIn [:k] ((none,0,k):Option Bool×Nat×Nat) λ_ r=>
  if r.2.1>=r.2.2 then pure (.done (none,r.2.1,r.2.2)) else do
   let x<-ltAt' (lo + k) (lo + (r.2.1 + r.2.2) / 2)
   match x with
   | some c=>if c=true then pure (.yield (none,r.2.1,(r.2.1 + r.2.2) / 2)) else pure (.yield (none,(r.2.1 + r.2.2) / 2 + 1,r.2.2))
   | _=>pure (.done (some false,r.2.1,r.2.2))
noncomputable def bS (lo n ok:Nat):StateT SortSt Sem Bool:=do
 let r<-forIn [max ok 1:n] ((none,()):Option Bool×Unit) λk _=>do
  let r<-pL lo k
  match r.1 with
  | some v=>pure (.done (some v,()))
  | none=>do
   moveDown' (lo + k) (lo + r.2.1)
   pure (.yield (none,()))
 match r.1 with
 | some v=>pure v
 | none=>pure true
theorem Gb (lo n ok:Nat):binarySort' lo n ok=bS lo n ok:=by kernel_rfl
section
variable {O:KeyOrd} {ky:Keyed->O.α} {Mem:Keyed->Prop}
variable {prog:Program} {w:World} {A:Around} {E:Value->Shared->Prop} {κ:SortKind} {s:Shared}
theorem dq {β:Type} {a b:Nat} {b0:β} {f:Nat->β->StateT SortSt Sem (ForInStep β)} {Q:β->SortSt->Shared->Prop} (Inv:Nat->β->SortSt->Prop) {dc:SortSt} (h0:Inv a b0 dc)
  (step:∀x c st,a<=x->x < b->Inv x c st->kasC (model prog w) A E (f x c) (λr ak s'=>s'=s/\match r with | .done b'=>Q b' ak s | .yield b'=>Inv (x + 1) b' ak) st s)
  (fin:∀c st,Inv (max a b) c st->Q c st s):kasC (model prog w) A E (forIn [a:b] b0 f) Q dc s:=by
 have go:∀(n x:Nat) (c:β) (st:SortSt),x + n=max a b->a<=x->Inv x c st->kasC (model prog w) A E (forIn (List.range' x n) c f) Q st s:=by
  intro n
  induction n with
  | zero=>
   intro x c st hx hax hI;have e:x=max a b:=by lia
   subst e;exact kasC_nil (fin c st hI)
  | succ n ih=>
   intro x c st hx hax hI;rw[List.range'_succ];refine kasC_cons (wpAny_mono (step x c st hax (by lia) hI) (λr s' h'=>?_) λ_ _ e=>e);obtain⟨r,ak⟩:=r;obtain⟨rfl,h'⟩:=h';cases r with
   | done b'=>exact h'
   | yield b'=>exact ih (x + 1) b' ak (by lia) (by lia) h'
 exact kasC_range (go (b - a) a b0 dc (by lia) (Ql _) h0)
structure Bs (κ:SortKind) (P:Array (Nat×Nat×Nat)) (lo:Nat) (b:Array Keyed) (st:SortSt):Prop where
 k:kindOf st=κ
 f:failedOf st=none
 p:pendingOf st=P
 pm:(arrOf st).toList.Perm b.toList
 lw:∀i,i < lo->kas_item (arrOf st) i=kas_item b i
variable {P:Array (Nat×Nat×Nat)} {lo:Nat} {b:Array Keyed}
theorem Bs.size {st:SortSt} (h:Bs κ P lo b st):(arrOf st).size=b.size:=by have:=h.pm.length_eq;simpa using this
theorem Bs.mem {st:SortSt} (h:Bs κ P lo b st) (hb:∀x∈b.toList,Mem x) {i:Nat} (hi:i < b.size):Mem (kas_item (arrOf st) i):=by
 have FL:i < (arrOf st).size:=by rw[h.size];exact hi
 refine hb _ (h.pm.mem_iff.mp ?_);have e:kas_item (arrOf st) i=(arrOf st)[i]:=by unfold kas_item;simp[Array.getD,FL]
 rw[e];simp
theorem hJ {p q:Array Keyed} {i j:Nat} (h:p[i]?=q[j]?):kas_item p i=kas_item q j:=by unfold kas_item;rw[Array.getD_eq_getD_getElem?,Array.getD_eq_getD_getElem?,h]
theorem hU {a:Array Keyed} {i j:Nat} (hj:j<=a.size) (k:Nat):kas_item (mirror a i j ((j - i) / 2)) k=if i<=k/\k < j then kas_item a (i + j - 1 - k) else kas_item a k:=by
 have e:=getElem?_mirror_all (i:=i) hj k;by_cases h1:i<=k/\k < j
 ·rw[if_pos h1] at e ⊢;exact hJ e
 ·rw[if_neg h1] at e ⊢;exact hJ e
theorem kc {a:Array Keyed} {src d:Nat} (hs:src < a.size) (hd:d<=src) (k:Nat):
  kas_item (bubble a src d) k=if k=src - d then kas_item a src else if src - d < k/\k<=src then kas_item a (k - 1) else kas_item a k:=by
 have e:=getElem?_bubble hs d hd k;by_cases h1:k=src - d
 ·rw[if_pos h1] at e ⊢;exact hJ e
 ·rw[if_neg h1] at e ⊢;by_cases h2:src - d < k/\k<=src
  ·rw[if_pos h2] at e ⊢;exact hJ e
  ·rw[if_neg h2] at e ⊢;exact hJ e
theorem Bs.rev {st:SortSt} (h:Bs κ P lo b st) {i j:Nat} (hi:lo<=i) (hj:j<=b.size):Bs κ P lo b (setArr st (mirror (arrOf st) i j ((j - i) / 2))):=
 ⟨h.k,h.f,h.p,(Array.perm_iff_toList_perm.mp (mirror_perm _ _ _ _)).trans h.pm,λk hk=>by
  have:=hU (a:=arrOf st) (i:=i) (j:=j) (by rw[h.size];exact hj) k;rw[if_neg (by lia)] at this;exact this.trans (h.lw k hk)⟩
theorem Bs.NK {st:SortSt} (h:Bs κ P lo b st) {c d:Nat} (hs:c < b.size) (hd:lo + d<=c):Bs κ P lo b (setArr st (bubble (arrOf st) c d)):=
 ⟨h.k,h.f,h.p,(Array.perm_iff_toList_perm.mp (bubble_perm _ _ _)).trans h.pm,λk hk=>by
  have:=kc (a:=arrOf st) (src:=c) (d:=d) (by rw[h.size];exact hs) (by lia) k;rw[if_neg (by lia),if_neg (by lia)] at this;exact this.trans (h.lw k hk)⟩
theorem ie (T:Tells prog w A κ s O ky Mem) (hb:∀x∈b.toList,Mem x) {st:SortSt} (h:Bs κ P lo b st) {i j:Nat} (hi:i < b.size) (hj:j < b.size) {Q:Option Bool->SortSt->Shared->Prop}
  (q:Q (some (O.blt (ky (kas_item (arrOf st) i)) (ky (kas_item (arrOf st) j)))) st s):kasC (model prog w) A E (ltAt' i j) Q st s:=by
 rw[ltAt'_eq];refine Qk (kasC_get ?_);dsimp only;exact Qk (aO (aC (by rw[h.size];exact hi)) (Qk (aO (aC (by rw[h.size];exact hj)) (oX T (h.mem hb hi) (h.mem hb hj) h.k q))))
noncomputable def Up (O:KeyOrd) (ky:Keyed->O.α) (lo:Nat) (a:Array Keyed) (n:Nat):Prop:=∀i j,lo<=i->i<=j->j < lo + n->O.kle (ky (kas_item a i)) (ky (kas_item a j))
noncomputable def Dn (O:KeyOrd) (ky:Keyed->O.α) (lo:Nat) (a:Array Keyed) (n:Nat):Prop:=∀i j,lo<=i->i<=j->j < lo + n->O.kle (ky (kas_item a j)) (ky (kas_item a i))
noncomputable def JW (O:KeyOrd) (ky:Keyed->O.α) (lo:Nat) (a:Array Keyed) (n q:Nat):Prop:=∀k,lo + n - (q + 1)<=k->k < lo + n->ky (kas_item a k)=ky (kas_item a (lo + n - 1))
theorem Up.succ {a:Array Keyed} {n:Nat} (h:Up O ky lo a n) (h1:1<=n) (h2:O.kle (ky (kas_item a (lo + n - 1))) (ky (kas_item a (lo + n)))):Up O ky lo a (n + 1):=λi j hi fR hj=>by
 by_cases e:j=lo + n
 ·subst e;by_cases e2:i=lo + n
  ·subst e2;exact KeyOrd.kle_refl _
  ·exact QH (h i (lo + n - 1) hi (by lia) (by lia)) h2
 ·exact h i j hi fR (by lia)
theorem Dn.succ {a:Array Keyed} {n:Nat} (h:Dn O ky lo a n) (h1:1<=n) (h2:O.kle (ky (kas_item a (lo + n))) (ky (kas_item a (lo + n - 1)))):Dn O ky lo a (n + 1):=λi j hi fR hj=>by
 by_cases e:j=lo + n
 ·subst e;by_cases e2:i=lo + n
  ·subst e2;exact KeyOrd.kle_refl _
  ·exact QH h2 (h i (lo + n - 1) hi (by lia) (by lia))
 ·exact h i j hi fR (by lia)
theorem Dn.of {a c:Array Keyed} {n:Nat} (e:∀k,ky (kas_item c k)=ky (kas_item a k)) (h:Dn O ky lo a n):Dn O ky lo c n:=λi j x y z=>by rw[e,e];exact h i j x y z
theorem Up.one (a:Array Keyed):Up O ky lo a 1:=λi j x y z=>by rw[show i=j by lia];exact KeyOrd.kle_refl _
theorem Dn.one (a:Array Keyed):Dn O ky lo a 1:=λi j x y z=>by rw[show i=j by lia];exact KeyOrd.kle_refl _
theorem wF {a:Array Keyed} {i j:Nat} (hj:j<=a.size) (he:∀k,i<=k->k < j->ky (kas_item a k)=ky (kas_item a (j - 1))) (k:Nat):ky (kas_item (mirror a i j ((j - i) / 2)) k)=ky (kas_item a k):=by
 rw[hU hj];split
 ·rename_i h;rw[he (i + j - 1 - k) (by lia) (by lia),he k h.1 h.2]
 ·rfl
theorem yZ {a:Array Keyed} {n:Nat} (hn:lo + n<=a.size) (h:Dn O ky lo a n):Up O ky lo (mirror a lo (lo + n) ((lo + n - lo) / 2)) n:=λi j hi fR hj=>by rw[hU hn,hU hn,if_pos (by lia),if_pos (by lia)];exact h _ _ (by lia) (by lia) (by lia)
theorem BM (T:Tells prog w A κ s O ky Mem) (hb:∀x∈b.toList,Mem x) {st:SortSt} (h:Bs κ P lo b st) {n m:Nat} (hz:lo + m<=b.size) (h1:1<=n) (hn:n<=m) (hu:Up O ky lo (arrOf st) n) {Q:AscSt->SortSt->Shared->Prop}
  (q:∀k,n<=k->k<=m->Up O ky lo (arrOf st) k->(k < m->O.blt (ky (kas_item (arrOf st) (lo + k))) (ky (kas_item (arrOf st) (lo + k - 1)))=true)->Q (none,k) st s):kasC (model prog w) A E (aL lo n m) Q st s:=by
 unfold aL;refine dq (λx r ak=>st=ak/\r=(none,x)/\Up O ky lo (arrOf st) x) ⟨rfl,rfl,hu⟩ (λx r ak hx1 AC hI=>?_) (λr ak hI=>?_)
 ·obtain⟨rfl,rfl,hu⟩:=hI;dsimp only;refine Qk (ie T hb h (by lia) (by lia) ?_);dsimp only;cases c:O.blt (ky (kas_item (arrOf st) (lo + x))) (ky (kas_item (arrOf st) (lo + x - 1))) with
  | true=>rw[if_pos rfl];exact Qo ⟨rfl,q x hx1 (by lia) hu λ_=>c⟩
  | false=>rw[if_neg (by simp)];exact Qo ⟨rfl,rfl,rfl,hu.succ (by lia) c⟩
 ·obtain⟨rfl,rfl,hu⟩:=hI;rw[show max n m=m by lia] at hu ⊢;exact q m hn (Ql _) hu λz=>absurd z (by lia)
theorem ng {i j:Nat} {st:SortSt} {Q:Unit->SortSt->Shared->Prop} (q:Q () (setArr st (mirror (arrOf st) i j ((j - i) / 2))) s):kasC (model prog w) A E (reverseSlice' i j) Q st s:=by rw[reverseSlice'_eq];exact kasC_modify q
theorem Gp (T:Tells prog w A κ s O ky Mem) (hb:∀x∈b.toList,Mem x) {st:SortSt} (h:Bs κ P lo b st) {n m:Nat} (hz:lo + m<=b.size) (h1:1<=n) (hn:n<=m) (hd:Dn O ky lo (arrOf st) n) {Q:DescSt->SortSt->Shared->Prop}
  (q:∀ak k e,Bs κ P lo b ak->n<=k->k<=m->e + 1<=k->Dn O ky lo (arrOf ak) k->JW O ky lo (arrOf ak) k e->Q (none,k,e) ak s):kasC (model prog w) A E (dL lo n m) Q st s:=by
 unfold dL;have one:∀(a:Array Keyed) (k:Nat),1<=k->JW O ky lo a k 0:=λa k hk j x y=>by rw[show j=lo + k - 1 by lia]
 refine dq (λx r ak=>∃e,r=(none,x,e)/\Bs κ P lo b ak/\e + 1<=x/\Dn O ky lo (arrOf ak) x/\JW O ky lo (arrOf ak) x e) ⟨0,rfl,h,by lia,hd,one _ _ h1⟩ (λx r ak hx1 AC hI=>?_) (λr ak hI=>?_)
 ·obtain⟨e,rfl,h,he,hd,hq⟩:=hI;have gM:=h.size;dsimp only;refine Qk (ie T hb h (by lia) (by lia) ?_);dsimp only;cases c:O.blt (ky (kas_item (arrOf ak) (lo + x))) (ky (kas_item (arrOf ak) (lo + x - 1))) with
  | true=>
   rw[if_pos rfl];have oM:=hd.succ (by lia) (KeyOrd.kle_of_klt c);by_cases d:e > 0
   ·rw[if_pos d];refine Qk (ng (Qo ⟨rfl,0,rfl,h.rev (by lia) (by lia),by lia,?_,one _ _ (by lia)⟩));exact Dn.of (wF (by lia) hq) oM
   ·rw[if_neg d];exact Qo ⟨rfl,0,rfl,h,by lia,oM,one _ _ (by lia)⟩
  | false=>
   rw[if_neg (by simp)];refine Qk (ie T hb h (by lia) (by lia) ?_);dsimp only;cases d:O.blt (ky (kas_item (arrOf ak) (lo + x - 1))) (ky (kas_item (arrOf ak) (lo + x))) with
   | true=>rw[if_pos rfl];exact Qo ⟨rfl,q ak x e h hx1 (by lia) he hd hq⟩
   | false=>
    rw[if_neg (by simp)];have heq:ky (kas_item (arrOf ak) (lo + x))=ky (kas_item (arrOf ak) (lo + x - 1)):=O.total _ _ c d;refine Qo ⟨rfl,e + 1,rfl,h,by lia,hd.succ (by lia) (by rw[heq];exact KeyOrd.kle_refl _),λk k1 k2=>?_⟩;rw[show lo + (x + 1) - 1=lo + x by lia];by_cases z:k=lo + x
    ·rw[z]
    ·rw[hq k (by lia) (by lia),heq]
 ·obtain⟨e,rfl,h,he,hd,hq⟩:=hI;rw[show max n m=m by lia] at hd hq he ⊢;exact q ak m e h hn (Ql _) he hd hq
theorem Cn (T:Tells prog w A κ s O ky Mem) (hb:∀x∈b.toList,Mem x) {st:SortSt} (h:Bs κ P lo b st) {n m:Nat} (hz:lo + m<=b.size) (h1:1<=n) (hn:n<=m) (hd:Dn O ky lo (arrOf st) n) {Q:Option Nat->SortSt->Shared->Prop}
  (q:∀ak k,Bs κ P lo b ak->1<=k->k<=m->Up O ky lo (arrOf ak) k->Q (some k) ak s):kasC (model prog w) A E (t3 lo n m) Q st s:=by
 unfold t3;have gM:=h.size;refine Qk (ng (Qk (BM T hb (h.rev (Ql _) (by lia)) hz h1 hn (yZ (by lia) hd) λk k1 k2 ku _=>?_)));exact Qo (q _ k (h.rev (Ql _) (by lia)) (by lia) k2 ku)
theorem BS (T:Tells prog w A κ s O ky Mem) (hb:∀x∈b.toList,Mem x) {st:SortSt} (h:Bs κ P lo b st) {n m:Nat} (hz:lo + m<=b.size) (h1:1<=n) (hn:n + 1<=m) (hd:Dn O ky lo (arrOf st) (n + 1)) {Q:Option Nat->SortSt->Shared->Prop}
  (q:∀ak k,Bs κ P lo b ak->1<=k->k<=m->Up O ky lo (arrOf ak) k->Q (some k) ak s):kasC (model prog w) A E (dP lo n m) Q st s:=by
 unfold dP;refine Qk (kasC_lift (wpAny_rule ?_));refine Qk (Gp T hb h hz (by lia) hn hd λak k e h' k1 k2 ke kd kq=>?_);dsimp only;have gM:=h'.size;by_cases d:e > 0
 ·rw[if_pos d];exact Qk (ng (Cn T hb (h'.rev (by lia) (by lia)) hz (by lia) k2 (Dn.of (wF (by lia) kq) kd) q))
 ·rw[if_neg d];exact Cn T hb h' hz (by lia) k2 kd q
theorem Gi (T:Tells prog w A κ s O ky Mem) (hb:∀x∈b.toList,Mem x) {st:SortSt} (h:Bs κ P lo b st) {m:Nat} (hz:lo + m<=b.size) (h1:1<=m) {Q:Option Nat->SortSt->Shared->Prop}
  (q:∀ak k,Bs κ P lo b ak->1<=k->k<=m->Up O ky lo (arrOf ak) k->Q (some k) ak s):kasC (model prog w) A E (countRun' lo m) Q st s:=by
 rw[Gh];unfold cR;have gM:=h.size;refine Qk (BM T hb h hz (Ql _) h1 (Up.one _) λn n1 n2 nu nl=>?_);dsimp only;by_cases e:(n==m)=true
 ·rw[if_pos e];exact Qo (q _ n h n1 n2 nu)
 ·rw[if_neg e];have e':n≠m:=by simpa using e
  have cH:=nl (by lia);by_cases hn:n > 1
  ·rw[if_pos hn];refine Qk (ie T hb h (by lia) (by lia) ?_);dsimp only;cases c:O.blt (ky (kas_item (arrOf st) lo)) (ky (kas_item (arrOf st) (lo + n - 1))) with
   | true=>rw[if_pos rfl];exact Qo (q _ n h n1 n2 nu)
   | false=>
    rw[if_neg (by simp)];have all:∀k,lo<=k->k < lo + n->ky (kas_item (arrOf st) k)=ky (kas_item (arrOf st) (lo + n - 1)):=λk k1 k2=>by refine KeyOrd.kle_antisymm (nu k (lo + n - 1) k1 (by lia) (by lia)) (QH (show O.kle (ky (kas_item (arrOf st) (lo + n - 1))) (ky (kas_item (arrOf st) lo)) from c) (nu lo k (Ql _) k1 k2))
    refine Qk (ng (BS T hb (h.rev (Ql _) (by lia)) hz n1 (by lia) (Dn.of (wF (by lia) all) (Dn.succ (λi j hi fR hj=>?_) n1 (KeyOrd.kle_of_klt cH))) q));rw[all i hi (by lia),all j (by lia) hj];exact KeyOrd.kle_refl _
  ·rw[if_neg hn];have e1:n=1:=by lia
   subst e1;exact BS T hb h hz n1 (by lia) (Dn.succ (Dn.one _) n1 (KeyOrd.kle_of_klt cH)) q
theorem HM (T:Tells prog w A κ s O ky Mem) (hb:∀x∈b.toList,Mem x) {st:SortSt} (h:Bs κ P lo b st) {k:Nat} (hz:lo + k < b.size) (hu:Up O ky lo (arrOf st) k) {Q:Option Bool×Nat×Nat->SortSt->Shared->Prop}
  (q:∀l r,l<=k->(∀i,lo<=i->i < lo + l->O.kle (ky (kas_item (arrOf st) i)) (ky (kas_item (arrOf st) (lo + k))))->(∀i,lo + l<=i->i < lo + k->O.klt (ky (kas_item (arrOf st) (lo + k))) (ky (kas_item (arrOf st) i)))->Q (none,l,r) st s):kasC (model prog w) A E (pL lo k) Q st s:=by
 unfold pL;refine dq (λx c ak=>st=ak/\∃l r,c=(none,l,r)/\l<=r/\r<=k/\r - l<=k - x/\(∀i,lo<=i->i < lo + l->O.kle (ky (kas_item (arrOf st) i)) (ky (kas_item (arrOf st) (lo + k))))/\(∀i,lo + r<=i->i < lo + k->O.klt (ky (kas_item (arrOf st) (lo + k))) (ky (kas_item (arrOf st) i))))
  ⟨rfl,0,k,rfl,by lia,by lia,by lia,λi a c=>absurd a (by lia),λi a c=>absurd a (by lia)⟩ (λx r ak hx1 AC hI=>?_) (λr ak hI=>?_)
 ·obtain⟨rfl,l,r,rfl,lr,rk,rl,mJ,zt⟩:=hI;dsimp only;by_cases c:l>=r
  ·rw[if_pos c];have e:l=r:=by lia
   subst e;exact Qo ⟨rfl,q l l rk mJ zt⟩
  ·rw[if_neg c];refine Qk (ie T hb h (by lia) (by lia) ?_);dsimp only;cases d:O.blt (ky (kas_item (arrOf st) (lo + k))) (ky (kas_item (arrOf st) (lo + (l + r) / 2))) with
   | true=>rw[if_pos rfl];exact Qo ⟨rfl,rfl,l,(l + r) / 2,rfl,by lia,by lia,by lia,mJ,λi i1 i2=>KeyOrd.klt_of_klt_of_kle d (hu _ _ (by lia) i1 i2)⟩
   | false=>rw[if_neg (by simp)];exact Qo ⟨rfl,rfl,(l + r) / 2 + 1,r,rfl,by lia,by lia,by lia,λi i1 i2=>QH (hu i (lo + (l + r) / 2) i1 (by lia) (by lia)) d,zt⟩
 ·obtain⟨rfl,l,r,rfl,lr,rk,rl,mJ,zt⟩:=hI;have e:l=r:=by lia
  subst e;exact q l l rk mJ zt
theorem Gc (T:Tells prog w A κ s O ky Mem) (hb:∀x∈b.toList,Mem x) {st:SortSt} (h:Bs κ P lo b st) {n k:Nat} (hz:lo + n<=b.size) (h1:1<=k) (hk:k<=n) (hu:Up O ky lo (arrOf st) k) {Q:Bool->SortSt->Shared->Prop}
  (q:∀ak,Bs κ P lo b ak->Up O ky lo (arrOf ak) n->Q true ak s):kasC (model prog w) A E (binarySort' lo n k) Q st s:=by
 rw[Gb];unfold bS;refine Qk (dq (λx c ak=>c=(none,())/\Bs κ P lo b ak/\Up O ky lo (arrOf ak) x) ⟨rfl,h,by rw[show max k 1=k by lia];exact hu⟩ (λx r ak hx1 AC hI=>?_) (λr ak hI=>?_))
 ·obtain⟨rfl,h,hu⟩:=hI;have gM:=h.size;refine Qk (HM T hb h (by lia) hu λl r hl mJ zt=>?_);dsimp only;rw[moveDown'_eq];refine Qk (kasC_modify (Qo ⟨rfl,rfl,h.NK (by lia) (by lia),λi j hi fR hj=>?_⟩));show O.kle (ky (kas_item (bubble (arrOf ak) (lo + x) (lo + x - (lo + l))) i)) (ky (kas_item (bubble (arrOf ak) (lo + x) (lo + x - (lo + l))) j));rw[kc (by lia) (by lia),kc (by lia) (by lia),show lo + x - (lo + x - (lo + l))=lo + l by lia]
  repeat' split
  all_goals first
   | (exfalso;lia)
   | exact KeyOrd.kle_refl _
   | exact mJ _ (by lia) (by lia)
   | exact KeyOrd.kle_of_klt (zt _ (by lia) (by lia))
   | exact hu _ _ (by lia) (by lia) (by lia)
 ·obtain⟨rfl,h,hu⟩:=hI;rw[show max (max k 1) n=n by lia] at hu;exact Qo (q _ h hu)
end
noncomputable def LM (size pw:Nat):StateT SortSt Sem (Option Unit×Unit):=
 forIn [:size] ((none,()):Option Unit×Unit) λ_ _=>do
  let st<-get
  match (if (pendingOf st).size > 1 then(pendingOf st)[(pendingOf st).size - 2]? else none) with
  | some (_,_,older)=>
   if older<=pw then pure (.done (none,())) else do
    let ok<-Hu ((pendingOf st).size - 2)
    if (!ok)=true then pure (.done (some (),())) else pure (.yield (none,()))
  | _=>pure (.done (none,()))
noncomputable def Jo (size lo n:Nat):StateT SortSt Sem (ForInStep (Option Unit×Nat)):=do
 let st<-get
 match (pendingOf st).back? with
 | some (s1,n1,_)=>do
  let r<-LM size (power' size (2 * s1 + n1) (2 * s1 + n1 + n1 + n) size)
  match r.1 with
  | some v=>pure (.done (some v,lo))
  | none=>do
   modify λs=>setPending s ((pendingOf s).modify ((pendingOf s).size - 1) λ(st,len,_)=>(st,len,power' size (2 * s1 + n1) (2 * s1 + n1 + n1 + n) size))
   modify λs=>setPending s ((pendingOf s).push (lo,n,0))
   pure (.yield (none,lo + n))
 | _=>do
  modify λs=>setPending s ((pendingOf s).push (lo,n,0))
  pure (.yield (none,lo + n))
noncomputable def IE (size mr lo:Nat):StateT SortSt Sem (ForInStep (Option Unit×Nat)):=
 if lo>=size then pure (.done (none,lo)) else do
  let f<-countRun' lo (size - lo)
  match f with
  | some n=>
   if n < mr then do
    rule "list.sort.binary-insertion"
    let ok<-binarySort' lo (min (size - lo) mr) n
    if (!ok)=true then pure (.done (some (),lo)) else Jo size lo (min (size - lo) mr)
   else Jo size lo n
  | _=>pure (.done (some (),lo))
noncomputable def ix (p:Array (Nat×Nat×Nat)):Nat:=if (if p.size - 2 > 0 then p[p.size - 2 - 1]?.map (·.2.1) else none).any (· < (p[p.size - 2 + 1]?.elim 0 (·.2.1))) then p.size - 2 - 1 else p.size - 2
noncomputable def JE (size:Nat):StateT SortSt Sem (Option Unit×Unit):=
 forIn [:size] ((none,()):Option Unit×Unit) λ_ _=>do
  let st<-get
  if (pendingOf st).size<=1 then pure (.done (none,())) else do
   let ok<-Hu (ix (pendingOf st))
   if (!ok)=true then pure (.done (some (),())) else pure (.yield (none,()))
noncomputable def sR:StateT SortSt Sem Unit:=do
 let st<-get
 let r<-forIn [:(arrOf st).size] ((none,0):Option Unit×Nat) λ_ r=>IE (arrOf st).size (minRun' (arrOf st).size (arrOf st).size 0) r.2
 match r.1 with
 | some v=>pure v
 | none=>do
  let r<-JE (arrOf st).size
  match r.1 with
  | some v=>pure v
  | none=>pure ()
theorem Ic:sortRuns'=sR:=by kernel_rfl
section
variable {O:KeyOrd} {ky:Keyed->O.α} {Mem:Keyed->Prop}
variable {prog:Program} {w:World} {A:Around} {E:Value->Shared->Prop} {κ:SortKind} {s:Shared} {a:Array Keyed}
theorem Up.ID {b:Array Keyed} {n:Nat} (hn:b.size=n) (h:Up O ky 0 b n):gQ O ky b.toList:=by
 refine List.pairwise_iff_getElem.mpr λi j hi hj fR=>?_
 have e:∀k,(h:k < b.size)->kas_item b k=b.toList[k]'(by simpa using h):=λk h=>by unfold kas_item;simp[Array.getD,h]
 have zv:j < b.size:=by simpa using hj
 rw[<-e i (by lia),<-e j zv];exact h i j (by lia) (by lia) (by lia)
end
section
variable {O:KeyOrd} {ky:Keyed->O.α} {Mem:Keyed->Prop}
variable {prog:Program} {w:World} {A:Around} {E:Value->Shared->Prop} {κ:SortKind} {s:Shared}
theorem item_list (b:Array Keyed) (t:Nat):kas_item b t=b.toList.getD t (Value.none,Value.none):=by unfold kas_item;simp[Array.getD,List.getD];split <;> simp_all
theorem EY {l:List Keyed} (h:gQ O ky l) {i j:Nat} (fR:i<=j) (hj:j < l.length):le O ky (l.getD i (Value.none,Value.none)) (l.getD j (Value.none,Value.none)):=by
 rcases Nat.lt_or_ge i j with c | c
 ·have:=List.pairwise_iff_getElem.mp h i j (by lia) hj c;rw[List.getD_eq_getElem?_getD,List.getD_eq_getElem?_getD,QE hj,QE (by lia)];exact this
 ·have e:i=j:=by lia
  subst e;exact KeyOrd.kle_refl _
theorem w5 {l m:List Keyed} {d:Keyed} {i:Nat} (h:i < l.length):(l++m).getD i d=l.getD i d:=by rw[List.getD_eq_getElem?_getD,List.getD_eq_getElem?_getD,QW h]
theorem w6 {l m:List Keyed} {d:Keyed} {i:Nat} (h:l.length<=i):(l++m).getD i d=m.getD (i - l.length) d:=by rw[List.getD_eq_getElem?_getD,List.getD_eq_getElem?_getD,QX h]
theorem Lw (T:Tells prog w A κ s O ky Mem) {a:Array Keyed} {P:Array (Nat×Nat×Nat)} {i p n1 n2 pw z g:Nat} (Oe:P[i]?=some (p,n1,pw)) (KI:P[i + 1]?=some (p + n1,n2,z)) (gM:p + n1 + n2<=a.size) (h1:1<=n1) (h2:1<=n2) (hm:∀i,i < a.size->Mem (kas_item a i))
  (sA:∀i j,p<=i->i<=j->j < p + n1->le O ky (kas_item a i) (kas_item a j)) (sB:∀i j,p + n1<=i->i<=j->j < p + n1 + n2->le O ky (kas_item a i) (kas_item a j))
  {Q:Bool->SortSt->Shared->Prop} (q:∀ak:SortSt,kindOf ak=κ->pendingOf ak=(P.setIfInBounds i (p,n1 + n2,pw)).eraseIdxIfInBounds (i + 1)->failedOf ak=none->(arrOf ak).toList.Perm a.toList->Up O ky p (arrOf ak) (n1 + n2)->
   (∀t,t < p\/p + n1 + n2<=t->kas_item (arrOf ak) t=kas_item a t)->Q true ak s):
  kasC (model prog w) A E (Hu i) Q (SortSt.mk' κ a P g none) s:=by
 rw[DM];refine Qk (kasC_get ?_);dsimp only;have e0:(pendingOf (SortSt.mk' κ a P g none))[i]?=some (p,n1,pw):=Oe;have e1:(pendingOf (SortSt.mk' κ a P g none))[i + 1]?=some (p + n1,n2,z):=KI;rw[e0,e1];dsimp only;refine Qk (xK ?_);refine Qk (aO (aC (x:=a) (show p + n1 < a.size by lia)) (Qk ?_));refine iU T (λt=>kas_item a (p + t)) (λt ht=>aC (x:=a) (by lia)) (λt ht=>hm _ (by lia)) (hm (p + n1) (by lia)) (by lia) (λi j fR hj hb=>?_) rfl (λk hk1 cH lH=>?_)
 ·unfold dB at hb ⊢;rw[if_neg (by simp)] at hb ⊢;have:=sA (p + i) (p + j) (by lia) (by lia) (by lia);cases zz:O.blt (ky (kas_item a (p + n1))) (ky (kas_item a (p + i))) with
  | false=>rfl
  | true=>have z2:O.blt (ky (kas_item a (p + n1))) (ky (kas_item a (p + j)))=true:=KeyOrd.klt_of_klt_of_kle zz this;have nF:(!O.blt (ky (kas_item a (p + n1))) (ky (kas_item a (p + j))))=true:=hb;rw[z2] at nF;cases nF
 have lo:∀t,p<=t->t < p + k->le O ky (kas_item a t) (kas_item a (p + n1)):=λt h0 ht=>by have zz:=cH (t - p) (by lia);unfold dB at zz;rw[if_neg (by simp)] at zz;have z2:(!O.blt (ky (kas_item a (p + n1))) (ky (kas_item a (p + (t - p)))))=true:=zz;rw[show p + (t - p)=t by lia] at z2;show O.blt (ky (kas_item a (p + n1))) (ky (kas_item a t))=false;simpa using z2
 have up:∀t,p + k<=t->t < p + n1->O.blt (ky (kas_item a (p + n1))) (ky (kas_item a t))=true:=λt h1 h2=>by have zz:=lH (t - p) (by lia) (by lia);unfold dB at zz;rw[if_neg (by simp)] at zz;have z2:(!O.blt (ky (kas_item a (p + n1))) (ky (kas_item a (p + (t - p)))))=false:=zz;rw[show p + (t - p)=t by lia] at z2;simpa using z2
 have yO:∀b:Array Keyed,(∀i j,i < j->j < b.size->le O ky (kas_item b i) (kas_item b j))->gQ O ky b.toList:=λb hb=>by
  refine List.pairwise_iff_getElem.mpr λi j hi hj fR=>?_
  have e:∀k,(h:k < b.size)->kas_item b k=b.toList[k]'(by simpa using h):=λk h=>by unfold kas_item;simp[Array.getD,h]
  rw[<-e i (by simpa using hi),<-e j (by simpa using hj)];exact hb i j fR (by simpa using hj)
 dsimp only;by_cases c:(n1 - k==0)=true
 ·rw[if_pos c];have c':n1 - k=0:=by simpa using c
  refine Qo (q _ rfl rfl rfl (List.Perm.refl _) (λi j hi fR hj=>?_) λt _=>rfl);by_cases ci:j < p + n1
  ·exact sA i j hi fR ci
  ·by_cases cj:i < p + n1
   ·exact QH (lo i hi (by lia)) (sB (p + n1) j (Ql _) (by lia) (by lia))
   ·exact sB i j (by lia) (by lia) (by lia)
 ·rw[if_neg c];have c':¬n1 - k=0:=by simpa using c
  refine Qk (aO (aC (x:=a) (show p + k + (n1 - k) - 1 < a.size by lia)) (Qk ?_));have el:p + k + (n1 - k) - 1=p + n1 - 1:=by lia
  refine iU T (λt=>kas_item a (p + n1 + t)) (λt ht=>aC (x:=a) (by lia)) (λt ht=>hm _ (by lia)) (hm _ (by lia)) (by lia) (λi j fR hj hb=>?_) rfl (λm hm1 hmlt hmge=>?_)
  ·unfold dB at hb ⊢;rw[if_pos rfl] at hb ⊢;exact KeyOrd.klt_of_kle_of_klt (sB (p + n1 + i) (p + n1 + j) (by lia) (by lia) (by lia)) hb
  have NJ:∀t,p + n1<=t->t < p + n1 + m->O.blt (ky (kas_item a t)) (ky (kas_item a (p + n1 - 1)))=true:=λt h1 h2=>by have zz:=hmlt (t - (p + n1)) (by lia);unfold dB at zz;rw[if_pos rfl,el] at zz;have z2:O.blt (ky (kas_item a (p + n1 + (t - (p + n1))))) (ky (kas_item a (p + n1 - 1)))=true:=zz;rw[show p + n1 + (t - (p + n1))=t by lia] at z2;exact z2
  have MD:∀t,p + n1 + m<=t->t < p + n1 + n2->le O ky (kas_item a (p + n1 - 1)) (kas_item a t):=λt h1 h2=>by have zz:=hmge (t - (p + n1)) (by lia) (by lia);unfold dB at zz;rw[if_pos rfl,el] at zz;have z2:O.blt (ky (kas_item a (p + n1 + (t - (p + n1))))) (ky (kas_item a (p + n1 - 1)))=false:=zz;rw[show p + n1 + (t - (p + n1))=t by lia] at z2;exact z2
  have m0:m≠0:=λe=>by have z1:=MD (p + n1) (by lia) (by lia);have z2:=up (p + n1 - 1) (by lia) (by lia);exact KeyOrd.not_klt_of_kle z1 z2
  dsimp only;rw[if_neg (by simpa using m0)];have gx:∀t,t < n1 - k->kas_item (a.extract (p + k) (p + n1)) t=kas_item a (p + k + t):=λt ht=>by unfold kas_item;simp[Array.getD,show t < p + n1 - (p + k) by lia,show p + k + t < a.size by lia,show min (p + n1) a.size=p + n1 by lia]
  have gy:∀t,t < m->kas_item (a.extract (p + n1) (p + n1 + m)) t=kas_item a (p + n1 + t):=λt ht=>by unfold kas_item;simp[Array.getD,show p + n1 + t < a.size by lia,show min (p + n1 + m) a.size=p + n1 + m by lia,ht]
  have sx:(a.extract (p + k) (p + n1)).size=n1 - k:=by simp;lia
  have sy:(a.extract (p + n1) (p + n1 + m)).size=m:=by simp;lia
  have MM:MP O ky Mem (a.extract (p + k) (p + n1)) (a.extract (p + n1) (p + n1 + m)):=by
   refine⟨yO _ λi j fR hj=>?_,yO _ λi j fR hj=>?_,λi hi=>?_,λi hi=>?_,by lia,by lia,?_,λj hj=>?_⟩
   ·rw[gx i (by lia),gx j (by lia)];exact sA _ _ (by lia) (by lia) (by lia)
   ·rw[gy i (by lia),gy j (by lia)];exact sB _ _ (by lia) (by lia) (by lia)
   ·rw[gx i (by lia)];exact hm _ (by lia)
   ·rw[gy i (by lia)];exact hm _ (by lia)
   ·rw[gx 0 (by lia),gy 0 (by lia)];exact up (p + k) (Ql _) (by lia)
   ·rw[sx,gx (n1 - k - 1) (by lia),gy j (by lia),show p + k + (n1 - k - 1)=p + n1 - 1 by lia];exact NJ _ (by lia) (by lia)
  have lx:(a.extract (p + k) (p + n1)).toList=(a.toList.drop (p + k)).take (n1 - k):=by have:=sv a (k:=p + k) (i:=p + n1);rw[show p + n1 - (p + k)=n1 - k by lia] at this;exact this
  have ly:(a.extract (p + n1) (p + n1 + m)).toList=(a.toList.drop (p + n1)).take m:=j4 a (p + n1) m;have fin:∀(v:Array Keyed) (ak:SortSt),kindOf ak=κ->arrOf ak=a->pendingOf ak=(P.setIfInBounds i (p,n1 + n2,pw)).eraseIdxIfInBounds (i + 1)->failedOf ak=none->qa O ky (a.extract (p + k) (p + n1)).toList (a.extract (p + n1) (p + n1 + m)).toList v.toList->
    kasC (model prog w) A E (do
     modify λt=>SortSt.mk' (kindOf t) (back v (p + k) (arrOf t)) (pendingOf t) (gallopOf t) (failedOf t)
     let t<-get
     pure (failedOf t).isNone) Q ak s:=λv ak k1 k2 k3 k4 hv=>by
   refine Qk (kasC_modify (Qk (kasC_get (Qo ?_))));obtain⟨vp,vs⟩:=hv;have vl:v.toList.length=n1 - k + m:=by
    rw[vp.length_eq,Qw];simp only[QA]
    lia
   have bl:(back v (p + k) a).toList=a.toList.take (p + k)++v.toList++a.toList.drop (p + n1 + m):=by
    have:=lu v.toList (p + k) 0 a (by lia);unfold back;refine Eq.trans ?_ (this.trans ?_)
    ·rfl
    ·rw[Nat.add_zero,vl,show p + k + (n1 - k + m)=p + n1 + m by lia]
   have al:a.toList.length=a.size:=QA;have Pr:a.toList=a.toList.take (p + k)++((a.toList.drop (p + k)).take (n1 - k)++(a.toList.drop (p + n1)).take m)++a.toList.drop (p + n1 + m):=by have b1:=jV (l:=a.toList) (i:=p + n1) (k:=p + k) (by lia);rw[show p + n1 - (p + k)=n1 - k by lia] at b1;rw[Qu,Qu,<-cM (l:=a.toList) (i:=p + n1) (k:=m),<-b1,List.take_append_drop]
   have pm:(back v (p + k) a).toList.Perm a.toList:=by
    rw[bl]
    conv=>rhs;rw[Pr]
    rw[lx,ly] at vp;exact((List.Perm.refl _).append vp).append (List.Perm.refl _)
   have Ly:∀e∈v.toList,(∃t,p + k<=t/\t < p + n1/\e=kas_item a t)\/(∃t,p + n1<=t/\t < p + n1 + m/\e=kas_item a t):=λe he=>by
    rw[lx,ly] at vp;rcases QC.mp (vp.mem_iff.mp he) with he | he
    ·obtain⟨t,t1,t2,t3,rfl⟩:=aT he;exact .inl ⟨t,t1,by lia,rfl⟩
    ·obtain⟨t,t1,t2,t3,rfl⟩:=aT he;exact .inr ⟨t,t1,by lia,rfl⟩
   have FD:∀t,t < p + k->kas_item (back v (p + k) a) t=kas_item a t:=λt ht=>by rw[item_list,item_list,bl,Qu,w5 (by rw[List.length_take];lia)];rw[List.getD_eq_getElem?_getD,List.getD_eq_getElem?_getD,List.getElem?_take_of_lt ht]
   have at2:∀t,p + k<=t->t < p + n1 + m->kas_item (back v (p + k) a) t=v.toList.getD (t - (p + k)) (Value.none,Value.none):=λt h1 h2=>by
    have hl:(a.toList.take (p + k)).length=p + k:=by rw[List.length_take];lia
    rw[item_list,bl,Qu,w6 (by lia),hl,w5 (by lia)]
   have J7:∀t,p + n1 + m<=t->kas_item (back v (p + k) a) t=kas_item a t:=λt h1=>by
    have hl:(a.toList.take (p + k)++v.toList).length=p + n1 + m:=by rw[Qw,List.length_take];lia
    rw[item_list,item_list,bl,w6 (by lia),hl];rw[List.getD_eq_getElem?_getD,List.getD_eq_getElem?_getD,List.getElem?_drop];congr 2
    lia
   have uY:∀t,p + k<=t->t < p + n1 + m->(∃u,p + k<=u/\u < p + n1/\kas_item (back v (p + k) a) t=kas_item a u)\/(∃u,p + n1<=u/\u < p + n1 + m/\kas_item (back v (p + k) a) t=kas_item a u):=λt h1 h2=>by rw[at2 t h1 h2];refine Ly _ ?_;rw[List.getD_eq_getElem?_getD,QE (by lia)];exact List.getElem_mem _
   have ss:Up O ky p (back v (p + k) a) (n1 + n2):=λi j hi fR hj=>by
    show le O ky (kas_item (back v (p + k) a) i) (kas_item (back v (p + k) a) j);by_cases c1:j < p + k
    ·rw[FD i (by lia),FD j c1];exact sA i j hi fR (by lia)
    by_cases c2:j < p + n1 + m
    ·by_cases c3:i < p + k
     ·rw[FD i c3];rcases uY j (by lia) c2 with ⟨u,u1,u2,e⟩ | ⟨u,u1,u2,e⟩
      ·rw[e];exact sA i u hi (by lia) u2
      ·rw[e];exact QH (lo i hi c3) (sB (p + n1) u (Ql _) u1 (by lia))
     ·rw[at2 i (by lia) (by lia),at2 j (by lia) c2];exact EY vs (by lia) (by lia)
    ·rw[J7 j (by lia)];by_cases c3:i < p + k
     ·rw[FD i c3];exact QH (lo i hi c3) (sB (p + n1) j (Ql _) (by lia) (by lia))
     by_cases c4:i < p + n1 + m
     ·rcases uY i (by lia) c4 with ⟨u,u1,u2,e⟩ | ⟨u,u1,u2,e⟩
      ·rw[e];exact QH (sA u (p + n1 - 1) (by lia) (by lia) (by lia)) (MD j (by lia) (by lia))
      ·rw[e];exact sB u j u1 (by lia) (by lia)
     ·rw[J7 i (by lia)];exact sB i j (by lia) fR (by lia)
   have qq:=q (SortSt.mk' (kindOf ak) (back v (p + k) (arrOf ak)) (pendingOf ak) (gallopOf ak) (failedOf ak)) k1 k3 k4 (by rw[k2];exact pm) (by rw[k2];exact ss) (λt ht=>by
    show kas_item (back v (p + k) (arrOf ak)) t=_;rw[k2];rcases ht with ht | ht
    ·exact FD t (by lia)
    ·exact J7 t (by lia))
   have e:(failedOf ak).isNone=true:=by rw[k4];rfl
   show Q (failedOf ak).isNone _ s;rw[e];exact qq
  by_cases d:n1 - k<=m
  ·rw[if_pos d];refine Qk (AV T MM rfl λv ak si hv=>?_);exact fin v ak si.1 si.2.1 si.2.2.1 si.2.2.2 hv
  ·rw[if_neg d];refine Qk (AS T MM rfl λv ak si hv=>?_);exact fin v ak si.1 si.2.1 si.2.2.1 si.2.2.2 hv
end
section
variable {O:KeyOrd} {ky:Keyed->O.α} {Mem:Keyed->Prop}
variable {prog:Program} {w:World} {A:Around} {E:Value->Shared->Prop} {κ:SortKind} {s:Shared} {a:Array Keyed}
noncomputable def Rn (O:KeyOrd) (ky:Keyed->O.α) (b:Array Keyed):List (Nat×Nat×Nat)->Nat->Nat->Prop
 | [],lo,hi=>lo=hi
 | x::r,lo,hi=>x.1=lo/\1<=x.2.1/\Up O ky lo b x.2.1/\Rn O ky b r (lo + x.2.1) hi
theorem Rn.le {b:Array Keyed}:∀{l:List (Nat×Nat×Nat)} {lo hi:Nat},Rn O ky b l lo hi->lo + l.length<=hi
 | [],lo,hi,h=>by have h:lo=hi:=h;simp;lia
 | x::r,lo,hi,h=>by
  obtain⟨_,h2,_,h4⟩:=h;have:=Rn.le h4;simp only[Qy]
  lia
theorem Rn.app {b:Array Keyed}:∀{l m:List (Nat×Nat×Nat)} {lo hi:Nat},Rn O ky b (l++m) lo hi↔∃k,Rn O ky b l lo k/\Rn O ky b m k hi
 | [],m,lo,hi=>⟨λh=>⟨lo,rfl,h⟩,λ⟨k,h1,h2⟩=>by have h1:lo=k:=h1;subst h1;exact h2⟩
 | x::r,m,lo,hi=>by
  constructor
  ·rintro⟨h1,h2,h3,h4⟩;obtain⟨k,k1,k2⟩:=Rn.app.mp h4;exact⟨k,⟨h1,h2,h3,k1⟩,k2⟩
  ·rintro⟨k,⟨h1,h2,h3,h4⟩,k2⟩;exact⟨h1,h2,h3,Rn.app.mpr ⟨k,h4,k2⟩⟩
theorem Rn.congr {b c:Array Keyed}:∀{l:List (Nat×Nat×Nat)} {lo hi:Nat},Rn O ky b l lo hi->(∀t,lo<=t->t < hi->kas_item c t=kas_item b t)->Rn O ky c l lo hi
 | [],lo,hi,h,_=>h
 | x::r,lo,hi,⟨h1,h2,h3,h4⟩,e=>by have hl:=Rn.le h4;refine⟨h1,h2,λi j hi fR hj=>?_,Rn.congr h4 λt a b=>e t (by lia) b⟩;rw[e i (by lia) (by lia),e j (by lia) (by lia)];exact h3 i j hi fR hj
structure Ru (O:KeyOrd) (ky:Keyed->O.α) (κ:SortKind) (a:Array Keyed) (lo:Nat) (st:SortSt):Prop where
 k:kindOf st=κ
 f:failedOf st=none
 pm:(arrOf st).toList.Perm a.toList
 rn:Rn O ky (arrOf st) (pendingOf st).toList 0 lo
theorem Ru.size {lo:Nat} {st:SortSt} (h:Ru O ky κ a lo st):(arrOf st).size=a.size:=by have:=h.pm.length_eq;simpa using this
theorem Ru.mem {lo:Nat} {st:SortSt} (h:Ru O ky κ a lo st) (hb:∀x∈a.toList,Mem x) {i:Nat} (hi:i < (arrOf st).size):Mem (kas_item (arrOf st) i):=by refine hb _ (h.pm.mem_iff.mp ?_);unfold kas_item;simp[Array.getD,hi]
theorem EX {α:Type} {l:List α} {i:Nat} (h:i + 1 < l.length):∃l1 x y l2,l=l1++x::y::l2/\l1.length=i:=by refine⟨l.take i,l[i],l[i + 1],l.drop (i + 2),?_,by rw[List.length_take];lia⟩;rw[<-List.drop_eq_getElem_cons h,<-List.drop_eq_getElem_cons (by lia),List.take_append_drop]
theorem qw {P:Array (Nat×Nat×Nat)} {l1 l2:List (Nat×Nat×Nat)} {x y v:Nat×Nat×Nat} {i:Nat} (h:P.toList=l1++x::y::l2) (hi:l1.length=i):((P.setIfInBounds i v).eraseIdxIfInBounds (i + 1)).toList=l1++v::l2:=by
 have gM:P.size=l1.length + (l2.length + 2):=by
  have:=congrArg List.length h;simp at this
  lia
 have e1:(P.setIfInBounds i v).toList=l1++v::y::l2:=by rw[Array.toList_setIfInBounds,h,<-hi,List.set_append_right _ _ (Ql _)];simp
 unfold Array.eraseIdxIfInBounds;rw[dif_pos (by rw[Array.size_setIfInBounds];lia),Array.toList_eraseIdx,e1,<-hi];rw[List.eraseIdx_append_of_length_le (by lia)];simp
theorem px (T:Tells prog w A κ s O ky Mem) (hb:∀x∈a.toList,Mem x) {lo i:Nat} {st:SortSt} (h:Ru O ky κ a lo st) (mJ:lo<=a.size) (hi:i + 1 < (pendingOf st).size) {Q:Bool->SortSt->Shared->Prop}
  (q:∀ak,Ru O ky κ a lo ak->(pendingOf ak).size + 1=(pendingOf st).size->(∀t,lo<=t->kas_item (arrOf ak) t=kas_item (arrOf st) t)->Q true ak s):kasC (model prog w) A E (Hu i) Q st s:=by
 obtain⟨l1,x,y,l2,hl,hlen⟩:=EX (l:=(pendingOf st).toList) (i:=i) (by simpa using hi);have gM:=h.size;have rn:=h.rn;rw[hl] at rn;obtain⟨p,r1,r2⟩:=Rn.app.mp rn;obtain⟨xp,xn,xw⟩:=x;obtain⟨yp,yn,yw⟩:=y;obtain⟨e1,x1,x2,e2,y1,y2,r3⟩:=r2;have e1:xp=p:=e1;have e2:yp=p + xn:=e2;subst e1 e2;have h3:=r3.le;simp only at x1 x2 y1 y2 r3 h3;have eP:∀j,(pendingOf st)[j]?=(l1++(xp,xn,xw)::(xp + xn,yn,yw)::l2)[j]?:=λj=>by rw[<-hl,Array.getElem?_toList]
 have g1:(pendingOf st)[i]?=some (xp,xn,xw):=by rw[eP,QX (by lia),show i - l1.length=0 by lia];rfl
 have g2:(pendingOf st)[i + 1]?=some (xp + xn,yn,yw):=by rw[eP,QX (by lia),show i + 1 - l1.length=1 by lia];rfl
 have NR:st=SortSt.mk' κ (arrOf st) (pendingOf st) (gallopOf st) none:=by have e:st=SortSt.mk' (kindOf st) (arrOf st) (pendingOf st) (gallopOf st) (failedOf st):=rfl;rw[h.k,h.f] at e;exact e
 have z:=Lw (E:=E) T (a:=arrOf st) (P:=pendingOf st) (g:=gallopOf st) g1 g2 (by lia) x1 y1 (λi hi=>h.mem hb hi) (λi j a b c=>x2 i j a b c) (λi j a b c=>y2 i j a b c) (Q:=Q) λak k1 k2 k3 k4 k5 k6=>?_
 ·rw[<-NR] at z;exact z
 ·have ee:=qw (v:=(xp,xn + yn,xw)) hl hlen;refine q ak ⟨k1,k3,k4.trans h.pm,?_⟩ ?_ λt ht=>k6 t (.inr (by lia))
  ·rw[k2,ee];refine Rn.app.mpr ⟨xp,r1.congr λt _ ht=>k6 t (.inl ht),rfl,by show 1<=xn + yn;lia,k5,?_⟩;have:Rn O ky (arrOf ak) l2 (xp + xn + yn) lo:=r3.congr λt ht _=>k6 t (.inr ht)
   rw[Nat.add_assoc] at this;exact this
  ·rw[k2,<-QA,ee,<-QA,hl];simp
   lia
theorem Ez (T:Tells prog w A κ s O ky Mem) (hb:∀x∈a.toList,Mem x) {lo size pw:Nat} {st:SortSt} (h:Ru O ky κ a lo st) (mJ:lo<=a.size) (hp:1<=(pendingOf st).size) {Q:Option Unit×Unit->SortSt->Shared->Prop}
  (q:∀ak,Ru O ky κ a lo ak->1<=(pendingOf ak).size->(∀t,lo<=t->kas_item (arrOf ak) t=kas_item (arrOf st) t)->Q (none,()) ak s):kasC (model prog w) A E (LM size pw) Q st s:=by
 unfold LM;refine dq (λ_ c ak=>c=(none,())/\Ru O ky κ a lo ak/\1<=(pendingOf ak).size/\∀t,lo<=t->kas_item (arrOf ak) t=kas_item (arrOf st) t) ⟨rfl,h,hp,λ_ _=>rfl⟩ (λx c ak _ _ hI=>?_) (λc ak hI=>?_)
 ·obtain⟨rfl,h',lg,he⟩:=hI;refine Qk (kasC_get ?_);by_cases c1:(pendingOf ak).size > 1
  ·rw[if_pos c1];have:(pendingOf ak)[(pendingOf ak).size - 2]?=some (pendingOf ak)[(pendingOf ak).size - 2]:=by simp
   rw[this];dsimp only;by_cases c2:(pendingOf ak)[(pendingOf ak).size - 2].2.2<=pw
   ·rw[if_pos c2];exact Qo ⟨rfl,q _ h' lg he⟩
   ·rw[if_neg c2];refine Qk (px T hb h' mJ (by lia) λdJ h2 s2 e2=>?_);rw[if_neg (by simp)];exact Qo ⟨rfl,rfl,h2,by lia,λt ht=>(e2 t ht).trans (he t ht)⟩
  ·rw[if_neg c1];exact Qo ⟨rfl,q _ h' lg he⟩
 ·obtain⟨rfl,h',lg,he⟩:=hI;exact q _ h' lg he
theorem Rn.LL {b:Array Keyed} {l:List (Nat×Nat×Nat)} {x y:Nat×Nat×Nat} {lo hi:Nat} (h:Rn O ky b (l++[x]) lo hi) (e1:y.1=x.1) (e2:y.2.1=x.2.1):Rn O ky b (l++[y]) lo hi:=by obtain⟨k,k1,h1,h2,h3,h4⟩:=Rn.app.mp h;exact Rn.app.mpr ⟨k,k1,e1.trans h1,by rw[e2];exact h2,by rw[e2];exact h3,by rw[e2];exact h4⟩
theorem snoc {α:Type} {P:Array α} (h:1<=P.size):∃l x,P.toList=l++[x]/\P.back?=some x:=by
 have pZ:P.toList≠[]:=λz=>by have:=congrArg List.length z;simp at this;rw[this] at h;simp at h
 refine⟨P.toList.dropLast,P.toList.getLast pZ,(List.dropLast_concat_getLast pZ).symm,?_⟩;rw[<-Array.getLast?_toList,List.getLast?_eq_some_getLast pZ]
theorem jg {α:Type} (f:α->α):∀(l:List α) (x:α),(l++[x]).modify l.length f=l++[f x]
 | [],x=>rfl
 | y::l,x=>by show y::(l++[x]).modify l.length f=y::(l++[f x]);rw[jg f l x]
theorem vQ (T:Tells prog w A κ s O ky Mem) (hb:∀x∈a.toList,Mem x) {size lo n:Nat} {st:SortSt} (h:Ru O ky κ a lo st) (mJ:lo<=a.size) (hn:1<=n) (hu:Up O ky lo (arrOf st) n) (h0:1<=(pendingOf st).size\/lo=0) {Q:ForInStep (Option Unit×Nat)->SortSt->Shared->Prop}
  (q:∀ak,Ru O ky κ a (lo + n) ak->1<=(pendingOf ak).size->Q (.yield (none,lo + n)) ak s):kasC (model prog w) A E (Jo size lo n) Q st s:=by
 unfold Jo;refine Qk (kasC_get ?_);by_cases hp:1<=(pendingOf st).size
 ·obtain⟨l,x,hl,Oo⟩:=snoc hp;rw[Oo];obtain⟨s1,n1,w1⟩:=x;dsimp only;refine Qk (Ez T hb h mJ hp λdJ h2 p2 e2=>?_);dsimp only;obtain⟨l2,x2,fB,Oq⟩:=snoc p2;have Pb:(pendingOf dJ).size=l2.length + 1:=by
   have:=congrArg List.length fB;simp at this
   lia
  refine Qk (kasC_modify (Qk (kasC_modify (Qo (q _ ⟨h2.k,h2.f,h2.pm,?_⟩ ?_)))))
  ·show Rn O ky (arrOf dJ) (((pendingOf dJ).modify ((pendingOf dJ).size - 1) _).push (lo,n,0)).toList 0 (lo + n);rw[Array.toList_push,Array.toList_modify,fB,Pb];have em:(l2++[x2]).modify (l2.length + 1 - 1) (λ(x:Nat×Nat×Nat)=>(x.1,x.2.1,power' size (2 * s1 + n1) (2 * s1 + n1 + n1 + n) size))=l2++[(x2.1,x2.2.1,power' size (2 * s1 + n1) (2 * s1 + n1 + n1 + n) size)]:=by rw[Nat.add_sub_cancel];exact jg _ _ _
   rw[show (λ(x:Nat×Nat×Nat)=>match x with | (st,len,_)=>(st,len,power' size (2 * s1 + n1) (2 * s1 + n1 + n1 + n) size))=λ(x:Nat×Nat×Nat)=>(x.1,x.2.1,power' size (2 * s1 + n1) (2 * s1 + n1 + n1 + n) size) from rfl,em];have rn:=h2.rn;rw[fB] at rn;refine Rn.app.mpr ⟨lo,rn.LL rfl rfl,rfl,hn,λi j hi fR hj=>?_,rfl⟩;rw[e2 i hi,e2 j (by lia)];exact hu i j hi fR hj
  ·show 1<=(((pendingOf dJ).modify ((pendingOf dJ).size - 1) _).push (lo,n,0)).size;rw[Array.size_push]
   lia
 ·have hz:(pendingOf st).size=0:=by lia
  have e:(pendingOf st).back?=none:=by rw[Array.back?_eq_none_iff];exact Array.eq_empty_of_size_eq_zero hz
  rw[e];have KZ:lo=0:=h0.resolve_left hp;subst KZ;refine Qk (kasC_modify (Qo (q _ ⟨h.k,h.f,h.pm,?_⟩ ?_)))
  ·show Rn O ky (arrOf st) ((pendingOf st).push (0,n,0)).toList 0 (0 + n);rw[Array.toList_push,Array.eq_empty_of_size_eq_zero hz];exact⟨rfl,hn,hu,rfl⟩
  ·show 1<=((pendingOf st).push (0,n,0)).size;rw[Array.size_push]
   lia
theorem EZ (T:Tells prog w A κ s O ky Mem) (hb:∀x∈a.toList,Mem x) {mr lo:Nat} {st:SortSt} (h:Ru O ky κ a lo st) (mJ:lo < a.size) (hm:1<=mr) (h0:1<=(pendingOf st).size\/lo=0) {Q:ForInStep (Option Unit×Nat)->SortSt->Shared->Prop}
  (q:∀ak n,1<=n->lo + n<=a.size->Ru O ky κ a (lo + n) ak->1<=(pendingOf ak).size->Q (.yield (none,lo + n)) ak s):kasC (model prog w) A E (IE a.size mr lo) Q st s:=by
 unfold IE;rw[if_neg (by lia)];have gM:=h.size;have nF:∀x∈(arrOf st).toList,Mem x:=λx hx=>hb x (h.pm.mem_iff.mp hx)
 have b0:Bs κ (pendingOf st) lo (arrOf st) st:=⟨h.k,h.f,rfl,List.Perm.refl _,λ_ _=>rfl⟩;have Ny:∀{ak:SortSt},Bs κ (pendingOf st) lo (arrOf st) ak->Ru O ky κ a lo ak:=λb=>⟨b.k,b.f,b.pm.trans h.pm,by rw[b.p];exact h.rn.congr λt _ ht=>b.lw t ht⟩
 refine Qk (Gi T nF b0 (m:=a.size - lo) (by lia) (by lia) λak k b' k1 k2 ku=>?_);dsimp only;by_cases c:k < mr
 ·rw[if_pos c];refine Qk (kasC_lift (wpAny_rule ?_));refine Qk (Gc T nF b' (n:=min (a.size - lo) mr) (by lia) k1 (by lia) ku λdJ b2 u2=>?_);rw[if_neg (by simp)];exact vQ T hb (Ny b2) (by lia) (by lia) u2 (by rw[b2.p];exact h0) λFS h3 p3=>q FS _ (by lia) (by lia) h3 p3
 ·rw[if_neg c];exact vQ T hb (Ny b') (by lia) (by lia) ku (by rw[b'.p];exact h0) λFS h3 p3=>q FS _ (by lia) (by lia) h3 p3
theorem Hk {P:Array (Nat×Nat×Nat)} (h:1 < P.size):ix P + 1 < P.size:=by
 have key:ix P=P.size - 2 - 1\/ix P=P.size - 2:=by
  unfold ix;generalize Option.any _ _=b;cases b
  ·exact .inr rfl
  ·exact .inl rfl
 rcases key with e | e <;> lia
theorem DS (T:Tells prog w A κ s O ky Mem) (hb:∀x∈a.toList,Mem x) {st:SortSt} (h:Ru O ky κ a a.size st) {Q:Option Unit×Unit->SortSt->Shared->Prop}
  (q:∀ak,Ru O ky κ a a.size ak->(pendingOf ak).size<=1->Q (none,()) ak s):kasC (model prog w) A E (JE a.size) Q st s:=by
 unfold JE;have hle:=h.rn.le;simp at hle;refine dq (λx c ak=>c=(none,())/\Ru O ky κ a a.size ak/\(pendingOf ak).size<=max 1 (a.size - x)) ⟨rfl,h,by lia⟩ (λx c ak _ hx hI=>?_) (λc ak hI=>?_)
 ·obtain⟨rfl,h',hp⟩:=hI;refine Qk (kasC_get ?_);by_cases c1:(pendingOf ak).size<=1
  ·rw[if_pos c1];exact Qo ⟨rfl,q _ h' c1⟩
  ·rw[if_neg c1];refine Qk (px T hb h' (Ql _) (Hk (by lia)) λdJ h2 s2 _=>?_);rw[if_neg (by simp)];exact Qo ⟨rfl,rfl,h2,by lia⟩
 ·obtain⟨rfl,h',hp⟩:=hI;exact q _ h' (by lia)
theorem kl:∀(f n r:Nat),1<=n->1<=minRun' f n r
 | 0,n,r,h=>by
  have e:minRun' 0 n r=n + r:=by kernel_rfl
  rw[e];lia
 | f + 1,n,r,h=>by
  rw[minRun'_succ];split
  ·lia
  ·exact kl f (n / 2) _ (by lia)
theorem EH (T:Tells prog w A κ s O ky Mem) (hb:∀x∈a.toList,Mem x) (h2:2<=a.size) {g:Nat} {Q:Unit->SortSt->Shared->Prop}
  (q:∀ak:SortSt,failedOf ak=none->(arrOf ak).toList.Perm a.toList->gQ O ky (arrOf ak).toList->Q () ak s):kasC (model prog w) A E sortRuns' Q (SortSt.mk' κ a #[] g none) s:=by
 rw[Ic];unfold sR;refine Qk (kasC_get ?_);have Nl:=kl a.size a.size 0 (by lia);show kasC _ _ _ (do
  let r<-forIn [:a.size] ((none,0):Option Unit×Nat) λ_ r=>IE a.size (minRun' a.size a.size 0) r.2
  match r.1 with
  | some v=>pure v
  | none=>do
   let r<-JE a.size
   match r.1 with
   | some v=>pure v
   | none=>pure ()) _ _ _
 generalize minRun' a.size a.size 0=mr at Nl ⊢;refine Qk (bG (Q:=λr ak s'=>s=s'/\r.1=none/\Ru O ky κ a a.size ak) (dq (λx c ak=>∃lo,c=(none,lo)/\x<=lo/\lo<=a.size/\Ru O ky κ a lo ak/\(1<=(pendingOf ak).size\/lo=0)) ⟨0,rfl,Ql _,by lia,⟨rfl,rfl,List.Perm.refl _,rfl⟩,.inr rfl⟩ (λx c ak _ hx hI=>?_) (λc ak hI=>?_)) (λr ak s' hI=>?_))
 ·obtain⟨lo,rfl,O7,mJ,h,h0⟩:=hI;by_cases c:lo < a.size
  ·exact EZ T hb h c Nl h0 λdJ n n1 n2 h2 p2=>⟨rfl,lo + n,rfl,by lia,n2,h2,.inl p2⟩
  ·have e:lo=a.size:=by lia
   subst e;unfold IE;rw[if_pos (Ql _)];exact Qo ⟨rfl,rfl,rfl,h⟩
 ·obtain⟨lo,rfl,O7,mJ,h,h0⟩:=hI;have e:lo=a.size:=by lia
  subst e;exact⟨rfl,rfl,h⟩
 ·obtain⟨rfl,e,h⟩:=hI;obtain⟨r1,r2⟩:=r;cases e;refine Qk (DS T hb h λdJ g1 g2=>Qo (q dJ g1.f g1.pm ?_));have rn:=g1.rn
  match hl:(pendingOf dJ).toList,rn with
  | [],rn=>have rn:0=a.size:=rn;lia
  | [x],rn=>obtain⟨_,_,u,e⟩:=rn;have e:0 + x.2.1=a.size:=e;exact Up.ID (g1.size.trans (by lia)) u
  | x::y::r,_=>
   exfalso;have:=congrArg List.length hl;simp at this
   lia
end
end MxTim
end
section
namespace Mx
open PySem PySem.W PySem.Spec PyProof.Rows L2 PySem.SeqAt MxSort
theorem pe {α β:Type} {f:α->β} {l l':List β} (h:l.Perm l'):∀r:List α,l=r.map f->∃p:List α,p.Perm r/\l'=p.map f:=by
 induction h with
 | nil=>intro r e;exact⟨r,List.Perm.refl _,e⟩
 | cons x h ih=>
  intro r e;cases r with
  | nil=>cases e
  | cons y r=>rw[QY] at e;injection e with e1 e2;obtain⟨p,p1,p2⟩:=ih r e2;exact⟨y::p,p1.cons y,by rw[QY,e1,p2]⟩
 | swap x y l=>
  intro r e;cases r with
  | nil=>cases e
  | cons a r=>
   cases r with
   | nil=>rw[QY] at e;injection e with e1 e2;cases e2
   | cons b r=>rw[QY,QY] at e;injection e with e1 e2;injection e2 with e3 e4;exact⟨b::a::r,List.Perm.swap a b r,by rw[QY,QY,e1,e3,e4]⟩
 | trans h1 h2 ih1 ih2=>intro r e;obtain⟨p,p1,p2⟩:=ih1 r e;obtain⟨q,q1,q2⟩:=ih2 p p2;exact⟨q,q1.trans p1,q2⟩
section
variable {prog:Program} {w:World} {A:Around} {E:Value->Shared->Prop} {s:Shared}
noncomputable def Cu {O:KeyOrd} (vs:List Value) (key:Nat->O.α):Prop:=∀i j,i < vs.length->j < vs.length->vs.getD i Value.none=vs.getD j Value.none->key i=key j
open Classical in
noncomputable def DH {O:KeyOrd} (vs:List Value) (key:Nat->O.α) (k:Keyed):O.α:=if h:∃i,i < vs.length/\vs.getD i Value.none=k.1 then key (Classical.choose h) else key 0
theorem jF {O:KeyOrd} {vs:List Value} {key:Nat->O.α} (hi:Cu vs key) {i:Nat} (h:i < vs.length) (v:Value):DH vs key (vs.getD i Value.none,v)=key i:=by unfold DH;have ex:∃j,j < vs.length/\vs.getD j Value.none=((vs.getD i Value.none,v):Keyed).1:=⟨i,h,rfl⟩;rw[dif_pos ex];have z:=Classical.choose_spec ex;exact hi _ _ z.1 h z.2
theorem pU (vs:List Value):(vs.toArray.zip vs.toArray).toList=(List.range vs.length).map λi=>(vs.getD i Value.none,vs.getD i Value.none):=by
 refine List.ext_getElem (by simp) λi h1 h2=>?_
 simp at h1;simp[h1]
theorem ED {κ:SortKind} {vs:List Value} {O:KeyOrd} {key:Nat->O.α} (T:Tells O key (kas_ask prog w A κ vs) vs.length s) (hi:Cu vs key) (h2:2<=vs.length) (NZ:vs.length < 1000000) {Q:SortSt->Shared->Prop}
  (hG:∀(p:Array Nat) (ak:SortSt),Ord vs.length p->Up key p vs.length->(arrOf ak).map (·.2)=(p.toList.map λi=>vs.getD i Value.none).toArray->failedOf ak=none->Q ak s):
  wpAny (model prog w) A ((sortRuns').run (SortSt.mk' κ (vs.toArray.zip vs.toArray) #[] 7 none)) (λr s'=>Q r.2 s') E s:=by
 have hz:(vs.toArray.zip vs.toArray).size=vs.length:=by simp
 have T':MxTim.Tells prog w A κ s O (DH vs key) (λk=>∃i,i < vs.length/\k=(vs.getD i Value.none,vs.getD i Value.none)):=by rintro x y ⟨i,FL,rfl⟩ ⟨j,zv,rfl⟩ C hC;rw[jF hi FL,jF hi zv] at hC;exact T i j FL zv C hC
 have run:=MxTim.EH (E:=E) T' (a:=vs.toArray.zip vs.toArray) (λx hx=>by
   rw[pU] at hx;obtain⟨i,i1,i2⟩:=QP.mp hx;exact⟨i,Q1.mp i1,i2.symm⟩) (by lia) (g:=7) (Q:=λ_ ak s'=>Q ak s') (λak f pm ID=>?_)
 ·exact run
 ·rw[pU] at pm;obtain⟨p,p1,p2⟩:=pe pm.symm (List.range vs.length) rfl;have hl:p.length=vs.length:=by rw[p1.length_eq,List.length_range]
  have cH:∀i∈p,i < vs.length:=λi hi=>Q1.mp (p1.mem_iff.mp hi)
  refine hG p.toArray ak (by unfold MxSort.Ord;exact p1) (λi j fR hj=>?_) ?_ f
  ·by_cases e:i=j
   ·subst e;exact KeyOrd.kle_refl _
   ·unfold MxTim.gQ at ID;rw[p2,List.pairwise_map,List.pairwise_iff_getElem] at ID;have z:=ID i j (by lia) (by lia) (by lia);unfold MxTim.le at z;rw[jF hi (cH _ (List.getElem_mem _)),jF hi (cH _ (List.getElem_mem _))] at z;unfold qK;rw[show p.toArray.getD i 0=p[i] by simp[Array.getD,show i < p.length by lia],show p.toArray.getD j 0=p[j] by simp[Array.getD,show j < p.length by lia]];exact z
  ·apply Array.toList_inj.mp;rw[Array.toList_map,p2,List.map_map];rfl
theorem yK {a:Addr} {vs:List Value} {n:Nat} {P:PySem.Fin->Shared->Prop} (ho:s.heap.get? a=some (seqObj "list" vs.toArray n)) (N4:vs.length < 1000000) {O:KeyOrd} {key:Nat->O.α}
  (hk:2<=vs.length->∀h',(∀b o,b≠a->s.heap.get? b=some o->h'.get? b=some o)->∃κ:SortKind,(∀(Q:SortKind->Shared->Prop) (E:Value->Shared->Prop),Q κ {s with heap:=h'}->wpAny (model prog w) A (keyKind' vs.toArray) Q E {s with heap:=h'})/\
   Tells O key (kas_ask prog w A κ vs) vs.length {s with heap:=h'}/\Cu vs key)
  (h:∀(p:Array Nat) (h':Heap) (e:Nat),Ord vs.length p->Up key p vs.length->(∀b o,b≠a->s.heap.get? b=some o->h'.get? b=some o)->h'.get? a=some (seqObj "list" (p.toList.map λi=>vs.getD i Value.none).toArray e)->
   P (.done (.ret .none)) {s with heap:=h'}):wpAny (model prog w) A (Builtin.«list.sort» ⟨[.ref a],[]⟩) P E s:=by
 have ha:a < s.heap.objs.size:=Qq ho;have zy:vs.length<=sizeLine:=by rw[sizeLine_eq];lia
 rw[list_sort_plain];refine Qb (listItems_at ho rfl (Qb (listUpdate_at ho rfl ?_ (by rw[Qg];exact zy) (Nat.zero_le _))));obtain⟨e1,M7⟩:∃e1,(s.heap.update a (Obj.mapSeq λ_=>(#[]:Array Value))).get? a=some (seqObj "list" #[] e1):=⟨_,get?_update_seq ho λ_=>#[]⟩;refine Qb (seqEpoch_at M7 rfl (Qb (wpAny_newTuple ?_ zy)));refine Qb (wpAny_newList (wpAny_holding ?_) (Nat.zero_le _));show wpAny (model prog w) A _ P E {s with heap:=((s.heap.update a (Obj.mapSeq λ_=>(#[]:Array Value))).push (seqObj "tuple" vs.toArray 0)).push (seqObj "list" #[] 0)};generalize hh:((s.heap.update a (Obj.mapSeq λ_=>(#[]:Array Value))).push (seqObj "tuple" vs.toArray 0)).push (seqObj "list" #[] 0)=h1;have k1:∀b o,b≠a->s.heap.get? b=some o->h1.get? b=some o:=λb o hb e=>by rw[<-hh];exact Qd _ (Qd _ ((QI s.heap _ (Ne.symm hb)).trans e))
 have FI:h1.get? a=some (seqObj "list" #[] e1):=by rw[<-hh];exact Qd _ (Qd _ M7)
 dsimp only;have fin:∀(ak:SortSt) (p:Array Nat),Ord vs.length p->Up key p vs.length->(arrOf ak).map (·.2)=(p.toList.map λi=>vs.getD i Value.none).toArray->failedOf ak=none->
   wpAny (model prog w) A (do
    let touched:=(<-seqEpoch a) != e1
    Builtin.List.listUpdate (.ref a) λ_=>(arrOf ak).map (·.2)
    if let some e:=failedOf ak then rule "list.sort.comparison-raised";throw e
    if touched then rule "list.sort.modified";raiseError "ValueError" "list modified during sort"
    ret .none) P E {s with heap:=h1}:=λak p hp hu Dq hf=>by
  refine Qb (seqEpoch_at (s:={s with heap:=h1}) FI rfl ?_);have gM:(p.toList.map λi=>vs.getD i Value.none).toArray.size=vs.length:=by rw[Qg,Qp,QA,hp.size]
  rw[Dq];refine Qb (listUpdate_at (s:={s with heap:=h1}) FI rfl ?_ (Nat.zero_le _) (by rw[gM];lia));rw[hf];simp only[bne_self_eq_false,Bool.false_eq_true,if_false];obtain⟨c2,oH⟩:∃c2,(h1.update a (Obj.mapSeq λ_=>(p.toList.map λi=>vs.getD i Value.none).toArray)).get? a=some (seqObj "list" (p.toList.map λi=>vs.getD i Value.none).toArray c2):=⟨_,get?_update_seq FI λ_=>_⟩;exact Qe (h p _ c2 hp hu (λb o hb e=>(QI h1 _ (Ne.symm hb)).trans (k1 b o hb e)) oH)
 by_cases h2:2<=vs.length
 ·have Dj:¬vs.toArray.size < 2:=by rw[Qg];lia
  rw[if_neg Dj,if_neg Dj];obtain⟨κ,OG,T,hi⟩:=hk h2 h1 k1;refine Qb (OG _ _ ?_);refine Qb (wpAny_mono (ED (s:={s with heap:=h1}) (Q:=λak s'=>s'={s with heap:=h1}/\∃p:Array Nat,Ord vs.length p/\Up key p vs.length/\(arrOf ak).map (·.2)=(p.toList.map λi=>vs.getD i Value.none).toArray/\failedOf ak=none) T hi h2 N4
   (λp ak hp hu ho hf=>⟨rfl,p,hp,hu,ho,hf⟩)) ?_ λ_ _ e=>e)
  rintro⟨⟨⟩,ak⟩ s' ⟨rfl,p,hp,hu,Dq,hf⟩;exact fin ak p hp hu Dq hf
 ·have Dj:vs.toArray.size < 2:=by rw[Qg];lia
  rw[if_pos Dj,if_pos Dj];refine Qb (Qe ?_);rw[StateT.run_pure];refine Qb (Qe ?_);refine fin (SortSt.mk' general' (vs.toArray.zip vs.toArray) #[] 7 none) (List.range vs.length).toArray (by unfold MxSort.Ord;simp) (λi j fR hj=>?_) ?_ rfl
  ·rw[show i=j by lia];exact KeyOrd.kle_refl _
  ·apply Array.toList_inj.mp;show (((vs.toArray.zip vs.toArray)).map (·.2)).toList=_
   match vs,h2 with
   | [],_=>simp
   | [v],_=>simp
   | _::_::_,h2=>exact absurd (by simp) h2
end
inductive SK where
 | tt | ts | ti | s | i
 deriving DecidableEq
noncomputable def SK.ok:SK->D->Prop
 | .tt,d=>∃f r,d= .tup (.tup f::r)
 | .ts,d=>∃f r,d= .tup (.str f::r)
 | .ti,d=>∃f r,d= .tup (.int f::r)
 | .s,d=>∃x,d= .str x
 | .i,d=>∃x,d= .int x
noncomputable def SK.κ:SK->SortKind
 | .tt=>tuples' false
 | .ts=>tuples' true
 | .ti=>tuples' true
 | .s=>oneType'
 | .i=>oneType'
noncomputable def SK.f:SK->String
 | .tt=>"tuple"
 | .ts=>"str"
 | .s=>"str"
 | _=>"int"
section
variable {P:Program} {w:World} {H:Hp} {prog:Program} {s:Shared} {A:Around}
theorem AM {b:Bool} {n m:Nat} {Q:Bool->Shared->Prop} {v wv:Value} {us vs:List Value} {d e:D} {ds es:List D} (z:Zp A s (v::us) (wv::vs) (d::ds) (e::es))
  (hs:b=true->∀{E:Value->Shared->Prop},wpAny (model prog w) A (oneLt' true v wv) (λr s'=>r=D.lt d e/\s'=s) E s)
  (hlen:ds.length + m=es.length + n) (q:Q (D.ft (d::ds) (e::es)) s):KatLex prog w A b (decide (n < m)) Q ((v::us).zip (wv::vs)) 0 s:=by
 cases z with
 | cons he hl z'=>
  rw[List.zip_cons_cons];rw[D.dh] at q;refine kat_cons (he prog w _ _ ?_);by_cases hde:d=e
  ·rw[(D.cQ d e).mpr hde];rw[if_pos hde] at q;exact kat_yes (AL z' 1 (by lia) hlen q)
  ·rw[show D.gi d e=false by rw[D.jz];exact QF hde];rw[if_neg hde] at q;refine kat_no ?_;cases b with
   | false=>rw[show (false&&0==0)=false by rfl];exact kat_one v wv (hl hde prog w _ _ q)
   | true=>rw[show (true&&0==0)=true by rfl];exact wpAny_mono (hs rfl) (λr s' ⟨e1,e2⟩=>by subst e1 e2;exact q) λ_ _ x=>x
theorem mQ (hok:d9 P w H s.heap) {n:Nat} (hu:A.units + n < cLine) {b:Bool} {d0 e0:D} {dr er:List D} {x y:V} {u v:Value} (hd:D.dep (.tup (d0::dr))<=n + 1) (hl:D.ff (.tup (d0::dr)) (.tup (e0::er)))
  (hs:b=true->(∃p q,d0= .str p/\e0= .str q)\/∃p q,d0= .int p/\e0= .int q) (hx:DV H x (.tup (d0::dr))) (hy:DV H y (.tup (e0::er))) (rx:RelV x u) (ry:RelV y v) {Q:Bool->Shared->Prop} {E:Value->Shared->Prop}
  (q:Q (D.lt (.tup (d0::dr)) (.tup (e0::er))) s):wpAny (model prog w) A (keyLt' (tuples' b) u v) Q E s:=by
 obtain⟨a,xs,q1,e1,e2⟩:=hx.af;subst q1;cases rx;obtain⟨b',ys,q1,f1,f2⟩:=hy.af;subst q1;cases ry;obtain⟨its,r1,o,ho,hc,k,Au⟩:=au hok e1;obtain⟨aI,r2,o2,sJ,oH,k2,qC⟩:=au hok f1;obtain⟨x0,xr,rfl,FG,MO⟩:=e2.cons_inv;obtain⟨y0,yr,rfl,MQ,NY⟩:=f2.cons_inv;cases r1 with
 | cons r10 r1r=>
  cases r2 with
  | cons r20 r2r=>
   rename_i u0 ur v0 vr;have oM:D.cL (d0::dr)<=n:=by unfold D.dep at hd;lia
   have Dh:D.gk (d0::dr) (e0::er):=by unfold D.ff at hl;exact hl
   have zz:Zp A s (u0::ur) (v0::vr) (d0::dr) (e0::er):=zk hok hu (λd e x y u v hd2 fB AC Hd rx2 ry2=>AO hok n d e x y u v A hd2 hu fB AC Hd rx2 ry2) oM Dh e2 f2 (.cons r10 r1r) (.cons r20 r2r);refine kat_lt ho Au sJ qC ?_;have l1:(u0::ur).toArray.size=(d0::dr).length:=by rw[Qg,Qy,Qy,<-r1r.length,MO.length]
   have l2:(v0::vr).toArray.size=(e0::er).length:=by rw[Qg,Qy,Qy,<-r2r.length,NY.length]
   have q':Q (D.ft (d0::dr) (e0::er)) s:=by have z:=q;unfold D.lt at z;exact z
   refine AM zz (λhb=>?_) (by rw[l1,l2];simp only[Qy];lia) q';intro E';rcases hs hb with ⟨p,q2,rfl,rfl⟩ | ⟨p,q2,rfl,rfl⟩
   ·have z1:=FG.str_inv;have z2:=MQ.str_inv;subst z1 z2;obtain⟨t,rfl⟩:=r10;obtain⟨t',rfl⟩:=r20;exact oneLt_str ⟨by unfold D.lt;rfl,rfl⟩
   ·have z1:=FG.int_inv;have z2:=MQ.int_inv;subst z1 z2;obtain⟨t,rfl⟩:=r10;obtain⟨t',rfl⟩:=r20;exact oneLt_int ⟨by unfold D.lt;rfl,rfl⟩
theorem lM (x y:Value):keyLt' oneType' x y=oneLt' true x y:=rfl
theorem AN (hok:d9 P w H s.heap) {n:Nat} (hu:A.units + n < cLine) (k:SK) {d e:D} {x y:V} {u v:Value} (hd:D.dep d<=n + 1) (hl:D.ff d e) (fd:k.ok d) (fe:k.ok e) (hx:DV H x d) (hy:DV H y e) (rx:RelV x u) (ry:RelV y v) {Q:Bool->Shared->Prop} {E:Value->Shared->Prop}
  (q:Q (D.lt d e) s):wpAny (model prog w) A (keyLt' k.κ u v) Q E s:=by
 cases k with
 | tt=>obtain⟨f,r,rfl⟩:=fd;obtain⟨f',r',rfl⟩:=fe;exact mQ (b:=false) hok hu hd hl (λz=>nomatch z) hx hy rx ry q
 | ts=>obtain⟨f,r,rfl⟩:=fd;obtain⟨f',r',rfl⟩:=fe;exact mQ hok hu hd hl (λ_=> .inl ⟨_,_,rfl,rfl⟩) hx hy rx ry q
 | ti=>obtain⟨f,r,rfl⟩:=fd;obtain⟨f',r',rfl⟩:=fe;exact mQ hok hu hd hl (λ_=> .inr ⟨_,_,rfl,rfl⟩) hx hy rx ry q
 | s=>obtain⟨f,rfl⟩:=fd;obtain⟨f',rfl⟩:=fe;have z1:=hx.str_inv;have z2:=hy.str_inv;subst z1 z2;obtain⟨t,rfl⟩:=rx;obtain⟨t',rfl⟩:=ry;show wpAny _ _ (keyLt' oneType' _ _) _ _ _;rw[lM];unfold D.lt at q;exact oneLt_str q
 | i=>obtain⟨f,rfl⟩:=fd;obtain⟨f',rfl⟩:=fe;have z1:=hx.int_inv;have z2:=hy.int_inv;subst z1 z2;obtain⟨t,rfl⟩:=rx;obtain⟨t',rfl⟩:=ry;show wpAny _ _ (keyLt' oneType' _ _) _ _ _;rw[lM];unfold D.lt at q;exact oneLt_int q
theorem sW (hok:d9 P w H s.heap) {k:SK} (hk:k= .tt\/k= .ts\/k= .ti):∀{xs:List V} {us:List Value} {ds:List D},aY H xs ds->aw xs us->(∀d∈ds,k.ok d)->
  ∃fs,KatTups s.heap us fs/\fs.length=us.length/\∀v∈fs,Looks (model prog w) s.heap (typeOf v) (.type k.f)
 | [],us,ds,_,r,_=>by cases r;exact⟨[],KatTups.nil,rfl,λv hv=>absurd hv (by simp)⟩
 | x::xs,us,ds,h,r,hf=>by
  cases r with
  | cons r0 rr=>
   cases ds with
   | nil=>unfold aY at h;exact h.elim
   | cons d ds=>
    unfold aY at h;obtain⟨fs,t,l,lk⟩:=sW hok hk h.2 rr λd hd=>hf d (Qj _ hd)
    have sh:∃d0 dr,d= .tup (d0::dr)/\((k= .ts/\∃p,d0= .str p)\/(k= .ti/\∃p,d0= .int p)\/(k= .tt/\∃p,d0= .tup p)):=by
     have z:=hf d Qm;rcases hk with rfl | rfl | rfl
     ·obtain⟨f,r,rfl⟩:=z;exact⟨_,_,rfl,.inr (.inr ⟨rfl,_,rfl⟩)⟩
     ·obtain⟨f,r,rfl⟩:=z;exact⟨_,_,rfl,.inl ⟨rfl,_,rfl⟩⟩
     ·obtain⟨f,r,rfl⟩:=z;exact⟨_,_,rfl,.inr (.inl ⟨rfl,_,rfl⟩)⟩
    obtain⟨d0,dr,rfl,vB⟩:=sh;obtain⟨a,ys,q1,e1,e2⟩:=h.1.af;subst q1;cases r0;obtain⟨its,r1,o,ho,hc,kk,Au⟩:=au hok e1;obtain⟨x0,xr,rfl,FG,MO⟩:=e2.cons_inv;cases r1 with
    | cons r10 r1r=>
     rename_i u0 ur;refine⟨u0::fs,KatTups.cons ho hc Au (by simp) t,by simp[l],λv hv=>?_⟩;rcases Qs.mp hv with rfl | hv
     ·rcases vB with ⟨hb,p,rfl⟩ | ⟨hb,p,rfl⟩ | ⟨hb,p,rfl⟩
      ·have z1:=FG.str_inv;subst z1;obtain⟨t',rfl⟩:=r10;rw[hb];exact Looks.of_pure rfl
      ·have z1:=FG.int_inv;subst z1;obtain⟨t',rfl⟩:=r10;rw[hb];exact Looks.of_pure rfl
      ·obtain⟨a2,y2,q2,g1,g2⟩:=FG.af;subst q2;cases r10;obtain⟨aI,_,o2,sJ,oH,_⟩:=au hok g1;rw[hb];show Looks (model prog w) _ _ (Value.type "tuple");rw[<-oH];exact(Looks.ld sJ).andThen .now
     ·exact lk v hv
theorem uc:∀{xs:List V} {us:List Value} {ds:List D},aY H xs ds->aw xs us->(∀d∈ds,SK.s.ok d)->∃ss,StrsAre us ss
 | [],us,ds,_,r,_=>by cases r;exact⟨[],.nil⟩
 | x::xs,us,ds,h,r,hf=>by
  cases r with
  | cons r0 rr=>
   cases ds with
   | nil=>unfold aY at h;exact h.elim
   | cons d ds=>
    unfold aY at h;obtain⟨ss,q⟩:=uc h.2 rr λd hd=>hf d (Qj _ hd)
    obtain⟨y,rfl⟩:=hf d Qm;have z1:=h.1.str_inv;subst z1;obtain⟨t,rfl⟩:=r0;exact⟨y::ss,.cons y t q⟩
theorem sQ:∀{xs:List V} {us:List Value} {ds:List D},aY H xs ds->aw xs us->(∀d∈ds,SK.i.ok d)->∃ss,IntsAre us ss
 | [],us,ds,_,r,_=>by cases r;exact⟨[],.nil⟩
 | x::xs,us,ds,h,r,hf=>by
  cases r with
  | cons r0 rr=>
   cases ds with
   | nil=>unfold aY at h;exact h.elim
   | cons d ds=>
    unfold aY at h;obtain⟨ss,q⟩:=sQ h.2 rr λd hd=>hf d (Qj _ hd)
    obtain⟨y,rfl⟩:=hf d Qm;have z1:=h.1.int_inv;subst z1;obtain⟨t,rfl⟩:=r0;exact⟨y::ss,.cons y t q⟩
theorem Hn (hok:d9 P w H s.heap) (k:SK) {xs:List V} {us:List Value} {ds:List D} (hd:aY H xs ds) (r:aw xs us) (hf:∀d∈ds,k.ok d) (h2:2<=us.length) {Q:SortKind->Shared->Prop} {E:Value->Shared->Prop} (q:Q k.κ s):
  wpAny (model prog w) A (keyKind' us.toArray) Q E s:=by
 have tup:k= .tt\/k= .ts\/k= .ti->wpAny (model prog w) A (keyKind' us.toArray) Q E s:=λhk=>by obtain⟨fs,t,l,lk⟩:=sW (prog:=prog) hok hk hd r hf;refine kat_kind t (by lia) lk (by rcases hk with rfl | rfl | rfl <;> rfl) ?_;rcases hk with rfl | rfl | rfl <;> exact q
 cases k with
 | tt=>exact tup (.inl rfl)
 | ts=>exact tup (.inr (.inl rfl))
 | ti=>exact tup (.inr (.inr rfl))
 | s=>
  obtain⟨ss,hs⟩:=uc hd r hf
  match us,h2,hs with
  | v1::v2::vs,_,hs=>rw[keyKind_strs hs];exact Qe q
 | i=>
  obtain⟨ss,hs⟩:=sQ hd r hf
  match us,h2,hs with
  | v1::v2::vs,_,hs=>rw[keyKind_ints hs];exact Qe q
end
noncomputable def jP (ds:List D):Prop:=ds.length < 1000000/\(2<=ds.length->D.cL ds<=100/\(∃k:SK,∀d∈ds,k.ok d)/\∀d∈ds,∀e∈ds,D.ff d e)
section
variable {X:Cx} {pins:List (Addr×Obj)} {σ:L2.St} {H:Hp}
theorem vh {s:Shared} {A:Around} {Q:PySem.Fin->Shared->Prop} {E:Value->Shared->Prop} (hu:A.units + 148 < cLine) (I:Inv X pins σ H s) {ys:List V} {its:List Value} {ds:List D} (rv:aw ys its) (pX:aY H ys ds) (hc:jP ds)
  (q:∀(l:Addr) (zs:List V) (es:List D) (s':Shared),H l=none->aY H zs es->jR ds es->Inv X pins σ (upd H l (.lst zs)) s'->Q (.done (.ret (.ref l))) s'):
  wpAny (model X.prog X.w) A (do let l<-newList its;let _<-holding [l] (call (.builtin "list.sort") [l] []);ret l) Q E s:=by
 obtain⟨hlen,hc⟩:=hc;have hl:=rv.length;have fB:=pX.length;have zy:its.length<=sizeLine:=by rw[sizeLine_eq];lia
 refine Qb (wpAny_newList ?_ (by simpa using zy));have Jz:(s.heap.push (seqObj "list" its.toArray 0)).get? s.heap.objs.size=some (seqObj "list" its.toArray 0):=Qn _ rfl;show wpAny _ _ _ _ _ {s with heap:=s.heap.push (seqObj "list" its.toArray 0)};have ne:∀b o,s.heap.get? b=some o->b≠s.heap.objs.size:=λb o e=>QL (Qq e)
 refine Qb (wpAny_holding (wpAny_call_entry slot_list_sort (s:={s with heap:=s.heap.push (seqObj "list" its.toArray 0)}) ⟨_,Jz,rfl⟩ entry_list_sort
  (yK (s:={s with heap:=s.heap.push (seqObj "list" its.toArray 0)}) (O:=Gq) (key:=λi=>ds.getD i (.int 0)) Jz (by lia) (λh2 h' kk=>?_) λp h' e hp Lb kk hD=>?_) (args_list_sort _)))
 ·obtain⟨Ot,⟨k,hf⟩,zx⟩:=hc (by lia);have Ax:d9 X.prog X.w H h':=I.hok.kept λb o e=>kk b o (ne b o e) (Qd _ e)
  refine⟨k.κ,λQ' E' q'=>Hn (s:={s with heap:=h'}) Ax k pX rv hf (by lia) q',λi j hi hj C hC=>?_,λi j hi hj eij=>?_⟩
  ·obtain⟨di,Gz,Jr⟩:=pX.get (i:=i) (x:=ys[i]'(by lia)) (by simp);obtain⟨dj,Js,Kn⟩:=pX.get (i:=j) (x:=ys[j]'(by lia)) (by simp);obtain⟨ui,K9,L6⟩:=rv.get (i:=i) (x:=ys[i]'(by lia)) (by simp);obtain⟨uj,La,L7⟩:=rv.get (i:=j) (x:=ys[j]'(by lia)) (by simp);unfold kas_ask;rw[show its.getD i Value.none=ui by simp[K9],show its.getD j Value.none=uj by simp[La]];have ki:ds.getD i (.int 0)=di:=by simp[Gz]
   have kj:ds.getD j (.int 0)=dj:=by simp[Js]
   have mi:di∈ds:=List.mem_of_getElem? Gz;have mj:dj∈ds:=List.mem_of_getElem? Js;refine AN (s:={s with heap:=h'}) Ax (n:=100) (by show A.units + 1 + 100 < cLine;lia) k (Qr (ml Gz) (by lia)) (zx di mi dj mj) (hf di mi) (hf dj mj) Jr Kn L6 L7 ?_;have MS:C (D.lt (ds.getD i (.int 0)) (ds.getD j (.int 0))) {s with heap:=h'}:=hC;rw[ki,kj] at MS;exact MS
  ·obtain⟨di,Gz,Jr⟩:=pX.get (i:=i) (x:=ys[i]'(by lia)) (by simp);obtain⟨dj,Js,Kn⟩:=pX.get (i:=j) (x:=ys[j]'(by lia)) (by simp);obtain⟨ui,K9,L6⟩:=rv.get (i:=i) (x:=ys[i]'(by lia)) (by simp);obtain⟨uj,La,L7⟩:=rv.get (i:=j) (x:=ys[j]'(by lia)) (by simp);rw[show its.getD i Value.none=ui by simp[K9],show its.getD j Value.none=uj by simp[La]] at eij;subst eij;have ki:ds.getD i (.int 0)=di:=by simp[Gz]
   have kj:ds.getD j (.int 0)=dj:=by simp[Js]
   show ds.getD i (.int 0)=ds.getD j (.int 0);rw[ki,kj];rw[L6.inj L7] at Jr;exact Jr.inj Kn
 ·refine⟨_,rfl,Qe ?_⟩;have lg:p.toList.Perm (List.range its.length):=hp;have M5:∀i∈p.toList,i < ys.length:=λi hi=>by
   have:=Q1.mp (lg.mem_iff.mp hi)
   lia
  have new:bw X.prog X.w (upd H s.heap.objs.size (.lst (p.toList.map λi=>ys.getD i .bb))) h' s.heap.objs.size (.lst (p.toList.map λi=>ys.getD i .bb)):=
   ⟨by rw[Qp,lg.length_eq,List.length_range];rw[sizeLine_eq];lia,_,e,pO rv M5,hD⟩
  have I2:=I.laid (t':=s.toks) (a:=s.heap.objs.size) (λb o q=>kk b o (ne b o q) (Qd _ q)) (Ql _) new;refine q _ _ (p.toList.map λi=>ds.getD i (.int 0)) _ (I.hok.fresh (Ql _)) (pX.map M5) ⟨?_,?_⟩ I2
  ·have e1:=lg.map (λi=>ds.getD i (.int 0));rw[show its.length=ds.length by lia] at e1;rw[kh] at e1;exact e1
  ·have Lc:∀i j,i<=j->j < its.length->D.lt (ds.getD (p.getD j 0) (.int 0)) (ds.getD (p.getD i 0) (.int 0))=false:=Lb;have gM:p.toList.length=its.length:=by rw[lg.length_eq,List.length_range]
   rw[List.pairwise_map,List.pairwise_iff_getElem];intro i j hi hj fR;have:=Lc i j (by lia) (by lia);rw[show p.getD i 0=p.toList[i] by simp at hi;simp[Array.getD,hi],show p.getD j 0=p.toList[j] by simp at hj;simp[Array.getD,hj]] at this;exact this
end
noncomputable def EA (K:PySem.W.Frag):List V->Hp->VK->Prop:=λxs H Q=>∃a ys ds,xs=[.ref a]/\(dE K H a ys\/eh K H a ys)/\aY H ys ds/\jP ds/\∀l zs es,H l=none->aY H zs es->jR ds es->Q (.ref l) (upd H l (.lst zs))
theorem l9 {X:Cx} (hu:X.A.units + 150 < cLine):eQ X (.builtin "sorted") (EA X.K):=by
 intro pins s σ H xs us Q I r h;obtain⟨a,ys,ds,rfl,hq,pX,hc,q⟩:=h;obtain⟨u,rfl,ru⟩:=r.one;cases ru;have sh:∃(its:List Value) (T:String) (o:Obj) (n:Nat),aw ys its/\(T="list"\/T="tuple")/\s.heap.get? a=some o/\o.cls= .type T/\o.data= .seq its.toArray n:=by
  rcases hq with hq | hq
  ·obtain⟨its,rv,⟨o,n,ho,hc,_,hd⟩,_⟩:=I.list hq;exact⟨its,"list",o,n,rv,.inl rfl,ho,hc,hd⟩
  ·obtain⟨its,rv,⟨o,ho,hc,n,hd⟩,_⟩:=I.tuple hq;exact⟨its,"tuple",o,n,rv,.inr rfl,ho,hc,hd⟩
 obtain⟨its,T,o,n,rv,hT,ho,Dc,hd⟩:=sh;have zy:its.length<=sizeLine:=by rw[sizeLine_eq,<-rv.length,pX.length];have:=hc.1;lia
 refine Calls.call_function_entry kind_sorted plain_sorted entry_sorted (args_sorted1 _) ?_;unfold Builtin.«sorted»;refine Qb (m:=checkCount "sorted" 1 1 _) (Qe (Qb (wpAny_collect_seq a hT ho Dc hd (λh1 k1=>?_) (by rw[Qg];exact zy))));have I1:Inv X pins σ H {s with heap:=h1}:=I.kept (t':=s.toks) k1;exact vh (A:=X.A.in1) (by show X.A.units + 1 + 148 < cLine;lia) I1 rv pX hc λl zs es s' hl hz hso I2=>⟨_,rfl,.ref l,_,I2,rfl,q l zs es hl hz hso⟩
end Mx
end
section
namespace Mx
open PySem PySem.W PySem.Spec PyProof.Rows L2
theorem tK (ns:List Int):∀j,preSum (λi=>ns.getD i 0) j=(ns.take j).sum
 | 0=>by simp[preSum]
 | j + 1=>by
  rw[preSum,tK ns j];by_cases h:j < ns.length
  ·have e:ns.take (j + 1)=ns.take j++[ns[j]]:=by rw[List.take_append_getElem h]
   rw[e,List.sum_append];simp[h]
  ·rw[List.take_of_length_le (by lia),List.take_of_length_le (by lia)];simp[show ns.length<=j by lia]
theorem int_at {ns:List Int} {its:List Value} (r:aw (ns.map V.int) its) {i:Nat} {v:Value} (h:its[i]?=some v):∃t,v= .int (ns.getD i 0) t:=by
 have hl:=r.length;have hi:i < ns.length:=by
  have:=(Qi.mp h).1;simp at hl
  lia
 obtain⟨u,hu,ru⟩:=r.get (i:=i) (x:=V.int (ns.getD i 0)) (by simp[hi]);rw[h] at hu;cases hu;exact ru
section
variable {X:Cx}
theorem xG {prog:Program} {w:World} {A:Around} {E:Value->Shared->Prop} {s:Shared} {l:Addr} {items:Array Value} {Q:Value->Shared->Prop} (hl:s.heap.IsList l items)
  (h:∀s2:Shared,s2={s with heap:=s.heap.push {cls:= .type "list_iterator",data:= .fields #[.ref l,.int 0 0]}}->(s2.heap.IsListIter s.heap.objs.size l 0/\s2.heap.IsList l items)->(∀b∈[s.heap.objs.size,l],b < s2.heap.objs.size)->l≠s.heap.objs.size->
   (∀(b:Addr) (o:Obj),s.heap.get? b=some o->b∉[s.heap.objs.size]/\s2.heap.get? b=some o)->Q (.ref s.heap.objs.size) s2):wpAny (model prog w) A (pyIter (.ref l)) Q E s:=by
 have lt:l < s.heap.objs.size:=by obtain⟨_,e,_⟩:=hl;exact Qq e
 refine wpAny_pyIter_list hl (h _ rfl ⟨⟨_,Qn _ rfl,rfl,rfl⟩,hl.push _⟩ (λb hb=>?_) (QL lt) λb o e=>⟨?_,Qd _ e⟩)
 ·show b < (s.heap.push _).objs.size;rw[QK];simp only[Qs,Qt,or_false] at hb;have lt':l < s.heap.objs.size:=lt;rcases hb with rfl | rfl
  ·exact Nat.lt_succ_self _
  ·exact Nat.lt_succ_of_lt lt'
 ·intro hb;have:=Qq e;rw[QO.mp hb] at this;exact Nat.lt_irrefl _ this
noncomputable def LZ (K:PySem.W.Frag):List V->Hp->VK->Prop:=λxs H Q=>∃(l:Addr) (ns:List Int),xs=[.ref l]/\dE K H l (ns.map V.int)/\Q (.int ns.sum) H
theorem wq (hc:X.calm=true):eQ X (.builtin "sum") (LZ X.K):=by
 intro pins s σ H xs us Q I r h;obtain⟨l,ns,rfl,hq,q⟩:=h;obtain⟨u,rfl,ru⟩:=r.one;cases ru;obtain⟨its,rv,pl,hz⟩:=I.list hq;have hl:its.length=ns.length:=by rw[<-rv.length];simp
 refine call_sum_walkG (xG pl.isList λs2 e st fp ne old=>?_);refine⟨_,_,_,_,_,_,λi=>ns.getD i 0,rfl,Walks.list (A:=X.A.in1) (I.ok.hd hc) _ l ne its.toArray,st,fp,λi v hv=>?_,λh' tk t' hk=>?_⟩
 ·have Lg:its.toArray[i]?=some v:=hv;exact int_at rv (by simpa using Lg)
 ·subst e;refine⟨.int _,H,I.kept λb o e=>hk b o (old b o e).1 (old b o e).2,⟨t',rfl⟩,?_⟩;rw[show its.toArray.size=ns.length by simp[hl],tK,List.take_length];exact q
end
theorem gn {i:Nat} {v:V} {σ:L2.St} {H:Hp} {k:L2.St->Hp->Prop} (h:k (σ.set i (some v)) H):dX i v σ H k:=h
end Mx
end
section
namespace Mx
open PySem PySem.W PySem.Spec PyProof.Rows L2 HT
open PySem.AutoSeq1 (wpAny_loadPart')
theorem tuple_addW0 (l b:Addr) (items fD:Array Value) (n n2:Nat) (dd zm:Option Addr) (sl vF:Array (Option Value)) (PY:items.isEmpty=true):
  Meets (Builtin.«tuple.__add__» ⟨[.ref l,.ref b],[]⟩) (λ_ R s=>s.heap.get? l=some {cls:= .type "tuple",dict:=dd,data:= .seq items n,slots:=sl}/\s.heap.get? b=some {cls:= .type "tuple",dict:=zm,data:= .seq fD n2,slots:=vF}/\R (.ok (.ret (Value.ref b))) s):=
 .of_wp λprog w A R s h=>by
  obtain⟨hp,g,d,tk,os⟩:=s;obtain⟨hl,hb,h⟩:=h;have f2:=sub_tuple_tuple
  wp_walk using wpAny_loadPart' hl,wpAny_loadPart' hb
  exact⟨_,rfl,h⟩
theorem xH {α:Type} (pre:List α) (x:α):mO (pre++[x]).length (-1)=some pre.length:=by
 unfold mO;rw[if_neg (by decide),if_pos (by simp;lia)];simp
 lia
theorem nU {α:Type} (pre:List α) (x:α):jU (pre++[x]) (-1)=some x:=by unfold jU;rw[xH];simp
end Mx
end
section
namespace L2
open PySem PySem.Spec PyProof.Rows
noncomputable def gJ (e:Expr) (d:Nat) (it acc:Value) (env:Env) (target:Expr) (ifs:List Expr) (p:Pos) (body:Sem Unit):Sem PySem.Fin:=do
 standAt p
 match<-pyNext it with
 | none=>pure (.done .next)
 | some v=>
  letOwnedTupleGo target it v
  assign target env v
  let mut ok:=true
  for c in ifs do
   if ok then ok<-isTrue c env (eval c env)
  if ok then body
  again (.compLoop e d it acc env)
theorem mf {prog:Program} {w:World} {A:Around} {R:Result->Shared->Prop} {s:Shared} {elt target:Expr} {gens:List Comprehension} {scope:Scope} {pos:Pos} {d:Nat} {ifs:List Expr} {p:Pos} {it acc:Value} {env:Env} {body:Sem Unit} (heq:compTurn (.ListComp elt gens scope pos) d it acc env=gJ (.ListComp elt gens scope pos) d it acc env target ifs p body) {EE:Value->Shared->Prop}
  (GJ:∀x s',EE x s'->notedBy (model prog w) A env (λx s'=>R (.error x) s') x s') (I:Nat->Shared->Prop)
  (turn:∀n s,I n s->wpAny (model prog w) A (pyNext it) (λr s₁=>match r with
   | none=>R (.ok .next) s₁
   | some v=>wpAny (model prog w) A (letOwnedTupleGo target it v) (λ_ s₁'=>wpAny (model prog w) A (assign target env v) (λ_ s₂=>
     wpAny (model prog w) A (forIn ifs true λc r=>if r=true then do let ok<-isTrue c env (eval c env);pure (ForInStep.yield ok) else pure (ForInStep.yield r)) (λok s₃=>
      if ok=true then wpAny (model prog w) A body (λ_ s₄=>∃m,m < n/\I m s₄) EE s₃
      else∃m,m < n/\I m s₃) EE s₂) EE s₁') EE s₁) EE s)
  (n:Nat) (h:I n s):codeAny (model prog w) A (.compLoop (.ListComp elt gens scope pos) d it acc env) R s:=by
 refine codeAny_loop rfl I (λn s hI=>?_) n h;show wpAny _ A ((compTurn (.ListComp elt gens scope pos) d it acc env).onRaise (λx=>do noteFrame x env;theTreesLotGoes x)) _ _ s;refine wpAny_noted ?_;rw[heq];unfold gJ;refine Qb (wpAny_standAt (Qb (wpAny_mono (turn n s hI) (λr s₁ h₁=>?_) GJ)));cases r with
 | none=>exact Qe h₁
 | some v=>
  refine Qb (wpAny_mono h₁ (λ_ s₁' h₁'=>?_) GJ);refine Qb (wpAny_mono h₁' (λ_ s₂ h₂=>Qb (wpAny_mono h₂ (λok s₃ h₃=>?_) GJ)) GJ);cases ok with
  | false=>exact Qe ⟨rfl,h₃⟩
  | true=>exact Qb (wpAny_mono h₃ (λ_ s₄ h₄=>Qe ⟨rfl,h₄⟩) GJ)
noncomputable def j3 (elt:Expr) (acc:Value) (env:Env):Sem Unit:=do let _<-call (.builtin "list.append") [acc,<-eval elt env]
theorem pN (elt target iter:Expr) (ifs:List Expr) (scope:Scope) (pos:Pos) (it acc:Value) (env:Env):
  compTurn (.ListComp elt [⟨target,iter,ifs,0⟩] scope pos) 0 it acc env=gJ (.ListComp elt [⟨target,iter,ifs,0⟩] scope pos) 0 it acc env target ifs iter.pos (j3 elt acc env):=by rfl
noncomputable def Le (σ σ2:St):Prop:=σ2.length=σ.length/\∀(j:Nat) (v:V),σ[j]?=some (some v)->σ2[j]?=some (some v)
theorem Le.refl (σ:St):Le σ σ:=⟨rfl,λ_ _ h=>h⟩
noncomputable def GL (σ0:St) (g:TG):Prop:=∀x σ H (Q:St->Hp->Prop),Le σ0 σ->g x σ H Q->g x σ H λσ2 H2=>Le σ0 σ2/\Q σ2 H2
noncomputable def FY (σ0:St) (g:vN):Prop:=∀x σ H (Q:St->Hp->Prop),Le σ0 σ->g x σ H Q->g x σ H λσ2 H2=>Le σ0 σ2/\Q σ2 H2
theorem Le.set {k:Nat} {σ0 σ:St} {v:Option V} (h:σ0[k]?=some none) (q:Le σ0 σ):Le σ0 (σ.set k v):=⟨by simpa using q.1,λj w hj=>by
 rw[Qx (by rintro rfl;rw[h] at hj;cases hj)];exact q.2 j w hj⟩
theorem Am {σ0:St} {k:Nat} (h:σ0[k]?=some none):GL σ0 (dX k):=λx σ H Q p q=>⟨p.set h,q⟩
theorem An {σ0:St}:FY σ0 C7:=λx σ H Q p q=>⟨q.1,p,q.2⟩
theorem xh {σ0:St} {k:Nat} {u:vN} (h:σ0[k]?=some none) (hu:FY σ0 u):FY σ0 (wX (dX k) u):=λx σ H Q p q=>by obtain⟨v,r,e,q⟩:=q;exact⟨v,r,e,hu r _ H Q (p.set h) q⟩
theorem Da {σ0:St} {K:PySem.W.Frag} {n:Nat} {u:vN} (hu:FY σ0 u):GL σ0 (C8 K n u):=λx σ H Q p q=>by obtain⟨a,xs,e,h1,h2,q⟩:=q;exact⟨a,xs,e,h1,h2,hu xs σ H Q p q⟩
theorem Inv.le {X:Cx} {pins:List (Addr×Obj)} {σ σ2:St} {H:Hp} {s:Shared} (I:Inv X pins σ2 H s) (h:Le σ σ2):Inv X pins σ H s:=I.weak h.1.symm h.2
noncomputable abbrev TB:=St->Hp->(Hp->Prop)->Prop
noncomputable def PB (X:Cx) (body:Sem Unit) (tb:TB):Prop:=∀(pins:List (Addr×Obj)) (s:Shared) (σ:St) (H:Hp) (Q:Hp->Prop),Inv X pins σ H s->tb σ H Q->wpAny (model X.prog X.w) X.A body (λ_ s'=>∃H',Inv X pins σ H' s'/\Q H') X.xe s
noncomputable def rN (J:It) (g:TG) (tt:TT) (tb:TB) (σ0:St) (F:Hp->Prop) (H1:Hp):Prop:=
 ∃W:Nat->Nat->Hp->Prop,(∃m,W 0 m H1)/\∀i m H,W i m H->
  (J.stop i H/\F H)\/(J.go i H/\∀x H',J.yld i H x H'->g x σ0 H' λσ2 H2=>tt σ2 H2 λb H3=>if b=true then tb σ2 H3 λH4=>∃m',m' < m/\W (i + 1) m' H4 else∃m',m' < m/\W (i + 1) m' H3)
section
variable {X:Cx} {g:TG} {tt:TT} {tb:TB}
theorem uC (hc:X.calm=true) {elt target:Expr} {gens:List Comprehension} {scope:Scope} {pos:Pos} {d:Nat} {ifs:List Expr} {p:Pos} {acc:Value} {body:Sem Unit} {R:Result->Shared->Prop} {pins:List (Addr×Obj)} {σ0:St} {H0:Hp} {s0:Shared} {it:Addr} {fp:List Addr} {tn:Nat->Heap->Prop} {J:It} {F:Hp->Prop}
  (heq:compTurn (.ListComp elt gens scope pos) d (.ref it) acc X.env=gJ (.ListComp elt gens scope pos) d (.ref it) acc X.env target ifs p body) (hx:∀x s',X.xe x s'->notedBy (model X.prog X.w) X.A X.env (λx s'=>R (.error x) s') x s')
  (hg:PG X target g) (lH:GL σ0 g) (ht:CC X ifs tt) (hb:PB X body tb) (I0:Inv X pins σ0 H0 s0) (T:Turn X.prog X.w X.K target J fp it tn) (dc:tn 0 s0.heap) (f0:∀b∈fp,gv X pins H0 b)
  (hW:rN J g tt tb σ0 F H0) (fin:∀s' H',Inv X pins σ0 H' s'->F H'->R (.ok .next) s'):codeAny (model X.prog X.w) X.A (.compLoop (.ListComp elt gens scope pos) d (.ref it) acc X.env) R s0:=by
 obtain⟨W,⟨m0,w0⟩,turn⟩:=hW;have ny:∀{H':Hp},(∀b∈fp,H' b=none)->∀b∈fp,gv X pins H' b:=λhn b hb=>⟨hn b hb,(f0 b hb).2⟩
 refine mf heq hx (λn s'=>∃i H',Inv X pins σ0 H' s'/\tn i s'.heap/\(∀b∈fp,H' b=none)/\W i n H') ?_ m0 ⟨0,H0,I0,dc,λb hb=>(f0 b hb).1,w0⟩;rintro n s4 ⟨i,H4,I4,Nu,MN,w4⟩;rcases turn i n H4 w4 with ⟨stop,qn⟩ | ⟨go,step⟩
 ·refine bO (T.done X rfl rfl rfl hc i pins s4 _ H4 X.xe I4 (ny MN) Nu stop) λr s5 ⟨hr,I5⟩=>?_
  subst hr;exact fin s5 H4 I5 qn
 ·refine bO (T.item X rfl rfl rfl hc i pins s4 _ H4 X.xe I4 (ny MN) Nu go) λr s5 ⟨u,hr,h5⟩=>?_
  subst hr;refine bO h5 λ_ s6 ⟨x,H6,I6,r6,y6,Mg,NV⟩=>?_
  have NH:=I6.pinned (ny NV) (T.obj _ _ Mg);have again:∀{s7:Shared} {σ7:St} {H7:Hp} {m7:Nat},Inv X (pins++kD fp s6.heap) σ7 H7 s7->Le σ0 σ7->m7 < n->W (i + 1) m7 H7->
    ∃m,m < n/\∃i H',Inv X pins σ0 H' s7/\tn i s7.heap/\(∀b∈fp,H' b=none)/\W i m H':=λ {s7 σ7 H7 m7} I7 hσ hm w7=>by
   refine⟨m7,hm,i + 1,H7,I7.iG.le hσ,T.keep _ _ _ Mg λb hb o e=>(I7.pin (b,o) (QM _ (QM _ (eA hb e)))).1,λb hb=>?_,w7⟩;obtain⟨o,e,d⟩:=T.obj _ _ Mg b hb;exact(I7.pin (b,o) (QM _ (QM _ (eA hb e)))).2.1
  refine bO (hg _ s6 _ H6 x u _ NH r6 (lH x _ H6 _ (Le.refl _) (step x H6 y6))) λ_ s7 ⟨σ7,H7,I7,Nj,q7⟩=>?_
  refine bO (ht _ s7 σ7 H7 _ I7 q7) λb s8 ⟨H8,I8,q8⟩=>?_
  cases b with
  | false=>rw[if_neg (by simp)] at q8 ⊢;obtain⟨m',hm,w8⟩:=q8;exact again I8 Nj hm w8
  | true=>
   rw[if_pos rfl] at q8 ⊢;refine bO (hb _ s8 σ7 H8 _ I8 q8) λ_ s9 ⟨H9,I9,m',hm,w9⟩=>?_
   exact again I9 Nj hm w9
noncomputable def yS (D:Addr) (te:TE):TB:=λσ H Q=>te σ H λv H4=>∃fZ,H4 D=some (.lst fZ)/\fZ.length < sizeLine/\Q (upd H4 D (.lst (fZ++[v])))
theorem tD {elt:Expr} {te:TE} {D:Addr} (he:PE X elt te):PB X (j3 elt (.ref D) X.env) (yS D te):=by intro pins s σ H Q I h;unfold j3;refine Qb (bO (he pins s σ H _ I h) λy s9 ⟨v,H9,I9,r9,fZ,N9,hz,q⟩=>?_);refine Qb (bO (lQ _ s9 σ H9 (.ref D) [v] (.ref D) [y] (λ_ H'=>H'=upd H9 D (.lst (fZ++[v]))) I9 rfl (.cons r9 .nil) ⟨D,fZ,v,rfl,rfl,N9,hz,rfl⟩) λ_ s10 ⟨_,PJ,NF,_,NN⟩=>?_);subst NN;exact Qe ⟨_,NF,q⟩
end
theorem fJ {x:Str} {c:Addr}:∀(names:List (Str×NameKind)) (n:Nat) (acc:List (Str×Addr)),(cellsFrom n names acc).lookup x=some c->(n<=c/\(x,NameKind.cell)∈names)\/acc.lookup x=some c
 | [],n,acc,h=> .inr h
 | (y,k)::r,n,acc,h=>by
  unfold cellsFrom at h;by_cases hk:(k==NameKind.cell)=true
  ·rw[if_pos hk] at h;rcases fJ r (n + 1) _ h with ⟨h1,h2⟩ | h1
   ·exact .inl ⟨Qr (Nat.le_succ _) h1,Qj _ h2⟩
   ·rw[QG] at h1;cases hb:x==y with
    | true=>
     rw[hb] at h1;cases h1;have:x=y:=by simpa using hb
     subst this;have:k=NameKind.cell:=by simpa using hk
     subst this;exact .inl ⟨Ql _,Qm⟩
    | false=>rw[hb] at h1;exact .inr h1
  ·rw[if_neg hk] at h;rcases fJ r n _ h with ⟨h1,h2⟩ | h1
   ·exact .inl ⟨h1,Qj _ h2⟩
   ·exact .inr h1
theorem qr {x y:Str} {c:Addr}:∀(names:List (Str×NameKind)) (n:Nat) (acc:List (Str×Addr)),(∀x c,acc.lookup x=some c->c < n)->(∀x y c,acc.lookup x=some c->acc.lookup y=some c->x=y)->
  (cellsFrom n names acc).lookup x=some c->(cellsFrom n names acc).lookup y=some c->x=y
 | [],n,acc,h1,h2,hx,hy=>h2 x y c hx hy
 | (z,k)::r,n,acc,h1,h2,hx,hy=>by
  unfold cellsFrom at hx hy;by_cases hk:(k==NameKind.cell)=true
  ·rw[if_pos hk] at hx hy;refine qr r (n + 1) _ (λa b eS=>?_) (λa b e ha hb=>?_) hx hy
   ·rw[QG] at eS;cases hq:a==z with
    | true=>rw[hq] at eS;cases eS;exact Nat.lt_succ_self _
    | false=>rw[hq] at eS;exact Nat.lt_succ_of_lt (h1 a b eS)
   ·rw[QG] at ha hb;cases hq:a==z with
    | true=>
     rw[hq] at ha;cases ha;cases hq2:b==z with
     | true=>
      have e1:a=z:=by simpa using hq
      have e2:b=z:=by simpa using hq2
      rw[e1,e2]
     | false=>rw[hq2] at hb;exact absurd (h1 b _ hb) (Nat.lt_irrefl _)
    | false=>
     rw[hq] at ha;cases hq2:b==z with
     | true=>rw[hq2] at hb;cases hb;exact absurd (h1 a _ ha) (Nat.lt_irrefl _)
     | false=>rw[hq2] at hb;exact h2 a b e ha hb
  ·rw[if_neg hk] at hx hy;exact qr r n acc h1 h2 hx hy
theorem md {x:Str} {c:Addr}:∀(names:List (Str×NameKind)) (n:Nat) (acc:List (Str×Addr)),(x,NameKind.cell)∉names->acc.lookup x=some c->(cellsFrom n names acc).lookup x=some c
 | [],n,acc,_,h=>h
 | (z,k)::r,n,acc,hn,h=>by
  unfold cellsFrom;by_cases hk:(k==NameKind.cell)=true
  ·rw[if_pos hk];refine md r (n + 1) _ (λz'=>hn (Qj _ z')) ?_;rw[QG];have:(x==z)=false:=by
    cases hq:x==z with
    | false=>rfl
    | true=>
     have e1:x=z:=by simpa using hq
     have e2:k=NameKind.cell:=by simpa using hk
     subst e1 e2;exact absurd Qm hn
   rw[this];exact h
  ·rw[if_neg hk];exact md r n acc (λz'=>hn (Qj _ z')) h
theorem jW {x:Str} {c:Addr}:∀(names:List (Str×NameKind)) (h:Heap) (acc:List (Str×Addr)),(∀x c,acc.lookup x=some c->∃v,h.IsCell c v)->(cellsFrom h.objs.size names acc).lookup x=some c->∃v,(pushCells h names).IsCell c v
 | [],h,acc,ha,hx=>ha x c hx
 | (z,k)::r,h,acc,ha,hx=>by
  unfold cellsFrom at hx;unfold pushCells;by_cases hk:(k==NameKind.cell)=true
  ·rw[if_pos hk] at hx ⊢;refine jW r _ ((z,h.objs.size)::acc) (λa b eS=>?_) (by rw[QK];exact hx);rw[QG] at eS;cases hq:a==z with
   | true=>rw[hq] at eS;cases eS;exact⟨none,_,Qn _ rfl,rfl⟩
   | false=>rw[hq] at eS;obtain⟨v,o,ho,hd⟩:=ha a b eS;exact⟨v,o,Qd _ ho,hd⟩
  ·rw[if_neg hk] at hx ⊢;exact jW r h acc ha hx
theorem pQ {M:Model} {A:Around} {E:Value->Shared->Prop} {s:Shared} {scope:Scope} {globals:Addr} {cl:List (Str×Addr)} {qual:Str} {out:Env} {Q:Env->Shared->Prop}
  (hQ:∀h',h'=pushCells (s.heap.push {cls:= .type "dict",data:= .dict #[]}) scope.names->Q (newEnv scope s.heap.objs.size globals (cellsFrom (s.heap.objs.size + 1) scope.names cl) qual none .none (some out) builtinsNs) {s with heap:=h'}):
  wpAny M A (newFunctionEnv scope globals cl [] qual none .none (some out)) Q E s:=by
 simp only[newFunctionEnv,Option.isSome_some,if_true];refine Qb (wpAny_alloc ?_);refine Qb (wpAny_layCells _ (λname kind cells=>by cases hkc:kind==NameKind.cell <;> simp[hkc]) _ _ _ _ ?_);rw[show ({s with heap:=s.heap.push {cls:= .type "dict",data:= .dict #[]}}:Shared).heap.objs.size=s.heap.objs.size + 1 from QK ..];rw[List.forIn_nil];exact Qb (Qe (Qe (hQ _ rfl)))
noncomputable def f6 (X:Cx) (scope:Scope) (N':List Str) (C:Addr) (s:Shared) (H:Hp) (fp:List Addr) (xe:Value->Shared->Prop):Cx:=
 {X with N:=N',s₀:=s,H₀:=H,env:=compEnvC scope (cellsFrom (C + 1) scope.names (eZ scope X.env)) C X.env,outer:=X.stack,stack:=X.stack,ex:=fp,fn:=λx=>scope.names.lookup x==some .cell,pn:=[],xe:=xe}
structure fu (X:Cx) (scope:Scope) (N':List Str) (cap:List (Option Nat)):Prop where
 kind:scope.kind= .function
 nd:∀y∈scope.names,scope.names.lookup y.1=some y.2
 free:∀y∈scope.names,y.2= .free->X.env.scope.names.lookup y.1=some .cell\/X.env.scope.names.lookup y.1=some .free
 uz:∀(j i:Nat),cap[j]?=some (some i)->∃x,N'[j]?=some x/\X.N[i]?=some x/\scope.names.lookup x=some .free
 len:cap.length=N'.length
section
variable {X:Cx} {scope:Scope} {N':List Str} {cap:List (Option Nat)} {pins:List (Addr×Obj)} {σ:St} {H:Hp} {s:Shared}
theorem fu.frees (B:fu X scope N' cap) (ok:X.Ok):∀y∈scope.names,y.2= .free->∃c,X.env.cells.lookup y.1=some c:=λy hy hf=>ok.has y.1 (B.free y hy hf)
theorem fu.up (B:fu X scope N' cap) (ok:X.Ok) {x:Str} {c:Addr} (h:(eZ scope X.env).lookup x=some c):X.env.cells.lookup x=some c:=
 ja scope.names [] (B.frees ok) (λ_ z=>by simp at z) h
theorem fu.o7 (B:fu X scope N' cap) {x:Str} (h:scope.names.lookup x=some .free):(x,NameKind.cell)∉scope.names:=λz=>by have:=B.nd _ z;rw[h] at this;cases this
theorem qo {xe:Value->Shared->Prop} (B:fu X scope N' cap) (I:Inv X pins σ H s) {fp:List Addr} {tk:Nat} (hf:∀b∈fp,gv X pins H b) (cH:∀b∈fp,b < s.heap.objs.size):
  Inv (f6 X scope N' s.heap.objs.size s H fp xe) [] (cW cap σ) H {s with heap:=pushCells (s.heap.push {cls:= .type "dict",data:= .dict #[]}) scope.names,toks:=tk}:=by
 have ok:=I.ok;have hz:(s.heap.push {cls:= .type "dict",data:= .dict #[]}).objs.size=s.heap.objs.size + 1:=QK ..;have hk:∀b o,s.heap.get? b=some o->(pushCells (s.heap.push {cls:= .type "dict",data:= .dict #[]}) scope.names).get? b=some o:=λb o e=>pushCells_keeps _ _ _ _ (Qd _ e)
 have FN:(pushCells (s.heap.push {cls:= .type "dict",data:= .dict #[]}) scope.names).Ns s.heap.objs.size λ_=>none:=(Heap.Ns.new s.heap (.type "dict")).keeps (pushCells_keeps _ _)
 have NL:∀x c,(eZ scope X.env).lookup x=some c->c < s.heap.objs.size:=λx c h=>by obtain⟨v,z⟩:=I.cell x c (B.up ok h);exact z.lt
 have wx:∀x c,(cellsFrom (s.heap.objs.size + 1) scope.names (eZ scope X.env)).lookup x=some c->(s.heap.objs.size + 1<=c/\(x,NameKind.cell)∈scope.names)\/X.env.cells.lookup x=some c:=λx c h=>(fJ _ _ _ h).imp id (B.up ok)
 have qL:∀x,scope.names.lookup x=some .free->(compEnvC scope (cellsFrom (s.heap.objs.size + 1) scope.names (eZ scope X.env)) s.heap.objs.size X.env).kindOf x=some .cell\/(compEnvC scope (cellsFrom (s.heap.objs.size + 1) scope.names (eZ scope X.env)) s.heap.objs.size X.env).kindOf x=some .free:=λx hx=>by
  have q:=aS (env:=X.env) hx;by_cases hc:(NameKind.free==NameKind.free&&X.env.scope.kind== .function&&X.env.kindOf x==some .cell)=true
  ·rw[if_pos hc] at q;exact .inl q
  ·rw[if_neg hc] at q;exact .inr q
 refine⟨⟨ok.mod,?kind,ok.glob,ok.blt,Ql _,?inj,?has,?zl,ok.hd,ok.frames,.inl rfl,?BV,I.bs,Qr ok.we I.sz,?lh,?mq,I.stack,I.nB⟩,
  rfl,I.bare,Un.kept hk,⟨_,FN,?loc⟩,?cell,I.hok.fresh (Ql _),?cG,?pin,I.hok.kept hk,?len⟩
 case kind=>exact B.kind
 case inj=>exact λx y c h1 h2=>qr _ _ _ (λx c h=>Nat.lt_succ_of_lt (NL x c h)) (λx y c h1 h2=>ok.inj x y c (B.up ok h1) (B.up ok h2)) h1 h2
 case has=>
  intro x hx;cases hl:scope.names.lookup x with
  | none=>
   have q:=bP (env:=X.env) hl;exact absurd hx (by
    have q':(compEnvC scope (cellsFrom (s.heap.objs.size + 1) scope.names (eZ scope X.env)) s.heap.objs.size X.env).kindOf x=none:=q;show¬((compEnvC scope (cellsFrom (s.heap.objs.size + 1) scope.names (eZ scope X.env)) s.heap.objs.size X.env).kindOf x=some .cell\/(compEnvC scope (cellsFrom (s.heap.objs.size + 1) scope.names (eZ scope X.env)) s.heap.objs.size X.env).kindOf x=some .free);rw[q'];simp)
  | some k=>
   have q:(compEnvC scope (cellsFrom (s.heap.objs.size + 1) scope.names (eZ scope X.env)) s.heap.objs.size X.env).kindOf x=some (if (k==NameKind.free&&X.env.scope.kind== .function&&X.env.kindOf x==some .cell) then NameKind.cell else k):=aS (env:=X.env) hl;have hm:=PySem.mem_of_lookup hl;by_cases Dg:k= .free
   ·subst Dg;obtain⟨c,Dc⟩:=jX (env:=X.env) scope.names [] (.inl hm);exact⟨c,md _ _ _ (B.o7 hl) Dc⟩
   ·have hb:(k==NameKind.free)=false:=by simpa using Dg
    have nI:(compEnvC scope (cellsFrom (s.heap.objs.size + 1) scope.names (eZ scope X.env)) s.heap.objs.size X.env).kindOf x=some .cell\/(compEnvC scope (cellsFrom (s.heap.objs.size + 1) scope.names (eZ scope X.env)) s.heap.objs.size X.env).kindOf x=some .free:=hx;rw[q,hb] at nI;simp only[Bool.false_and,Bool.false_eq_true,if_false,Option.some.injEq] at nI;rcases nI with z | z
    ·subst z;exact Option.isSome_iff_exists.mp (PySem.W.cellsFrom_some scope.names _ _ (.inl hl))
    ·exact absurd z Dg
 case zl=>
  intro x c xt h;have xt:(scope.names.lookup x==some .cell)=true:=xt;rcases fJ _ _ _ h with ⟨h1,_⟩ | h1
  ·exact Qr (Nat.le_succ _) h1
  ·exfalso;have e:=QD xt;have:∀(l:List (Str×NameKind)) (cs:List (Str×Addr)),(∀c,cs.lookup x≠some c)->(∀y∈l,y.1=x->y.2≠ .free)->(me X.env l cs).lookup x=none:=by
    intro l
    induction l with
    | nil=>
     intro cs vA _;cases hq:cs.lookup x with
     | none=>exact hq
     | some c=>exact absurd hq (vA c)
    | cons y l ih=>
     intro cs vA hl;obtain⟨n,k⟩:=y;show (me X.env l (if (k==NameKind.free)=true then(n,(X.env.cells.lookup n).getD 0)::cs else cs)).lookup x=none;refine ih _ (λc=>?_) λy hy=>hl y (Qj _ hy)
     by_cases hk:(k==NameKind.free)=true
     ·rw[if_pos hk,QG];have:(x==n)=false:=by
       cases hq:x==n with
       | false=>rfl
       | true=>
        have e1:x=n:=by simpa using hq
        have e2:k=NameKind.free:=by simpa using hk
        exact absurd e2 (hl (n,k) Qm e1.symm)
      rw[this];exact vA c
     ·rw[if_neg hk];exact vA c
   have q:=this scope.names [] (λc z=>by simp at z) λy hy e1 e2=>by have:=B.nd y hy;rw[e1,e2,e] at this;cases this
   unfold eZ at h1;rw[q] at h1;cases h1
 case BV=>
  intro b hb;refine⟨QL (cH b hb),λx c e=>?_⟩;rcases wx x c e with ⟨h1,_⟩ | h1
  ·intro z;subst z;exact absurd (QB (cH c hb) (Qr (Nat.le_succ _) h1)) (Nat.lt_irrefl _)
  ·exact(hf b hb).2.2.2.2.1 x c h1
 case lh=>
  intro b o e hb;rcases (hf b hb).2.2.2.1 with z | z
  ·exact ok.lh b o e z
  ·exact absurd (QB (Qq (ok.bs b o e).1) z) (Nat.lt_irrefl _)
 case mq=>
  intro b hb hs;rcases Qs.mp (I.kL b hs) with z | z
  ·exact(hf b hb).2.1 z
  ·exact(hf b hb).2.2.1 z
 case loc=>
  intro j x v h1 h2 h3;have hj:∃i,cap[j]?=some (some i)/\(σ[i]?).join=some v:=by
   unfold cW at h2;rw[Qz] at h2;cases hc:cap[j]? with
   | none=>rw[hc] at h2;cases h2
   | some o=>
    rw[hc] at h2;cases o with
    | none=>cases h2
    | some i=>exact⟨i,rfl,by simpa using h2⟩
  obtain⟨i,hc,hv⟩:=hj;obtain⟨x',e1,e2,e3⟩:=B.uz j i hc;have ex:x'=x:=by have Kj:N'[j]?=some x:=h1;rw[Kj] at e1;injection e1 with e1;exact e1.symm
  subst ex;have Lg:σ[i]?=some (some v):=by
   cases q:σ[i]? with
   | none=>rw[q] at hv;cases hv
   | some o=>rw[q] at hv;cases o with
    | none=>cases hv
    | some z=>simp at hv;rw[hv]
  have Hc:=B.free _ (PySem.mem_of_lookup e3) rfl;obtain⟨m,hn,hl⟩:=I.loc;obtain⟨u,r,l⟩:=hl i x' v e2 Lg (.inr Hc);refine⟨u,r,?_⟩;obtain⟨c,Dc⟩:=jX (env:=X.env) scope.names [] (.inl (PySem.mem_of_lookup e3));have M0:=B.up ok Dc;rcases l with ⟨k,_⟩ | ⟨k,c',e,z⟩
  ·exfalso;have k':X.env.scope.names.lookup x'=some .local:=k;rcases Hc with q | q
   ·rw[k'] at q;cases q
   ·rw[k'] at q;cases q
  ·have NO:c'=c:=by rw[e] at M0;injection M0
   subst NO;exact .inr ⟨qL x' e3,c',md _ _ _ (B.o7 e3) Dc,by obtain⟨o,ho,hd⟩:=z;exact⟨o,hk _ _ ho,hd⟩⟩
 case cell=>intro x c e;refine jW scope.names (s.heap.push {cls:= .type "dict",data:= .dict #[]}) (eZ scope X.env) (λa b eS=>?_) (by rw[hz];exact e);obtain⟨v,o,ho,hd⟩:=I.cell a b (B.up ok eS);exact⟨v,o,Qd _ ho,hd⟩
 case cG=>
  intro x c e;rcases wx x c e with ⟨h1,_⟩ | h1
  ·exact I.hok.fresh (Qr (Nat.le_succ _) h1)
  ·exact I.cG x c h1
 case pin=>intro p hp;cases hp
 case len=>show (cW cap σ).length=N'.length;unfold cW;rw[Qp];exact B.len
noncomputable def BL (X:Cx) (C:Addr) (x:Value) (s':Shared):Prop:=∃m,s'.heap.Ns C m/\∀h',Heap.SameBut C s'.heap h'->∀uB:Env,uB.locals=C->wpAny (model X.prog X.w) X.A (passOn "comprehension.variables-let-go" x uB:Sem Value) (λ_ _=>False) X.xe {s' with heap:=h'}
structure zM (X:Cx) (scope:Scope) (N':List Str) (xb:Addr->Shared->Hp->List Addr->Value->Shared->Prop):Prop where
 note:∀(pins:List (Addr×Obj)) (σ:St) (C:Addr) (s s1:Shared) (H H1:Hp) (fp:List Addr) x s',Inv X pins σ H1 s1->(∀b∈fp,gv X pins H1 b)->s1.heap.objs.size < C->s={s1 with heap:=s1.heap.push {cls:= .type "list",data:= .seq ([]:List Value).toArray},toks:=s1.toks}->H=upd H1 s1.heap.objs.size (.lst [])->C=s.heap.objs.size->
  xb C s H fp x s'->notedBy (model X.prog X.w) X.A (f6 X scope N' C s H fp (xb C s H fp)).env (BL X C) x s'
variable {elt tg iter:Expr} {ifs:List Expr} {pos:Pos} {wi:TI} {g:TG} {tt:TT}
theorem lD {gens:List Comprehension} {xb:Addr->Shared->Hp->List Addr->Value->Shared->Prop} {pins:List (Addr×Obj)} {σ:St} {H2:Hp} {s2:Shared} {it:Addr} {fp:List Addr} {tn:Nat->Heap->Prop} {J:It} {F:Hp->Prop} {tb:Addr->TB} {body:Value->Env->Sem Unit} {p:Pos} {RR:Value->Addr->Result->Shared->Prop} (hc:X.calm=true) (B:fu X scope N' cap) (hX:zM X scope N' xb)
  (heq:∀qI acc env,compTurn (.ListComp elt (⟨tg,iter,ifs,0⟩::gens) scope pos) 0 qI acc env=gJ (.ListComp elt (⟨tg,iter,ifs,0⟩::gens) scope pos) 0 qI acc env tg ifs p (body acc env))
  (lH:GL (cW cap σ) g) (hg:∀C s H fp,PG (f6 X scope N' C s H fp (xb C s H fp)) tg g) (ht:∀C s H fp,CC (f6 X scope N' C s H fp (xb C s H fp)) ifs tt) (hb:∀C s H fp D,PB (f6 X scope N' C s H fp (xb C s H fp)) (body (.ref D) (f6 X scope N' C s H fp (xb C s H fp)).env) (tb D))
  (I2:Inv X pins σ H2 s2) (T:Turn X.prog X.w X.K tg J fp it tn) (dJ:tn 0 s2.heap) (f2:∀b∈fp,gv X pins H2 b) (hF:rN J g tt (tb s2.heap.objs.size) (cW cap σ) F (upd H2 s2.heap.objs.size (.lst [])))
  (Og:∀C s' H' m,s2.heap.objs.size < C->Inv X pins σ H' s'->s'.heap.Ns C m->gv X pins H' C->F H'->RR (.ref s2.heap.objs.size) C (.ok .next) s') (MV:∀C x s',BL X C x s'->RR (.ref s2.heap.objs.size) C (.error x) s') {E:Value->Shared->Prop}:
  wpAny (model X.prog X.w) X.A (newList []) (λacc s₃=>wpAny (model X.prog X.w) X.A (newFunctionEnv scope X.env.globals (eZ scope X.env) [] X.env.qual none .none (some X.env)) (λuB s₄=>
   codeAny (model X.prog X.w) X.A (.compStart (.ListComp elt (⟨tg,iter,ifs,0⟩::gens) scope pos) 0 (.ref it) acc {uB with scope:=relabel scope X.env}) (RR acc uB.locals) s₄) E s₃) E s2:=by
 refine wpAny_newObj_type (pQ λh₁ hh₁=>?_);have I3:=I2.Hs (ys:=[]) (its:=[]) (t':=s2.toks) .nil (Nat.zero_le _);dsimp only at hh₁ ⊢;have hC:(s2.heap.push {cls:= .type "list",data:= .seq ([]:List Value).toArray}).objs.size=s2.heap.objs.size + 1:=QK ..;generalize hD:s2.heap.objs.size=D at *;have zq:∀b∈fp,b < D:=λb hb=>by obtain⟨o,e,_⟩:=T.obj 0 _ dJ b hb;rw[<-hD];exact Qq e
 have f3:∀b∈fp,gv X pins (upd H2 D (.lst [])) b:=λb hb=>⟨by rw[aG (QL (zq b hb))];exact(f2 b hb).1,(f2 b hb).2⟩
 generalize hs3:({s2 with heap:=s2.heap.push {cls:= .type "list",data:= .seq ([]:List Value).toArray},toks:=s2.toks}:Shared)=s3 at I3;have xC:s3.heap=s2.heap.push {cls:= .type "list",data:= .seq ([]:List Value).toArray}:=by rw[<-hs3]
 have BX:s3.heap.objs.size=D + 1:=by rw[xC];exact hC
 have IB:=qo (xe:=xb s3.heap.objs.size s3 (upd H2 D (.lst [])) fp) (tk:=s2.toks) B I3 f3 (λb hb=>by rw[BX];exact Nat.lt_succ_of_lt (zq b hb));have hk:∀b o,s3.heap.get? b=some o->(pushCells (s3.heap.push {cls:= .type "dict",data:= .dict #[]}) scope.names).get? b=some o:=λb o e=>pushCells_keeps _ _ _ _ (Qd _ e)
 rw[<-xC] at hh₁;rw[<-hh₁] at IB hk;have e4:({s3 with heap:=h₁,toks:=s2.toks}:Shared)={s2 with heap:=h₁}:=by rw[<-hs3]
 rw[e4] at IB;rw[hC];have ny:∀{H':Hp},(∀b∈fp,H' b=none)->∀b∈fp,gv (f6 X scope N' s3.heap.objs.size s3 (upd H2 D (.lst [])) fp (xb s3.heap.objs.size s3 (upd H2 D (.lst [])) fp)) [] H' b:=λhn b hb=>
  ⟨hn b hb,by show b≠s3.heap.objs.size;rw[BX];exact QL (Nat.lt_succ_of_lt (zq b hb)),λz=>(by
   rcases Qs.mp (I3.kL b z) with q | q
   ·exact(f3 b hb).2.1 q
   ·exact(f3 b hb).2.2.1 q),.inl hb,(IB.ok.BV b hb).2,λp hp=>absurd hp (by intro z;cases z)⟩
 have loop:∀s':Shared,s'={s2 with heap:=h₁}->codeAny (model X.prog X.w) X.A (.compLoop (.ListComp elt (⟨tg,iter,ifs,0⟩::gens) scope pos) 0 (.ref it) (.ref D) (f6 X scope N' s3.heap.objs.size s3 (upd H2 D (.lst [])) fp (xb s3.heap.objs.size s3 (upd H2 D (.lst [])) fp)).env)
   (RR (.ref D) (D + 1)) s':=by
  rintro s' rfl;refine uC (X:=f6 X scope N' s3.heap.objs.size s3 (upd H2 D (.lst [])) fp (xb s3.heap.objs.size s3 (upd H2 D (.lst [])) fp)) hc (heq _ _ _) (λx s' q=>?_) (hg _ _ _ _) lH (ht _ _ _ _) (hb _ _ _ _ D) IB T (T.keep _ _ _ dJ (λb hb o e=>hk b o (by rw[xC];exact Qd _ e))) (ny λb hb=>(f3 b hb).1) hF λs5 H5 I5 qn=>?_
  ·have z:=hX.note pins σ s3.heap.objs.size s3 s2 (upd H2 D (.lst [])) H2 fp x s' I2 f2 (by rw[BX,hD];exact Nat.lt_succ_self _) hs3.symm (by rw[hD]) rfl q;rw[BX] at z;exact wpAny_mono z (λ_ s'' w=>MV (D + 1) x s'' w) λy s'' w=>MV (D + 1) y s'' w
  ·obtain⟨m5,G9,_⟩:=I5.loc;have un:Un (ec X.stack) fp H2 H5 s2.heap s5.heap:=by
    have u1:Un (ec X.stack) fp H2 (upd H2 D (.lst [])) s2.heap s3.heap:=by rw[xC];exact Un.laid (λb u e=>Qd _ e) (by rw[hD];exact Ql _) (by rw[<-hD];exact I2.fresh)
    exact u1.trans I5.base
   have hI:Inv X pins σ H5 s5:=I2.wj (ch:=fp) (I5.os.trans (by show s3.os=s2.os;rw[<-hs3])) un I5.hok I5.bare λb hb=>⟨(f2 b hb).2.2.2.1,(f2 b hb).2.1,(f2 b hb).2.2.2.2.1,(f2 b hb).2.2.2.2.2⟩
   have xB:s5.heap.Ns (D + 1) m5:=by have q:s5.heap.Ns s3.heap.objs.size m5:=G9;rw[BX] at q;exact q
   have Kt:H5 (D + 1)=none:=by have q:H5 s3.heap.objs.size=none:=I5.free;rw[BX] at q;exact q
   exact Og (D + 1) s5 H5 m5 (Nat.lt_succ_self _) hI xB (I2.uI (by rw[hD];exact Nat.le_succ _) Kt) qn
 have Km:({newEnv scope (D + 1) X.env.globals (cellsFrom (D + 1 + 1) scope.names (eZ scope X.env)) X.env.qual none .none (some X.env) builtinsNs with scope:=relabel scope X.env}:Env)=(f6 X scope N' s3.heap.objs.size s3 (upd H2 D (.lst [])) fp (xb s3.heap.objs.size s3 (upd H2 D (.lst [])) fp)).env:=by unfold f6;rw[BX];rfl
 have go:=codeAny_compStart_list (loop _ rfl) (T.self X.A 0 _ _ _ (T.keep _ _ _ dJ (λb hb o e=>hk b o (by rw[xC];exact Qd _ e))) (loop _ rfl));rw[<-Km] at go;exact go
end
noncomputable def rD (cap:List (Option Nat)) (wi:TI) (g:TG) (tt:TT) (tb:Addr->TB):TE:=λσ H Q=>wi σ H λJ H1=>∀D,H1 D=none->GL (cW cap σ) g/\rN J g tt (tb D) (cW cap σ) (λH'=>Q (.ref D) H') (upd H1 D (.lst []))
section
variable {X:Cx} {scope:Scope} {N':List Str} {cap:List (Option Nat)} {elt tg iter:Expr} {ifs:List Expr} {gens:List Comprehension} {pos p:Pos} {wi:TI} {g:TG} {tt:TT} {tb:Addr->TB} {body:Value->Env->Sem Unit} {xb:Addr->Shared->Hp->List Addr->Value->Shared->Prop}
theorem yd (hc:X.calm=true) (B:fu X scope N' cap) (hX:zM X scope N' xb) (hi:PI X tg iter wi) (heq:∀qI acc env,compTurn (.ListComp elt (⟨tg,iter,ifs,0⟩::gens) scope pos) 0 qI acc env=gJ (.ListComp elt (⟨tg,iter,ifs,0⟩::gens) scope pos) 0 qI acc env tg ifs p (body acc env))
  (hg:∀C s H fp,PG (f6 X scope N' C s H fp (xb C s H fp)) tg g) (ht:∀C s H fp,CC (f6 X scope N' C s H fp (xb C s H fp)) ifs tt) (hb:∀C s H fp D,PB (f6 X scope N' C s H fp (xb C s H fp)) (body (.ref D) (f6 X scope N' C s H fp (xb C s H fp)).env) (tb D))
  (hs:∀x,foldedSetIterable iter X.env x=pure x:=by intro _;rfl):PE X (.ListComp elt (⟨tg,iter,ifs,0⟩::gens) scope pos) (rD cap wi g tt tb):=by
 intro pins s σ H Q I h;rw[eval_ListComp];refine wpAny_comprehension_free (use:=none) rfl hs (gh (B.frees I.ok)) B.kind (λy hy e=>by rw[B.nd y hy,e]) (bO (hi pins s σ H _ I h) λx s₁ h₁=>bO h₁ λqI s₂ h₂=>?_);obtain⟨it,fp,tn,J,H2,e,I2,T,dJ,f2,hF⟩:=h₂;subst e;obtain⟨lH,hW⟩:=hF _ I2.fresh;refine lD (RR:=λacc C=>compPost (model X.prog X.w) X.A X.xe none (EP X pins σ Q) acc C) hc B hX heq lH hg ht hb I2 T dJ f2 hW (λC s' H' m hC I' hn fC q=>?_) λC x s' z=>z
 refine⟨m,hn,λh' hsb=>⟨.ref _,H',I'.turned (t':=s'.toks) (λb o hb e=>(hsb.2 b hb).trans e) fC.1 fC.2.1 fC.2.2.2.1 fC.2.2.2.2.1 fC.2.2.2.2.2,rfl,q⟩⟩
theorem pj {i:Nat} {x:Str} {pos' IC:Pos} (hc:X.calm=true) (hN:X.N.Nodup) (FL:X.N[i]?=some x) (hx:X.env.kindOf x=some .local) (B:fu X scope N' cap) (hX:zM X scope N' xb) (hi:PI X tg iter wi) (heq:∀qI acc env,compTurn (.ListComp elt (⟨tg,iter,ifs,0⟩::gens) scope pos) 0 qI acc env=gJ (.ListComp elt (⟨tg,iter,ifs,0⟩::gens) scope pos) 0 qI acc env tg ifs p (body acc env))
  (hg:∀C s H fp,PG (f6 X scope N' C s H fp (xb C s H fp)) tg g) (ht:∀C s H fp,CC (f6 X scope N' C s H fp (xb C s H fp)) ifs tt) (hb:∀C s H fp D,PB (f6 X scope N' C s H fp (xb C s H fp)) (body (.ref D) (f6 X scope N' C s H fp (xb C s H fp)).env) (tb D))
  (hs:∀x,foldedSetIterable iter X.env x=pure x:=by intro _;rfl)
  (FP:swapsWith (.ListComp elt (⟨tg,iter,ifs,0⟩::gens) scope pos) (some (.Name x pos')) IC.line X.env=pure true:=by rfl):
  PS X (.Assign [.Name x pos'] (.ListComp elt (⟨tg,iter,ifs,0⟩::gens) scope pos) IC) (pI (rD cap wi g tt tb) (dX i)):=by
 intro pins s σ H D I h;rw[exec_Assign_Name_used _ _ _ _ FP];refine Qb (wpAny_standAt (Qb ?_));show wpAny _ X.A (do let _<-comprehension (.ListComp elt (⟨tg,iter,ifs,0⟩::gens) scope pos) scope X.env _ (newList []) false (eval iter X.env) (some (assign (.Name x pos') X.env))) _ _ s;refine Qb (wpAny_mono (wpAny_comprehension_free (use:=some (assign (.Name x pos') X.env)) (Q:=λ_ s'=>SP X pins D .next s') rfl hs (gh (B.frees I.ok)) B.kind (λy hy e=>by rw[B.nd y hy,e]) (bO (hi pins s σ H _ I h) λx s₁ h₁=>bO h₁ λqI s₂ h₂=>?_))
  (λ_ s' hq=>Qe (Qe hq)) λ_ _ e=>e)
 obtain⟨it,fp,tn,J,H2,e,I2,T,dJ,f2,hF⟩:=h₂;subst e;obtain⟨lH,hW⟩:=hF _ I2.fresh;refine lD (RR:=λacc C=>compPost (model X.prog X.w) X.A X.xe (some (assign (.Name _ pos') X.env)) (λ_ s'=>SP X pins D .next s') acc C) hc B hX heq lH hg ht hb I2 T dJ f2 hW (λC s' H' m hC I' hn fC q=>?_) λC x s' z=>z
 show wpAny _ X.A (assign (.Name _ pos') X.env (.ref _)) _ _ _;refine wpAny_assign_Name (lU (v:= .ref _) I' hN FL (.inl hx) rfl (λs3 I3 hsb=>?_) (.inr hx));obtain⟨a,sb,ha⟩:=hsb;have N8:C≠a:=by
  rcases ha with rfl | ha
  ·exact fC.2.1
  ·exact Ne.symm (fC.2.2.2.2.1 _ a ha)
 refine⟨m,hn.sameBut sb N8,λh' hsb'=>?_⟩;exact⟨_,H',I3.turned (t':=s3.toks) (λb o hb e=>(hsb'.2 b hb).trans e) fC.1 fC.2.1 fC.2.2.2.1 fC.2.2.2.2.1 fC.2.2.2.2.2,q⟩
end
end L2
end
section
namespace Mx
open PySem
structure Dd (s s':Heap):Prop where
 sz:s.objs.size<=s'.objs.size
 none:∀b,b < s.objs.size->s.get? b=none->s'.get? b=none
theorem Dd.refl (h:Heap):Dd h h:=⟨Ql _,λ_ _ z=>z⟩
theorem Dd.trans {a b c:Heap} (x:Dd a b) (y:Dd b c):Dd a c:=⟨Qr x.sz y.sz,λk hk z=>y.none k (QB hk x.sz) (x.none k hk z)⟩
theorem Dd.push (h:Heap) (o:Obj):Dd h (h.push o):=⟨by rw[QK];exact Nat.le_succ _,λb hb z=>by
 cases hq:(h.push o).get? b with
 | none=>rfl
 | some o'=>
  obtain⟨q1,q2⟩:=Heap.get?_some_iff.mp hq;have q3:h.objs[b]?=some o':=by have e:(h.objs.push o)[b]?=some o':=q1;rw[Array.getElem?_push,if_neg (QL hb)] at e;exact e
  rw[Heap.get?_some_iff.mpr ⟨q3,q2⟩] at z;cases z⟩
theorem Dd.update (h:Heap) (a:Addr) (f:Obj->Obj) (ha:(h.get? a).isSome):Dd h (h.update a f):=⟨by rw[Heap.size_after_update];exact Ql _,λb hb z=>by
 by_cases e:a=b
 ·subst e;rw[z] at ha;cases ha
 ·rw[QI _ _ e];exact z⟩
theorem nh {M:Model} {Γ:Ctx} {p:Pos} {t:Sem PySem.Fin} {fs:List Frame} {s s':Shared} {e:End} (h:Runs M Γ p t fs s e s'):Dd s.heap s'.heap:=by
 induction h with
 | update ha _ ih=>exact(Dd.update _ _ _ ha).trans ih
 | alloc _ ih=>exact(Dd.push _ _).trans ih
 | done=>exact Dd.refl _
 | raise=>exact Dd.refl _
 | yield=>exact Dd.refl _
 | call _ _ ih1 ih2=>exact ih1.trans ih2
 | resumeFresh _ _ _ _ ih1 ih2=>exact Dd.trans (b:=_) ih1 ih2
 | resumeSuspended _ _ _ _ ih1 ih2=>exact Dd.trans (b:=_) ih1 ih2
 | segRet _ _ ih1 ih2=>exact ih1.trans ih2
 | segGen _ _ ih1 ih2=>exact Dd.trans (b:=_) ih1 ih2
 | segSuspGen _ _ _ _ ih1 ih2=>exact Dd.trans (b:=_) ih1 ih2
 | _=>assumption
theorem za {M:Model} {Γ:Ctx} {p:Pos} {g:Nat} {r:Resume} {s s':Shared} {res:GenResult} (h:Wakes M Γ p g r s res s'):Dd s.heap s'.heap:=by
 unfold Wakes at h;split at h
 ·exact h.elim
 ·split at h
  ·obtain⟨e₁,s₁,hr,_,_,rfl⟩:=h;exact(nh hr:Dd (s.setGen g .running).heap s₁.heap)
  ·rw[h.2];exact Dd.refl _
  ·rw[h.2];exact Dd.refl _
 ·obtain⟨e₁,s₁,hr,_,_,rfl⟩:=h;exact(nh hr:Dd (s.setGen g .running).heap s₁.heap)
 ·rw[h.2];exact Dd.refl _
 ·rw[h.2];exact Dd.refl _
theorem IV {α:Type} (M:Model) (Γ:Ctx) (h0:Heap) (t:Sem α):∀(Q:α->Pos->Shared->Prop) (E:Value->Pos->Shared->Prop) (p:Pos) (s:Shared),Dd h0 s.heap->Sem.wp M Γ t Q E p s->
  Sem.wp M Γ t (λa p' s'=>Dd h0 s'.heap/\Q a p' s') (λe p' s'=>Dd h0 s'.heap/\E e p' s') p s:=by
 induction t with
 | pure a=>intro Q E p s hn h;exact⟨hn,h⟩
 | raise e=>intro Q E p s hn h;exact⟨hn,h⟩
 | unsupported _=>intro Q E p s _ h;exact h
 | finish _=>intro Q E p s _ h;exact h
 | rule _ k ih=>intro Q E p s hn h;exact ih () Q E p s hn h
 | «at» p' k ih=>intro Q E p s hn h;exact ih () Q E p' s hn h
 | load a _ k ih=>intro Q E p s hn h;obtain⟨o,ho,h⟩:=h;exact⟨o,ho,ih o Q E p s hn h⟩
 | update a _ f k ih=>intro Q E p s hn h;exact⟨h.1,ih () Q E p _ (hn.trans (Dd.update _ _ _ h.1)) h.2⟩
 | loadIfAlive a k ih=>intro Q E p s hn h;exact ih _ Q E p s hn h
 | point _ k ih=>intro Q E p s hn h;exact ih () Q E p s hn h
 | register _ _=>intro Q E p s _ h;exact h
 | alloc o k ih=>intro Q E p s hn h;exact ih _ Q E p _ (hn.trans (Dd.push _ _)) h
 | fresh k ih=>intro Q E p s hn h;exact ih _ Q E p _ hn h
 | ask k ih=>intro Q E p s hn h;exact ih _ Q E p s hn h
 | choose src m k ih=>intro Q E p s hn h;exact⟨h.1,ih _ Q E p _ hn h.2⟩
 | os q _ k ih=>intro Q E p s hn h;exact ih _ Q E p _ hn h
 | call c hd _ _ k ih=>intro Q E p s hn h;obtain⟨r,s',hr,h⟩:=h;exact⟨r,s',hr,ih r Q E p s' (hn.trans (nh hr)) h⟩
 | handled own k ih=>intro Q E p s hn h;exact ih _ Q E p s hn h
 | genState g k ih=>intro Q E p s hn h;obtain⟨st,hs,h⟩:=h;exact⟨st,hs,ih _ Q E p s hn h⟩
 | newGen c k ih=>intro Q E p s hn h;exact ih _ Q E p _ hn h
 | resume g r _ k ih=>intro Q E p s hn h;obtain⟨res,s',hw,h⟩:=h;exact⟨res,s',hw,ih res Q E p s' (hn.trans (za hw)) h⟩
 | yield _ _ _ _=>intro Q E p s _ h;exact h
 | stack k ih=>intro Q E p s hn h;exact ih _ Q E p s hn h
 | fork _ _=>intro Q E p s _ h;exact h
 | thread k ih=>intro Q E p s hn h;exact ih _ Q E p s hn h
 | await _ _ _ _ _=>intro Q E p s _ h;exact h
theorem lq {α:Type} {M:Model} {A:Around} {s:Shared} {t:Sem α} {Q:α->Shared->Prop} {E:Value->Shared->Prop} (h:wpAny M A t (λa s'=>Dd s.heap s'.heap->Q a s') (λe s'=>Dd s.heap s'.heap->E e s') s):wpAny M A t Q E s:=
 have q:wpAny M A t (λa s'=>Dd s.heap s'.heap/\(Dd s.heap s'.heap->Q a s')) (λe s'=>Dd s.heap s'.heap/\(Dd s.heap s'.heap->E e s')) s:=λΓ p hΓ=>IV M Γ s.heap t _ _ p s (Dd.refl _) (h Γ p hΓ)
 wpAny_mono q (λ_ _ x=>x.2 x.1) (λ_ _ x=>x.2 x.1)
end Mx
end
section
namespace L2
open PySem PySem.Spec PyProof.Rows
theorem j0 (o:Obj) (f:Array Value->Array Value):(o.mapFields f).dict=o.dict:=by obtain⟨c,d,dt,sl⟩:=o;cases dt <;> rfl
noncomputable def c9 (h:Heap) (a T:Addr):Prop:=∃o vs,h.get? a=some o/\o.data= .fields vs/\vs[1]?=some (.ref T)
structure gO (N:Nat) (cls:Value) (a:Addr) (H:Hp) (h:Heap):Prop where
 ge:N<=a
 nH:H a=none
 obj:∃o vs,h.get? a=some o/\(o.cls=cls/\o.dict=none)/\o.data= .fields vs/\(vs[1]?=some .none\/∃T,vs[1]?=some (.ref T))
 tb:∀T,c9 h a T->N<=T/\H T=none/\T≠a/\∃oT ts,h.get? T=some oT/\oT.data= .fields ts/\3 < ts.size
structure qc (fs:List Addr) (a:Addr) (h h':Heap):Prop where
 keep:∀b o,h.get? b=some o->b≠a->¬c9 h a b->b∉fs->h'.get? b=some o
 slot:∀b o,h.get? b=some o->b≠a->¬c9 h a b->∃sl,h'.get? b=some {o with slots:=sl}
 there:∀b o,h.get? b=some o->∃o',h'.get? b=some o'
 tb:∀T,c9 h' a T->c9 h a T\/h.get? T=none
theorem qc.trans {fs:List Addr} {a:Addr} {h h1 h2:Heap} (x:qc fs a h h1) (y:qc fs a h1 h2):qc fs a h h2 where
 keep:=λb o e n nt nf=>by
  have e1:=x.keep b o e n nt nf;exact y.keep b o e1 n (λz=>by
   rcases x.tb b z with q | q
   ·exact nt q
   ·rw[e] at q;cases q) nf
 slot:=λb o e n nt=>by
  obtain⟨sl,e1⟩:=x.slot b o e n nt;obtain⟨vF,e2⟩:=y.slot b _ e1 n (λz=>by
   rcases x.tb b z with q | q
   ·exact nt q
   ·rw[e] at q;cases q)
  exact⟨vF,e2⟩
 there:=λb o e=>by obtain⟨o1,e1⟩:=x.there b o e;exact y.there b o1 e1
 tb:=λT z=>by
  rcases y.tb T z with q | q
  ·exact x.tb T q
  ·right;cases hq:h.get? T with
   | none=>rfl
   | some o=>obtain⟨o',e'⟩:=x.there T o hq;rw[e'] at q;cases q
theorem qc.refl {fs:List Addr} {a:Addr} {h:Heap}:qc fs a h h:=⟨λ_ _ e _ _ _=>e,λ_ o e _ _=>⟨o.slots,e⟩,λ_ o e=>⟨o,e⟩,λ_ z=> .inl z⟩
section
variable {M:Model} {A:Around} {E:Value->Shared->Prop} {s:Shared} {N:Nat} {cls:Value} {a:Addr} {H:Hp} {base:Heap} {env fz:Env} {outer:List Env} {L:Addr}
theorem jo (e:Value) (h:env.frame=fz.frame):noteFrame e env=noteFrame e fz:=by unfold noteFrame PySem.frameOf;rw[h]
theorem oy (vC:A.frames=some (env::outer)) (hl:s.heap.FunFrames base (env::outer)) (hf:env.frame=some L) (F:gO N cls a H s.heap) (fresh:∀b,s.heap.objs.size<=b->H b=none) {head:Value} {Ao:Bool} {Q:Unit->Shared->Prop}
  (q:∀h',qc (ec (env::outer)) a s.heap h'->gO N cls a H h'->(∃T,c9 h' a T)->Q () {s with heap:=h'}):
  wpAny M A (do let x<-frameOf env;let pl<-entryPlaceOf L Ao;let b<-EntryCells.newEntry head x .none (rawInt L) .none pl;setField (.ref a) 1 b) Q E s:=by
 obtain⟨oe,vs,he,oK,hd,h1⟩:=F.obj;have gM:1 < vs.size:=by rcases h1 with h1 | ⟨T,h1⟩ <;> exact(Array.getElem?_eq_some_iff.mp h1).1
 have KU:a∉ec (env::outer):=λhm=>by obtain⟨_,o,ho,Jy⟩:=hl.mem hm;rw[he] at ho;injection ho with ho;subst ho;exact Jy vs hd
 refine Qb (wpAny_frameOf_fun vC hl hf λh₁ hs₁=>?_);refine Qb (wpAny_entryPlaceOf λpl lJ=>?_);unfold EntryCells.newEntry newFields;refine Qb (wpAny_newObj_type ?_ (lJ.sizeOk5 _ _ _ _ _));have he₁:h₁.get? a=some oe:=(hs₁.2.1 a KU).trans he;generalize hT:({cls:= .type "traceback",dict:=none,data:= .fields ([head,.ref L,.none,rawInt L,.none]++(if pl.isEmpty then List.replicate 6 Value.none else pl)).toArray}:Obj)=oT;have Oi:oT.data= .fields ([head,.ref L,.none,rawInt L,.none]++(if pl.isEmpty then List.replicate 6 Value.none else pl)).toArray:=by rw[<-hT]
 have Oj:oT.isFreed=false:=by rw[<-hT];rfl
 have he₂:=Qd (h:=h₁) oT he₁;refine wpAny_setField he₂ hd gM (q _ ?_ ?_ ?_)
 all_goals
  have hz:h₁.objs.size=s.heap.objs.size:=hs₁.1;have MW:h₁.objs.size≠a:=Nat.ne_of_gt (Qq he₁);have hd₃:=Obj.data_mapFields hd (·.setIfInBounds 1 (Value.ref h₁.objs.size));have he₃:=Heap.get?_update_self (Obj.mapFields (·.setIfInBounds 1 (Value.ref h₁.objs.size))) he₂ (Obj.isFreed_of_fields hd₃);have hT₃:=(QI (h₁.push oT) (Obj.mapFields (·.setIfInBounds 1 (Value.ref h₁.objs.size))) (Ne.symm MW)).trans (Qn h₁ Oj);have kp:∀b o,b≠a->h₁.get? b=some o->((h₁.push oT).update a (Obj.mapFields (·.setIfInBounds 1 (Value.ref h₁.objs.size)))).get? b=some o:=λb o hb e=>
   (QI _ _ (Ne.symm hb)).trans (Qd _ e)
  have Nw:∀T,c9 ((h₁.push oT).update a (Obj.mapFields (·.setIfInBounds 1 (Value.ref h₁.objs.size)))) a T->T=h₁.objs.size:=λT ⟨o,ws,z1,z2,z3⟩=>by rw[he₃] at z1;cases z1;rw[hd₃] at z2;cases z2;simp[gM] at z3;exact z3.symm
 ·refine⟨λb o e n nt nf=>kp b o n ((hs₁.2.1 b nf).trans e),λb o e n nt=>?_,λb o e=>?_,λT z=> .inr ?_⟩
  ·obtain⟨sl,e1⟩:=hs₁.2.2 b o e;exact⟨sl,kp b _ n e1⟩
  ·by_cases hb:b=a
   ·subst hb;exact⟨_,he₃⟩
   ·obtain⟨sl,e1⟩:=hs₁.2.2 b o e;exact⟨_,kp b _ hb e1⟩
  ·rw[Nw T z,hz];exact Heap.get?_none_of_le (Ql _)
 ·refine⟨F.ge,F.nH,⟨_,_,he₃,⟨(Obj.cls_mapFields _ _).trans oK.1,(j0 _ _).trans oK.2⟩,hd₃,.inr ⟨h₁.objs.size,by simp[gM]⟩⟩,λT z=>?_⟩;have e:=Nw T z;subst e;refine⟨?_,fresh _ (by rw[hz];exact Ql _),MW,oT,_,hT₃,Oi,by simp⟩;rw[hz];exact Qr F.ge (Nat.le_of_lt (Qq he))
 ·exact⟨h₁.objs.size,_,_,he₃,hd₃,by simp[gM]⟩
theorem wU (vC:A.frames=some (env::outer)) (hl:s.heap.FunFrames base (env::outer)) (hf:env.frame=some L) (F:gO N cls a H s.heap) (fresh:∀b,s.heap.objs.size<=b->H b=none) {Q:Unit->Shared->Prop}
  (q:∀h',qc (ec (env::outer)) a s.heap h'->gO N cls a H h'->(∃T,c9 h' a T)->Q () {s with heap:=h'}):wpAny M A (noteFrame (.ref a) env) Q E s:=by
 obtain⟨oe,vs,he,oK,hd,h1⟩:=id F.obj;unfold noteFrame;simp only[hf];rcases h1 with h1 | ⟨T,h1⟩
 ·refine Qb (wpAny_field he hd h1 ?_);rw[if_neg (by decide)];exact oy vC hl hf F fresh q
 ·have qA:c9 s.heap a T:=⟨oe,vs,he,hd,h1⟩;obtain⟨t1,t2,t3,oT,ts,hT,xq,h3⟩:=F.tb T qA;refine Qb (wpAny_field he hd h1 ?_);rw[if_pos (show (Value.ref T != Value.none)=true from by simp)];refine Qb (wpAny_field hT xq (x:=ts[3]) (by simp[h3]) ?_);split
  ·have e:s={s with heap:=s.heap}:=by cases s;rfl
   rw[e];exact Qe (q s.heap qc.refl F ⟨T,qA⟩)
  ·refine Qb (wpAny_setField hT xq h3 ?_);have other:∀b,b≠T->(s.heap.update T (Obj.mapFields (·.setIfInBounds 3 Value.none))).get? b=s.heap.get? b:=λb hb=>QI _ _ (Ne.symm hb)
   have GN:=Heap.get?_update_self (Obj.mapFields (·.setIfInBounds 3 Value.none)) hT (Obj.isFreed_of_fields (Obj.data_mapFields xq _));have IS:∀T',c9 (s.heap.update T (Obj.mapFields (·.setIfInBounds 3 Value.none))) a T'->T'=T:=λT' ⟨o,ws,z1,z2,z3⟩=>by rw[other a (Ne.symm t3),he] at z1;cases z1;rw[hd] at z2;cases z2;rw[h1] at z3;cases z3;rfl
   have F':gO N cls a H (s.heap.update T (Obj.mapFields (·.setIfInBounds 3 Value.none))):=by refine⟨F.ge,F.nH,⟨oe,vs,(other a (Ne.symm t3)).trans he,oK,hd,.inr ⟨T,h1⟩⟩,λT' z=>?_⟩;rw[IS T' z];exact⟨t1,t2,t3,_,_,GN,Obj.data_mapFields xq _,by simpa using h3⟩
   have Dh:(s.heap.update T (Obj.mapFields (·.setIfInBounds 3 Value.none))).FunFrames base (env::outer):=hl.of_keeps λb o hb Jy=>⟨o,(other b λz=>by
    subst z;rw[hT] at hb;cases hb;exact Jy ts xq).trans hb,rfl⟩
   refine oy (s:={s with heap:=s.heap.update T (Obj.mapFields (·.setIfInBounds 3 Value.none))}) vC Dh hf F' (λb hb=>fresh b (by
    have:(s.heap.update T (Obj.mapFields (·.setIfInBounds 3 Value.none))).objs.size=s.heap.objs.size:=Heap.size_after_update ..;rw[this] at hb;exact hb)) λh' x f t=>q h' (qc.trans ⟨λb o e n nt nf=>(other b λz=>nt (z▸qA)).trans e,λb o e n nt=>⟨o.slots,(other b λz=>nt (z▸qA)).trans e⟩,λb o e=>?_,λT' z=> .inl (by rw[IS T' z];exact qA)⟩ x) f t
   by_cases hb:b=T
   ·subst hb;exact⟨_,GN⟩
   ·exact⟨o,(other b hb).trans e⟩
theorem sD (vC:A.frames=some (fz::outer)) (hl:s.heap.FunFrames base (fz::outer)) (Ov:fz.frame=some L) (hf:env.frame=fz.frame) (F:gO N cls a H s.heap) (fresh:∀b,s.heap.objs.size<=b->H b=none) {Q:Unit->Shared->Prop}
  (q:∀h',qc (ec (fz::outer)) a s.heap h'->gO N cls a H h'->(∃T,c9 h' a T)->Q () {s with heap:=h'}):wpAny M A (noteFrame (.ref a) env) Q E s:=by
 rw[jo _ hf];exact wU vC hl Ov F fresh q
theorem dU {fs:List Addr} {fl:Option Addr} (F:gO N cls a H s.heap) (ht:∃T,c9 s.heap a T) {Q:Unit->Shared->Prop} (q:∀h',qc fs a s.heap h'->gO N cls a H h'->(∃T,c9 h' a T)->Q () {s with heap:=h'}):wpAny M A (setFlight (.ref a) fl) Q E s:=by
 obtain⟨T,qA⟩:=ht;obtain⟨t1,t2,t3,oT,ts,hT,xq,h3⟩:=F.tb T qA;obtain⟨oe,vs,he,hd,h1⟩:=id qA;obtain⟨P8,vH,M1,oK,oM,_⟩:=id F.obj;rw[he] at M1;cases M1;unfold setFlight;refine Qb (wpAny_field he hd h1 ?_);rw[if_pos (show (Value.ref T != Value.none)=true from by simp)];refine wpAny_setField hT xq h3 ?_;generalize hx:(fl.elim Value.none λf=>rawInt f)=x;have other:∀b,b≠T->(s.heap.update T (Obj.mapFields (·.setIfInBounds 3 x))).get? b=s.heap.get? b:=λb hb=>QI _ _ (Ne.symm hb)
 have GN:=Heap.get?_update_self (Obj.mapFields (·.setIfInBounds 3 x)) hT (Obj.isFreed_of_fields (Obj.data_mapFields xq _));have IS:∀T',c9 (s.heap.update T (Obj.mapFields (·.setIfInBounds 3 x))) a T'->T'=T:=λT' ⟨o,ws,z1,z2,z3⟩=>by rw[other a (Ne.symm t3),he] at z1;cases z1;rw[hd] at z2;cases z2;rw[h1] at z3;cases z3;rfl
 refine q _ ⟨λb o e n nt nf=>(other b λz=>nt (z▸qA)).trans e,λb o e n nt=>⟨o.slots,(other b λz=>nt (z▸qA)).trans e⟩,λb o e=>?_,λT' z=> .inl (by rw[IS T' z];exact qA)⟩ ⟨F.ge,F.nH,⟨oe,vs,(other a (Ne.symm t3)).trans he,oK,hd,.inr ⟨T,h1⟩⟩,λT' z=>?_⟩ ⟨T,oe,vs,(other a (Ne.symm t3)).trans he,hd,h1⟩
 ·by_cases hb:b=T
  ·subst hb;exact⟨_,GN⟩
  ·exact⟨o,(other b hb).trans e⟩
 ·rw[IS T' z];exact⟨t1,t2,t3,_,_,GN,Obj.data_mapFields xq _,by simpa using h3⟩
theorem Ah {fs:List Addr} {My:String} {α:Type} (F:gO N cls a H s.heap) (ht:∃T,c9 s.heap a T) {Q:α->Shared->Prop} (q:∀h',qc fs a s.heap h'->gO N cls a H h'->(∃T,c9 h' a T)->E (.ref a) {s with heap:=h'}):wpAny M A (passOn My (.ref a) env:Sem α) Q E s:=by obtain⟨T,qA⟩:=id ht;obtain⟨oe,vs,he,hd,h1⟩:=qA;unfold PySem.passOn;refine Qb (wpAny_field he hd h1 ?_);rw[if_neg (show¬((Value.ref T==Value.none)=true) from by simp)];exact Qb (dU F ht λh' x f t=>wpAny_throw (q h' x f t))
theorem Ag {fs:List Addr} (F:gO N cls a H s.heap) (ht:∃T,c9 s.heap a T) (q:∀h',qc fs a s.heap h'->gO N cls a H h'->(∃T,c9 h' a T)->E (.ref a) {s with heap:=h'}):cameBackBy M A env E (.ref a) s:=by obtain⟨T,qA⟩:=id ht;obtain⟨oe,vs,he,hd,h1⟩:=qA;unfold cameBackBy;refine Qb (wpAny_field he hd h1 ?_);rw[if_neg (show¬((Value.ref T==Value.none)=true) from by simp)];exact dU F ht λh' x f t=>q h' x f t
end
section
variable {X:Cx} {σ:St} {H:Hp} {s:Shared} {cls:Value} {a:Addr}
theorem Inv.Fx {h':Heap} (B3:X.pn=[]) (I:Inv X [] σ H s) (F:gO X.s₀.heap.objs.size cls a H s.heap) (x:qc (ec X.stack) a s.heap h'):Inv X [] σ H {s with heap:=h'}:=by
 obtain⟨oa,va,ha,MY,Os,P4⟩:=F.obj;have Mq:∀b,c9 s.heap a b->X.s₀.heap.objs.size<=b/\H b=none/\b≠a/\∃oT ts,s.heap.get? b=some oT/\oT.data= .fields ts/\3 < ts.size:=F.tb;have ME:∀b o,s.heap.get? b=some o->(∀vs,o.data≠ .fields vs)->b≠a/\¬c9 s.heap a b:=λb o e nf=>by
  refine⟨λz=>?_,λz=>?_⟩
  ·subst z;rw[ha] at e;cases e;exact nf va Os
  ·obtain⟨_,_,_,oT,ts,hT,xq,_⟩:=Mq b z;rw[hT] at e;cases e;exact nf ts xq
 have old:∀b o,X.s₀.heap.get? b=some o->b≠a/\¬c9 s.heap a b:=λb o e=>by
  refine⟨λz=>?_,λz=>?_⟩
  ·subst z;exact absurd (QB (Qq e) F.ge) (Nat.lt_irrefl _)
  ·exact absurd (QB (Qq e) (Mq b z).1) (Nat.lt_irrefl _)
 have JG:∀b o,X.s₀.heap.get? b=some o->b≠X.env.locals:=λb o e=>QL (QB (Qq e) I.ok.above)
 have By:∀b o,X.s₀.heap.get? b=some o->b∈ec X.stack->b∈X.fs:=λb o e z=>by
  rcases Qs.mp (I.kL b z) with q | q
  ·exact absurd q (JG b o e)
  ·exact q
 have E6:∀c u,H c=some u->∀v,s.heap.get? c=some v->h'.get? c=some v:=λc u hc v e=>by
  refine x.keep c v e (λz=>by subst z;rw[F.nH] at hc;cases hc) (λz=>by rw[(Mq c z).2.1] at hc;cases hc) λz=>?_
  rw[I.nB c z] at hc;cases hc
 have cellK:∀y c,X.env.cells.lookup y=some c->∀v,s.heap.IsCell c v->h'.IsCell c v:=λy c e v ⟨o,ho,hd⟩=>by
  obtain⟨n1,n2⟩:=ME c o ho λvs q=>by rw[hd] at q;cases q
  obtain⟨sl,q⟩:=x.slot c o ho n1 n2;exact⟨_,q,hd⟩
 refine⟨I.ok,I.os,I.bare,⟨λb o e n hb hx=>?_,λb o e n hb hx=>?_,I.base.free,λb o e hx=>?_,I.base.tups,I.base.frzs,I.base.tbls⟩,?_,λy c e=>?_,I.free,I.cG,λp hp=>?_,?_,I.len⟩
 ·exact x.keep b o (I.base.keep b o e n hb hx) (old b o e).1 (old b o e).2 λz=>hb (By b o e z)
 ·obtain⟨sl,e1⟩:=I.base.slot b o e n hb hx;obtain⟨Iy,e2⟩:=x.slot b _ e1 (old b o e).1 (old b o e).2;exact⟨Iy,e2⟩
 ·obtain⟨o',e1⟩:=I.base.there b o e hx;exact x.there b o' e1
 ·obtain⟨m,⟨o,es,ep,ho,hd,r⟩,hl⟩:=I.loc;obtain⟨n1,n2⟩:=ME _ o ho λvs q=>by rw[hd] at q;cases q
  obtain⟨sl,q⟩:=x.slot _ o ho n1 n2;refine⟨m,⟨_,es,ep,q,hd,r⟩,λi y v e1 e2 e3=>?_⟩;obtain⟨u,rr,l⟩:=hl i y v e1 e2 e3;refine⟨u,rr,?_⟩;rcases l with l | ⟨k,c,e,z⟩
  ·exact .inl l
  ·exact .inr ⟨k,c,e,cellK y c e _ z⟩
 ·obtain⟨v,z⟩:=I.cell y c e;exact⟨v,cellK y c e v z⟩
 ·rw[B3] at hp;cases hp
 ·intro b u e;refine(I.hok b u e).nz (λc v hc q=>?_) (λ_ q=>q) λ_ _ q=>q
  rcases hc with rfl | hc
  ·exact E6 c u e v q
  ·exact E6 c _ hc v q
end
noncomputable def iI (X:Cx) (E:XK) (e:Value) (s':Shared):Prop:=∃σ H' a cls,e= .ref a/\Inv X [] σ H' s'/\gO X.s₀.heap.objs.size cls a H' s'.heap/\E cls none H'
noncomputable def nE (P:Program) (w:World):jt:=λouter H s E e s'=>∃H' a cls,e= .ref a/\s'.os=s.os/\AllBare s'.gens/\Un (ec outer) [] H H' s.heap s'.heap/\d9 P w H' s'.heap/\gO s.heap.objs.size cls a H' s'.heap/\E cls none H'
structure eR (X:Cx):Prop where
 pn:X.pn=[]
 st:∃fz kA L,X.stack=fz::kA/\fz.frame=some L/\X.env.frame=fz.frame
section
variable {X:Cx} {E:XK}
theorem yP {CX:jt} {P:Program} {w:World} {K:PySem.W.Frag} {mg:Str->Option Value} {base:Heap} {N:List Str} {qual:Str} {scope:Scope} {f:Addr} {cd:Value} {A:Around} {outer:List Env} {s:Shared} {H:Hp}:eR (jY CX P w K mg base N qual scope f cd A outer s H E):=
 ⟨rfl,_,_,_,rfl,rfl,rfl⟩
theorem ub {scope:Scope} {N':List Str} {C:Addr} {s:Shared} {H:Hp} {fp:List Addr} {xe:Value->Shared->Prop} (st:eR X):eR (f6 X scope N' C s H fp xe):=by obtain⟨hp,fz,kA,L,h1,h2,h3⟩:=st;exact⟨rfl,fz,kA,L,h1,h2,h3⟩
theorem gO.down {N N':Nat} {cls:Value} {a:Addr} {H:Hp} {h:Heap} (F:gO N cls a H h) (hn:N'<=N):gO N' cls a H h:=⟨Qr hn F.ge,F.nH,F.obj,λT z=>⟨Qr hn (F.tb T z).1,(F.tb T z).2⟩⟩
theorem zd {pins:List (Addr×Obj)} {σ:St} {H:Hp} {s s':Shared} {e:Value} (I:Inv X pins σ H s) (B3:X.pn=[]) (c:nE X.prog X.w X.stack H s E e s'):iI X E e s':=by
 obtain⟨H',a,cls,e1,h1,h2,h3,h4,h5,h6⟩:=c;have I1:Inv X pins σ H' s':=I.wj (ch:=[]) h1 h3 h4 h2 λb z=>by cases z
 refine⟨σ,H',a,cls,e1,I1.fU (λp hp=>by cases hp),h5.down I.sz,h6⟩
theorem lX (st:eR X) {e:Value} {s:Shared} (h:iI X E e s) {Q:Unit->Shared->Prop} {E2:Value->Shared->Prop} (q:∀σ H' a cls s',e= .ref a->Inv X [] σ H' s'->gO X.s₀.heap.objs.size cls a H' s'.heap->(∃T,c9 s'.heap a T)->E cls none H'->Q () s'):wpAny (model X.prog X.w) X.A (noteFrame e X.env) Q E2 s:=by
 obtain⟨σ,H',a,cls,rfl,I,F,hE⟩:=h;obtain⟨hp,fz,kA,L,h1,h2,h3⟩:=st;have vC:=I.ok.frames;have hl:=I.stack;rw[h1] at vC hl;refine sD vC hl h2 h3 F (λb hb=>I.hok.fresh hb) λh' x f t=>?_
 rw[<-h1] at x;exact q σ H' a cls _ rfl (I.Fx hp F x) f t hE
theorem pS (st:eR X) {e:Value} {s:Shared} (h:iI X E e s) {R:Value->Shared->Prop} (q:∀σ H' a cls s',e= .ref a->Inv X [] σ H' s'->gO X.s₀.heap.objs.size cls a H' s'.heap->(∃T,c9 s'.heap a T)->E cls none H'->R e s'):notedBy (model X.prog X.w) X.A X.env R e s:=
 lX st h q
theorem uu (st:eR X) (hx:∀e s',iI X E e s'->X.xe e s') (AC:∀e s',X.xe e s'->iI X E e s'):PassesOwn (model X.prog X.w) X.A X.env X.xe:=λe s' h=>by
 refine pS st (AC e s' h) λσ H' a cls s1 e1 I1 F1 t1 hE=>?_
 subst e1;exact Ag (fs:=ec X.stack) F1 t1 λh' x f t=>hx _ _ ⟨σ,H',a,cls,rfl,I1.Fx st.pn F1 x,f,hE⟩
end
theorem Fv {P:Program} {w:World} {K:PySem.W.Frag} {mg:Str->Option Value} {base:Heap} {N:List Str} {qual:Str} {scope:Scope} {f:Addr} {cd:Value} {A:Around} {outer:List Env} {s:Shared} {H:Hp} {E:XK} {e:Value} {s':Shared}
  (h:iI (jY (nE P w) P w K mg base N qual scope f cd A outer s H E) E e s'):(jY (nE P w) P w K mg base N qual scope f cd A outer s H E).xe e s':=by
 have st:=yP (CX:=nE P w) (P:=P) (w:=w) (K:=K) (mg:=mg) (base:=base) (N:=N) (qual:=qual) (scope:=scope) (f:=f) (cd:=cd) (A:=A) (outer:=outer) (s:=s) (H:=H) (E:=E);show wpAny (model P w) (A.deeper (envOfC qual scope s.heap.objs.size f cd)) (leaving (envOfC qual scope s.heap.objs.size f cd) e) (λ_ s''=>nE P w outer H s E e s'') (λe' s''=>nE P w outer H s E e' s'') s';unfold leaving;refine Qb (lX st h λσ H' a cls s1 e1 I1 F1 t1 hE=>?_);subst e1;refine dU (fs:=ec (jY (nE P w) P w K mg base N qual scope f cd A outer s H E).stack) F1 t1 λh' x f' t=>?_
 have I2:=I1.Fx st.pn F1 x;exact⟨H',a,cls,rfl,I2.os,I2.bare,I2.base,I2.hok,f',hE⟩
section
variable {X:Cx} {E:XK} {scope:Scope} {N':List Str}
theorem Cx.Ok.xe {xe:Value->Shared->Prop} (k:X.Ok):Cx.Ok {X with xe:=xe}:=⟨k.mod,k.kind,k.glob,k.blt,k.above,k.inj,k.has,k.zl,k.hd,k.frames,k.By,k.BV,k.bs,k.we,k.lh,k.mq,k.gw,k.Aj⟩
theorem Inv.xe {xe:Value->Shared->Prop} {pins:List (Addr×Obj)} {σ:St} {H:Hp} {s:Shared} (I:Inv X pins σ H s):Inv {X with xe:=xe} pins σ H s:=⟨I.ok.xe,I.os,I.bare,I.base,I.loc,I.cell,I.free,I.cG,I.pin,I.hok,I.len⟩
noncomputable def BJ (X:Cx) (scope:Scope) (N':List Str) (E:XK) (C:Addr) (s:Shared) (H:Hp) (fp:List Addr):Value->Shared->Prop:=iI (f6 X scope N' C s H fp λ_ _=>False) E
theorem Fu {C:Addr} {s:Shared} {H:Hp} {fp:List Addr} {e:Value} {s':Shared} {xe:Value->Shared->Prop} (h:iI (f6 X scope N' C s H fp xe) E e s'):BJ X scope N' E C s H fp e s':=by obtain⟨σ,H',a,cls,e1,I,F,hE⟩:=h;exact⟨σ,H',a,cls,e1,I.xe,F,hE⟩
theorem D2 {C:Addr} {s:Shared} {H:Hp} {fp:List Addr} {e:Value} {s':Shared} {xe:Value->Shared->Prop} (h:BJ X scope N' E C s H fp e s'):iI (f6 X scope N' C s H fp xe) E e s':=by obtain⟨σ,H',a,cls,e1,I,F,hE⟩:=h;exact⟨σ,H',a,cls,e1,I.xe,F,hE⟩
theorem gO.at {h0:Nat} {cls:Value} {a:Addr} {H:Hp} {h h':Heap} (F:gO h0 cls a H h) (k:∀b o vs,h.get? b=some o->o.data= .fields vs->h'.get? b=some o):gO h0 cls a H h':=by obtain⟨o,vs,h1,h2,h3,h4⟩:=F.obj;have e1:=k a o vs h1 h3;refine⟨F.ge,F.nH,⟨o,vs,e1,h2,h3,h4⟩,λT z=>?_⟩;obtain⟨o',ws,z1,z2,z3⟩:=z;rw[e1] at z1;cases z1;obtain⟨t1,t2,t3,oT,ts,t4,t5,t6⟩:=F.tb T ⟨o,ws,h1,z2,z3⟩;exact⟨t1,t2,t3,oT,ts,k T oT ts t4 t5,t5,t6⟩
theorem uo (st:eR X) (O6:∀e s',iI X E e s'->X.xe e s'):zM X scope N' (BJ X scope N' E):=by
 refine⟨λpins σ C s s1 H H1 fp x s' I1 f1 hC hs hH BX hxb=>?_⟩;refine pS (X:=f6 X scope N' C s H fp (BJ X scope N' E C s H fp)) (ub st) (D2 hxb) λσ' H' a cls s5 e1 I5 F5 t5 hE=>?_
 subst e1;obtain⟨m5,G9,_⟩:=I5.loc;have xB:s5.heap.Ns C m5:=G9;refine⟨m5,xB,λh' hsb uB Dc=>?_⟩;have un:Un (ec X.stack) fp H1 H' s1.heap s5.heap:=by
  have u1:Un (ec X.stack) fp H1 H s1.heap s.heap:=by rw[hH,hs];exact Un.laid (λb u e=>Qd _ e) (Ql _) I1.fresh
  exact u1.trans I5.base
 have hI:Inv X pins σ H' s5:=I1.wj (ch:=fp) (I5.os.trans (by show s.os=s1.os;rw[hs])) un I5.hok I5.bare λb hb=>⟨(f1 b hb).2.2.2.1,(f1 b hb).2.1,(f1 b hb).2.2.2.2.1,(f1 b hb).2.2.2.2.2⟩
 have fC:gv X pins H' C:=I1.uI (Nat.le_of_lt hC) I5.free;have Ob:Inv X pins σ H' {s5 with heap:=h',toks:=s5.toks}:=hI.turned (t':=s5.toks) (λb o hb e=>(hsb.2 b hb).trans e) fC.1 fC.2.1 fC.2.2.2.1 fC.2.2.2.2.1 fC.2.2.2.2.2;have Oc:Inv X [] σ H' {s5 with heap:=h'}:=Ob.fU λp hp=>by cases hp
 have gM:s1.heap.objs.size<=s.heap.objs.size:=by rw[hs];show _<=(s1.heap.push _).objs.size;rw[QK];exact Nat.le_succ _
 have F6:gO X.s₀.heap.objs.size cls a H' h':=by
  have hd:∀b o vs,s5.heap.get? b=some o->o.data= .fields vs->h'.get? b=some o:=λb o vs e hd=>by refine(hsb.2 b λz=>?_).trans e;subst z;obtain⟨o',es,ep,qD,oM,_⟩:=xB;rw[e] at qD;cases qD;rw[hd] at oM;cases oM
  exact(F5.at hd).down (Qr I1.sz gM)
 have t6:∃T,c9 h' a T:=by obtain⟨T,o,vs,z1,z2,z3⟩:=t5;refine⟨T,o,vs,(hsb.2 a λz=>?_).trans z1,z2,z3⟩;subst z;obtain⟨o',es,ep,qD,oM,_⟩:=xB;rw[z1] at qD;cases qD;rw[z2] at oM;cases oM
 exact Ah (s:={s5 with heap:=h'}) (fs:=ec X.stack) F6 t6 λh'' x f t=>O6 _ _ ⟨σ,H',a,cls,rfl,Oc.Fx st.pn F6 x,f,hE⟩
end
end L2
end
section
namespace Rx
open PySem PySem.W PySem.Spec PyProof.Rows L2 PySem.SeqAt
inductive Dt where
 | bb | bl (b:Bool) | int (i:Int) | str (x:Str) | tup (ds:List Dt) | lst (ds:List Dt) | bc (ns:List Int)
 | fL (ks vs:List Dt) | obj (ks:List Str) (vs:List Dt) | exc (c:Nat)
noncomputable abbrev Frag:=PySem.W.Frag
noncomputable def KL (K:Frag) (a:Addr) (xs:List V):Prop:=∃(o:Obj) (its:Array Value) (n:Nat),K.lookup a=some o/\o.cls= .type "list"/\o.dict=none/\o.data= .seq its n/\its.size<=sizeLine/\aw xs its.toList
mutual
noncomputable def RV (K:Frag) (A:Addr->Prop) (H:Hp):V->Dt->Prop
 | x,.bb=>x= .bb
 | x,.bl b=>x= .bl b
 | x,.int i=>x= .int i
 | x,.str z=>x= .str z
 | x,.tup ds=>∃a xs,x= .ref a/\H a=some (.tup xs)/\ao K A H xs ds
 | x,.lst ds=>∃a xs,x= .ref a/\H a=some (.lst xs)/\¬A a/\ao K A H xs ds
 | x,.bc ns=>∃a,x= .ref a/\((Rd H a (.lst (ns.map V.int))/\¬A a)\/KL K a (ns.map V.int))
 | _,.fL _ _=>False
 | x,.obj ks vs=>∃a bq,x= .ref a/\H a=some (.dK bq)/\¬A a/\bq.map (·.1)=ks.map Sum.inr/\ao K A H (bq.map (·.2)) vs
 | _,.exc _=>False
noncomputable def ao (K:Frag) (A:Addr->Prop) (H:Hp):List V->List Dt->Prop
 | [],[]=>True
 | x::xs,d::ds=>RV K A H x d/\ao K A H xs ds
 | [],_::_=>False
 | _::_,[]=>False
end
section
variable {K:Frag} {A B:Addr->Prop} {H H':Hp}
theorem RV.ax {x:V} (h:RV K A H x .bb):x= .bb:=by unfold RV at h;exact h
theorem RV.ay {x:V} {b} (h:RV K A H x (.bl b)):x= .bl b:=by unfold RV at h;exact h
theorem RV.int_inv {x:V} {b} (h:RV K A H x (.int b)):x= .int b:=by unfold RV at h;exact h
theorem RV.str_inv {x:V} {b} (h:RV K A H x (.str b)):x= .str b:=by unfold RV at h;exact h
theorem RV.af {x:V} {ds} (h:RV K A H x (.tup ds)):∃a xs,x= .ref a/\H a=some (.tup xs)/\ao K A H xs ds:=by unfold RV at h;exact h
theorem RV.lst_inv {x:V} {ds} (h:RV K A H x (.lst ds)):∃a xs,x= .ref a/\H a=some (.lst xs)/\¬A a/\ao K A H xs ds:=by unfold RV at h;exact h
theorem RV.dD {x:V} {ns} (h:RV K A H x (.bc ns)):∃a,x= .ref a/\((Rd H a (.lst (ns.map V.int))/\¬A a)\/KL K a (ns.map V.int)):=by unfold RV at h;exact h
theorem RV.i7 {x:V} {ns} (h:RV K A H x (.bc ns)):∃a,x= .ref a/\dE K H a (ns.map V.int):=by
 obtain⟨a,e,h | h⟩:=h.dD
 ·exact⟨a,e,.inl h.1⟩
 ·exact⟨a,e,.inr h⟩
theorem RV.fM {x:V} {ks vs} (h:RV K A H x (.fL ks vs)):False:=by unfold RV at h;exact h
theorem RV.eE {x:V} {ks vs} (h:RV K A H x (.obj ks vs)):∃a bq,x= .ref a/\H a=some (.dK bq)/\¬A a/\bq.map (·.1)=ks.map Sum.inr/\ao K A H (bq.map (·.2)) vs:=by unfold RV at h;exact h
theorem RV.fP {x:V} {ks} (h:RV K A H x (.exc ks)):False:=by unfold RV at h;exact h
theorem RV.gC:RV K A H .bb .bb:=by unfold RV;rfl
theorem RV.km {b}:RV K A H (.bl b) (.bl b):=by unfold RV;rfl
theorem RV.dH {b}:RV K A H (.int b) (.int b):=by unfold RV;rfl
theorem RV.iZ {b}:RV K A H (.str b) (.str b):=by unfold RV;rfl
theorem RV.dI {a xs ds} (h:H a=some (.tup xs)) (t:ao K A H xs ds):RV K A H (.ref a) (.tup ds):=by unfold RV;exact⟨a,xs,rfl,h,t⟩
theorem RV.dm {a xs ds} (h:H a=some (.lst xs)) (n:¬A a) (t:ao K A H xs ds):RV K A H (.ref a) (.lst ds):=by unfold RV;exact⟨a,xs,rfl,h,n,t⟩
theorem RV.mV {a bq ks vs} (h:H a=some (.dK bq)) (n:¬A a) (e:bq.map (·.1)=ks.map Sum.inr) (t:ao K A H (bq.map (·.2)) vs):RV K A H (.ref a) (.obj ks vs):=by unfold RV;exact⟨a,bq,rfl,h,n,e,t⟩
theorem ao.nil:ao K A H [] []:=by unfold ao;trivial
theorem ao.cons {x d xs ds} (h:RV K A H x d) (t:ao K A H xs ds):ao K A H (x::xs) (d::ds):=by unfold ao;exact⟨h,t⟩
theorem ao.nil_inv {xs} (h:ao K A H xs []):xs=[]:=by
 cases xs with
 | nil=>rfl
 | cons=>unfold ao at h;exact h.elim
theorem ao.dZ {ds} (h:ao K A H [] ds):ds=[]:=by
 cases ds with
 | nil=>rfl
 | cons=>unfold ao at h;exact h.elim
theorem ao.cons_inv {xs d ds} (h:ao K A H xs (d::ds)):∃x r,xs=x::r/\RV K A H x d/\ao K A H r ds:=by
 cases xs with
 | nil=>unfold ao at h;exact h.elim
 | cons x r=>unfold ao at h;exact⟨x,r,rfl,h⟩
theorem ao.lE {x xs ds} (h:ao K A H (x::xs) ds):∃d r,ds=d::r/\RV K A H x d/\ao K A H xs r:=by
 cases ds with
 | nil=>unfold ao at h;exact h.elim
 | cons d r=>unfold ao at h;exact⟨d,r,rfl,h⟩
theorem ao.length:∀{xs ds},ao K A H xs ds->xs.length=ds.length
 | [],[],_=>rfl
 | [],_::_,h=>by unfold ao at h;exact h.elim
 | _::_,[],h=>by unfold ao at h;exact h.elim
 | _::xs,_::ds,h=>by unfold ao at h;simp[ao.length h.2]
theorem ao.get:∀{xs ds} {i:Nat} {x},ao K A H xs ds->xs[i]?=some x->∃d,ds[i]?=some d/\RV K A H x d
 | [],_,_,_,_,e=>by simp at e
 | _::_,[],_,_,h,_=>by unfold ao at h;exact h.elim
 | _::_,_::_,0,_,h,e=>by unfold ao at h;simp at e;subst e;exact⟨_,rfl,h.1⟩
 | _::xs,_::ds,i + 1,x,h,e=>by unfold ao at h;obtain⟨d,e1,e2⟩:=ao.get (i:=i) h.2 (by simpa using e);exact⟨d,by simpa using e1,e2⟩
theorem ao.getD:∀{xs ds} {i:Nat} {d},ao K A H xs ds->ds[i]?=some d->∃x,xs[i]?=some x/\RV K A H x d
 | _,[],_,_,_,e=>by simp at e
 | [],_::_,_,_,h,_=>by unfold ao at h;exact h.elim
 | _::_,_::_,0,_,h,e=>by unfold ao at h;simp at e;subst e;exact⟨_,rfl,h.1⟩
 | _::xs,_::ds,i + 1,x,h,e=>by unfold ao at h;obtain⟨d,e1,e2⟩:=ao.getD (i:=i) h.2 (by simpa using e);exact⟨d,by simpa using e1,e2⟩
theorem ao.append:∀{xs ys ds es},ao K A H xs ds->ao K A H ys es->ao K A H (xs++ys) (ds++es)
 | [],_,[],_,_,h=>h
 | [],_,_::_,_,h,_=>by unfold ao at h;exact h.elim
 | _::_,_,[],_,h,_=>by unfold ao at h;exact h.elim
 | _::xs,ys,_::ds,es,h,h'=>by unfold ao at h;exact ao.cons h.1 (ao.append h.2 h')
theorem ao.take:∀{xs ds} (n:Nat),ao K A H xs ds->ao K A H (xs.take n) (ds.take n)
 | [],ds,n,h=>by rw[h.dZ];simp;exact ao.nil
 | x::xs,[],n,h=>by unfold ao at h;exact h.elim
 | x::xs,d::ds,0,h=>by simp;exact ao.nil
 | x::xs,d::ds,n + 1,h=>by unfold ao at h;simp only[List.take_succ_cons];exact ao.cons h.1 (ao.take n h.2)
theorem ao.drop:∀{xs ds} (n:Nat),ao K A H xs ds->ao K A H (xs.drop n) (ds.drop n)
 | [],ds,n,h=>by rw[h.dZ];simp;exact ao.nil
 | x::xs,[],n,h=>by unfold ao at h;exact h.elim
 | x::xs,d::ds,0,h=>h
 | x::xs,d::ds,n + 1,h=>by unfold ao at h;simp only[List.drop_succ_cons];exact ao.drop n h.2
theorem ao.set:∀{xs ds} (n:Nat) {x d},ao K A H xs ds->RV K A H x d->ao K A H (xs.set n x) (ds.set n d)
 | [],ds,n,_,_,h,_=>by rw[h.dZ];simp;exact ao.nil
 | x::xs,[],n,_,_,h,_=>by unfold ao at h;exact h.elim
 | x::xs,d::ds,0,_,_,h,h'=>by unfold ao at h;simp only[List.set_cons_zero];exact ao.cons h' h.2
 | x::xs,d::ds,n + 1,_,_,h,h'=>by unfold ao at h;simp only[List.set_cons_succ];exact ao.cons h.1 (ao.set n h.2 h')
structure aU (X:Addr->Prop) (H H':Hp):Prop where
 kp:∀b o,H b=some o->¬X b->H' b=some o
 tp:∀b xs,H b=some (.tup xs)->H' b=some (.tup xs)
theorem aU.of_same {X:Addr->Prop} (s:bp H H'):aU X H H':=⟨λb o e _=>s b o e,λb xs e=>s b _ e⟩
theorem aU.refl {X:Addr->Prop}:aU X H H:=⟨λ_ _ e _=>e,λ_ _ e=>e⟩
theorem aU.trans {X:Addr->Prop} {H1:Hp} (a:aU X H H1) (b:aU X H1 H'):aU X H H':=⟨λc o e n=>b.kp c o (a.kp c o e n) n,λc xs e=>b.tp c xs (a.tp c xs e)⟩
theorem aU.mono {X Y:Addr->Prop} (a:aU X H H') (h:∀b,X b->Y b):aU Y H H':=⟨λb o e n=>a.kp b o e λz=>n (h b z),a.tp⟩
theorem yz {X:Addr->Prop} {a:Addr} {u:HO} (e:aU X H H') (n:¬X a) (h:Rd H a u):Rd H' a u:=by
 rcases h with h | ⟨o,h⟩
 ·exact .inl (e.kp _ _ h n)
 ·exact .inr ⟨o,e.kp _ _ h n⟩
mutual
theorem RV.mono {X:Addr->Prop} (e:aU X H H') (hX:∀b,X b->A b) (hB:∀b,B b->A b):∀{x d},RV K A H x d->RV K B H' x d
 | x,.bb,h=>by rw[h.ax];exact RV.gC
 | x,.bl b,h=>by rw[h.ay];exact RV.km
 | x,.int b,h=>by rw[h.int_inv];exact RV.dH
 | x,.str b,h=>by rw[h.str_inv];exact RV.iZ
 | x,.tup ds,h=>by obtain⟨a,xs,rfl,h1,h2⟩:=h.af;exact RV.dI (e.tp _ _ h1) (ao.mono e hX hB h2)
 | x,.lst ds,h=>by obtain⟨a,xs,rfl,h1,h3,h2⟩:=h.lst_inv;exact RV.dm (e.kp _ _ h1 λz=>h3 (hX _ z)) (λz=>h3 (hB _ z)) (ao.mono e hX hB h2)
 | x,.bc ns,h=>by
  obtain⟨a,rfl,⟨h1,h3⟩ | h1⟩:=h.dD
  ·unfold RV;exact⟨a,rfl,.inl ⟨yz e (λz=>h3 (hX _ z)) h1,λz=>h3 (hB _ z)⟩⟩
  ·unfold RV;exact⟨a,rfl,.inr h1⟩
 | x,.fL ..,h=>h.fM.elim
 | x,.obj ks vs,h=>by obtain⟨a,bq,rfl,h1,h3,h4,h2⟩:=h.eE;exact RV.mV (e.kp _ _ h1 λz=>h3 (hX _ z)) (λz=>h3 (hB _ z)) h4 (ao.mono e hX hB h2)
 | x,.exc ..,h=>h.fP.elim
theorem ao.mono {X:Addr->Prop} (e:aU X H H') (hX:∀b,X b->A b) (hB:∀b,B b->A b):∀{xs ds},ao K A H xs ds->ao K B H' xs ds
 | [],[],_=>ao.nil
 | [],_::_,h=>by unfold ao at h;exact h.elim
 | _::_,[],h=>by unfold ao at h;exact h.elim
 | _::xs,_::ds,h=>by unfold ao at h;exact ao.cons (RV.mono e hX hB h.1) (ao.mono e hX hB h.2)
end
theorem RV.same {x d} (h:RV K A H x d) (s:bp H H'):RV K A H' x d:=h.mono (X:=λ_=>False) (aU.of_same s) (λ_ z=>z.elim) λ_ z=>z
theorem ao.same {x d} (h:ao K A H x d) (s:bp H H'):ao K A H' x d:=h.mono (X:=λ_=>False) (aU.of_same s) (λ_ z=>z.elim) λ_ z=>z
theorem RV.weak {x d} (h:RV K A H x d) (hB:∀b,B b->A b):RV K B H x d:=h.mono (X:=λ_=>False) aU.refl (λ_ z=>z.elim) hB
theorem ao.weak {x d} (h:ao K A H x d) (hB:∀b,B b->A b):ao K B H x d:=h.mono (X:=λ_=>False) aU.refl (λ_ z=>z.elim) hB
mutual
theorem RV.avoid {p:Addr} (hp:H p=none):∀{x d},RV K A H x d->RV K (λb=>A b\/b=p) H x d
 | x,.bb,h=>by rw[h.ax];exact RV.gC
 | x,.bl b,h=>by rw[h.ay];exact RV.km
 | x,.int b,h=>by rw[h.int_inv];exact RV.dH
 | x,.str b,h=>by rw[h.str_inv];exact RV.iZ
 | x,.tup ds,h=>by obtain⟨a,xs,rfl,h1,h2⟩:=h.af;exact RV.dI h1 (ao.avoid hp h2)
 | x,.lst ds,h=>by obtain⟨a,xs,rfl,h1,h3,h2⟩:=h.lst_inv;exact RV.dm h1 (λz=>z.elim h3 λe=>by rw[e,hp] at h1;cases h1) (ao.avoid hp h2)
 | x,.bc ns,h=>by
  obtain⟨a,rfl,⟨h1,h3⟩ | h1⟩:=h.dD
  ·unfold RV;refine⟨a,rfl,.inl ⟨h1,λz=>z.elim h3 λe=>?_⟩⟩;subst e;rcases h1 with h1 | ⟨o,h1⟩ <;> (rw[hp] at h1;cases h1)
  ·unfold RV;exact⟨a,rfl,.inr h1⟩
 | x,.fL ..,h=>h.fM.elim
 | x,.obj ks vs,h=>by obtain⟨a,bq,rfl,h1,h3,h4,h2⟩:=h.eE;exact RV.mV h1 (λz=>z.elim h3 λe=>by rw[e,hp] at h1;cases h1) h4 (ao.avoid hp h2)
 | x,.exc ..,h=>h.fP.elim
theorem ao.avoid {p:Addr} (hp:H p=none):∀{xs ds},ao K A H xs ds->ao K (λb=>A b\/b=p) H xs ds
 | [],[],_=>ao.nil
 | [],_::_,h=>by unfold ao at h;exact h.elim
 | _::_,[],h=>by unfold ao at h;exact h.elim
 | _::xs,_::ds,h=>by unfold ao at h;exact ao.cons (RV.avoid hp h.1) (ao.avoid hp h.2)
end
end
section
variable {K:Frag} {A B:Addr->Prop} {H:Hp}
mutual
theorem RV.b5 (hp:∀b,B b->A b\/H b=none):∀{x d},RV K A H x d->RV K B H x d
 | x,.bb,h=>by rw[h.ax];exact RV.gC
 | x,.bl b,h=>by rw[h.ay];exact RV.km
 | x,.int b,h=>by rw[h.int_inv];exact RV.dH
 | x,.str b,h=>by rw[h.str_inv];exact RV.iZ
 | x,.tup ds,h=>by obtain⟨a,xs,rfl,h1,h2⟩:=h.af;exact RV.dI h1 (ao.b5 hp h2)
 | x,.lst ds,h=>by obtain⟨a,xs,rfl,h1,h3,h2⟩:=h.lst_inv;exact RV.dm h1 (λz=>(hp a z).elim h3 λe=>by rw[e] at h1;cases h1) (ao.b5 hp h2)
 | x,.bc ns,h=>by
  obtain⟨a,rfl,⟨h1,h3⟩ | h1⟩:=h.dD
  ·unfold RV;refine⟨a,rfl,.inl ⟨h1,λz=>(hp a z).elim h3 λe=>?_⟩⟩;rcases h1 with h1 | ⟨o,h1⟩ <;> (rw[e] at h1;cases h1)
  ·unfold RV;exact⟨a,rfl,.inr h1⟩
 | x,.fL ..,h=>h.fM.elim
 | x,.obj ks vs,h=>by obtain⟨a,bq,rfl,h1,h3,h4,h2⟩:=h.eE;exact RV.mV h1 (λz=>(hp a z).elim h3 λe=>by rw[e] at h1;cases h1) h4 (ao.b5 hp h2)
 | x,.exc ..,h=>h.fP.elim
theorem ao.b5 (hp:∀b,B b->A b\/H b=none):∀{xs ds},ao K A H xs ds->ao K B H xs ds
 | [],[],_=>ao.nil
 | [],_::_,h=>by unfold ao at h;exact h.elim
 | _::_,[],h=>by unfold ao at h;exact h.elim
 | _::xs,_::ds,h=>by unfold ao at h;exact ao.cons (RV.b5 hp h.1) (ao.b5 hp h.2)
end
end
mutual
noncomputable def iJ:Dt->Bool
 | .bb | .bl _ | .int _ | .str _=>true
 | .tup ds=>i0 ds
 | _=>false
noncomputable def i0:List Dt->Bool
 | []=>true
 | d::ds=>iJ d&&i0 ds
end
mutual
theorem RV.iJ {K:Frag} {A B:Addr->Prop} {H:Hp}:∀{x d},RV K A H x d->iJ d=true->RV K B H x d
 | x,.bb,h,_=>by rw[h.ax];exact RV.gC
 | x,.bl b,h,_=>by rw[h.ay];exact RV.km
 | x,.int b,h,_=>by rw[h.int_inv];exact RV.dH
 | x,.str b,h,_=>by rw[h.str_inv];exact RV.iZ
 | x,.tup ds,h,n=>by obtain⟨a,xs,rfl,h1,h2⟩:=h.af;exact RV.dI h1 (ao.i0 h2 (by simpa [Rx.iJ] using n))
 | x,.lst ds,_,n=>by simp[Rx.iJ] at n
 | x,.bc ds,_,n=>by simp[Rx.iJ] at n
 | x,.fL ..,h,_=>h.fM.elim
 | x,.obj ..,_,n=>by simp[Rx.iJ] at n
 | x,.exc ..,h,_=>h.fP.elim
theorem ao.i0 {K:Frag} {A B:Addr->Prop} {H:Hp}:∀{xs ds},ao K A H xs ds->i0 ds=true->ao K B H xs ds
 | [],[],_,_=>ao.nil
 | [],_::_,h,_=>by unfold ao at h;exact h.elim
 | _::_,[],h,_=>by unfold ao at h;exact h.elim
 | _::xs,_::ds,h,n=>by unfold ao at h;simp only[Rx.i0,Qf] at n;exact ao.cons (RV.iJ h.1 n.1) (ao.i0 h.2 n.2)
end
mutual
noncomputable def toD:Dt->Option Mx.D
 | .int i=>some (.int i)
 | .str x=>some (.str x)
 | .tup ds=>(dz ds).map Mx.D.tup
 | _=>none
noncomputable def dz:List Dt->Option (List Mx.D)
 | []=>some []
 | d::ds=>(toD d).bind λm=>(dz ds).map (m:: ·)
end
mutual
noncomputable def ofD:Mx.D->Dt
 | .int i=> .int i
 | .str x=> .str x
 | .tup ds=> .tup (aa ds)
noncomputable def aa:List Mx.D->List Dt
 | []=>[]
 | d::ds=>ofD d::aa ds
end
theorem br:∀ds:List Mx.D,aa ds=ds.map ofD
 | []=>by simp[aa]
 | d::ds=>by simp[aa,br ds]
mutual
theorem E5:∀m:Mx.D,toD (ofD m)=some m
 | .int i=>by simp[ofD,toD]
 | .str x=>by simp[ofD,toD]
 | .tup ds=>by simp[ofD,toD,aQ ds]
theorem aQ:∀ms:List Mx.D,dz (aa ms)=some ms
 | []=>by simp[aa,dz]
 | m::ms=>by simp[aa,dz,E5 m,aQ ms]
end
mutual
theorem D1:∀{d:Dt} {m:Mx.D},toD d=some m->d=ofD m
 | .int i,m,h=>by simp[toD] at h;subst h;simp[ofD]
 | .str i,m,h=>by simp[toD] at h;subst h;simp[ofD]
 | .tup ds,m,h=>by simp only[toD,Qv] at h;obtain⟨ms,h1,rfl⟩:=h;rw[mZ h1];simp[ofD]
 | .bb,m,h=>by simp[toD] at h
 | .bl _,m,h=>by simp[toD] at h
 | .lst _,m,h=>by simp[toD] at h
 | .bc _,m,h=>by simp[toD] at h
 | .fL _ _,m,h=>by simp[toD] at h
 | .obj _ _,m,h=>by simp[toD] at h
 | .exc _,m,h=>by simp[toD] at h
theorem mZ:∀{ds:List Dt} {ms:List Mx.D},dz ds=some ms->ds=aa ms
 | [],ms,h=>by simp[dz] at h;subst h;simp[aa]
 | d::ds,ms,h=>by simp only[dz,Qc,Qv] at h;obtain⟨m,h1,r,h2,rfl⟩:=h;rw[D1 h1,mZ h2];simp[aa]
end
mutual
theorem RV.dv {K:Frag} {A:Addr->Prop} {H:Hp}:∀{x} {m:Mx.D},RV K A H x (ofD m)->Mx.DV H x m
 | x,.int i,h=>by simp only[ofD] at h;rw[h.int_inv];exact Mx.DV.int
 | x,.str i,h=>by simp only[ofD] at h;rw[h.str_inv];exact Mx.DV.str
 | x,.tup ms,h=>by simp only[ofD] at h;obtain⟨a,xs,rfl,h1,h2⟩:=h.af;exact Mx.DV.tup h1 (ao.uE h2)
theorem ao.uE {K:Frag} {A:Addr->Prop} {H:Hp}:∀{xs} {ms:List Mx.D},ao K A H xs (aa ms)->Mx.aY H xs ms
 | [],[],_=>Mx.aY.nil
 | [],_::_,h=>by simp only[aa] at h;unfold ao at h;exact h.elim
 | _::_,[],h=>by simp only[aa] at h;unfold ao at h;exact h.elim
 | _::xs,_::ds,h=>by simp only[aa] at h;unfold ao at h;exact Mx.aY.cons (RV.dv h.1) (ao.uE h.2)
end
mutual
theorem RV.HE {K:Frag} {A:Addr->Prop} {H:Hp}:∀{x} {m:Mx.D},Mx.DV H x m->RV K A H x (ofD m)
 | x,.int i,h=>by simp only[ofD];rw[h.int_inv];exact RV.dH
 | x,.str i,h=>by simp only[ofD];rw[h.str_inv];exact RV.iZ
 | x,.tup ms,h=>by simp only[ofD];obtain⟨a,xs,rfl,h1,h2⟩:=h.af;exact RV.dI h1 (ao.qS h2)
theorem ao.qS {K:Frag} {A:Addr->Prop} {H:Hp}:∀{xs} {ms:List Mx.D},Mx.aY H xs ms->ao K A H xs (aa ms)
 | [],[],_=>by simp only[aa];exact ao.nil
 | [],_::_,h=>by unfold Mx.aY at h;exact h.elim
 | _::_,[],h=>by unfold Mx.aY at h;exact h.elim
 | _::xs,_::ds,h=>by simp only[aa];unfold Mx.aY at h;exact ao.cons (RV.HE h.1) (ao.qS h.2)
end
mutual
noncomputable def cg:Dt->Dt->Bool
 | .bb,.bb=>true
 | .bl a,.bl b=>a==b
 | .int a,.int b=>a==b
 | .bl a,.int b=>(if a then(1:Int) else 0)==b
 | .int a,.bl b=>a==(if b then(1:Int) else 0)
 | .str a,.str b=>a==b
 | .tup a,.tup b=>b9 a b
 | .lst a,.lst b=>b9 a b
 | _,_=>false
noncomputable def b9:List Dt->List Dt->Bool
 | [],[]=>true
 | x::xs,y::ys=>cg x y&&b9 xs ys
 | _,_=>false
end
mutual
noncomputable def pl:Dt->Bool
 | .bb | .bl _ | .int _ | .str _=>true
 | .tup ds=>pf ds
 | .lst ds=>pf ds
 | _=>false
noncomputable def pf:List Dt->Bool
 | []=>true
 | d::ds=>pl d&&pf ds
end
mutual
noncomputable def dp:Dt->Nat
 | .tup ds=>sk ds + 1
 | .lst ds=>sk ds + 1
 | _=>0
noncomputable def sk:List Dt->Nat
 | []=>0
 | d::ds=>max (dp d) (sk ds)
end
mutual
theorem i6:∀d:Dt,pl d=true->cg d d=true
 | .bb,_=>by simp[cg]
 | .bl b,_=>by simp[cg]
 | .int b,_=>by simp[cg]
 | .str b,_=>by simp[cg]
 | .tup ds,h=>by simp only[cg];exact gG ds (by simpa [pl] using h)
 | .lst ds,h=>by simp only[cg];exact gG ds (by simpa [pl] using h)
 | .bc _,h=>by simp[pl] at h
 | .fL _ _,h=>by simp[pl] at h
 | .obj _ _,h=>by simp[pl] at h
 | .exc _,h=>by simp[pl] at h
theorem gG:∀ds:List Dt,pf ds=true->b9 ds ds=true
 | [],_=>by simp[b9]
 | d::ds,h=>by simp only[pf,Qf] at h;simp only[b9,Qf];exact⟨i6 d h.1,gG ds h.2⟩
end
noncomputable def Px:Dt->Nat
 | .bb=>0 | .bl _=>1 | .int _=>2 | .str _=>3 | .tup _=>4 | .lst _=>5 | _=>6
noncomputable def Mr (H:Hp):V->Nat
 | .bb=>0 | .bl _=>1 | .int _=>2 | .str _=>3
 | .ref a=>(match H a with | some (.tup _)=>4 | some (.lst _)=>5 | _=>6)
 | _=>6
theorem RV.tg {K:Frag} {A:Addr->Prop} {H:Hp} {x:V} {d:Dt} (h:RV K A H x d) (n:pl d=true):Mr H x=Px d:=by
 cases d with
 | bb=>rw[h.ax];rfl
 | bl=>rw[h.ay];rfl
 | int=>rw[h.int_inv];rfl
 | str=>rw[h.str_inv];rfl
 | tup=>obtain⟨a,xs,rfl,h1,_⟩:=h.af;unfold Mr;dsimp only;rw[h1];rfl
 | lst=>obtain⟨a,xs,rfl,h1,_⟩:=h.lst_inv;unfold Mr;dsimp only;rw[h1];rfl
 | _=>simp[pl] at n
mutual
theorem RV.inj {K:Frag} {A B:Addr->Prop} {H:Hp}:∀{x d e},RV K A H x d->RV K B H x e->pl d=true->pl e=true->d=e
 | x,.bb,e,h,g,m,n=>by have t:=(h.tg m).symm.trans (g.tg n);cases e <;> first | rfl | exact absurd t (of_decide_eq_false rfl)
 | x,.bl b,e,h,g,m,n=>by have t:=(h.tg m).symm.trans (g.tg n);cases e <;> first | exact absurd t (of_decide_eq_false rfl) | (cases h.ay.symm.trans g.ay;rfl)
 | x,.int b,e,h,g,m,n=>by have t:=(h.tg m).symm.trans (g.tg n);cases e <;> first | exact absurd t (of_decide_eq_false rfl) | (cases h.int_inv.symm.trans g.int_inv;rfl)
 | x,.str b,e,h,g,m,n=>by have t:=(h.tg m).symm.trans (g.tg n);cases e <;> first | exact absurd t (of_decide_eq_false rfl) | (cases h.str_inv.symm.trans g.str_inv;rfl)
 | x,.tup ds,e,h,g,m,n=>by
  have t:=(h.tg m).symm.trans (g.tg n);cases e with
  | tup es=>obtain⟨a,xs,rfl,h1,h2⟩:=h.af;obtain⟨b,ys,q,g1,g2⟩:=g.af;cases q;rw[h1] at g1;cases g1;rw[ao.inj h2 g2 (by simpa [pl] using m) (by simpa [pl] using n)]
  | _=>exact absurd t (of_decide_eq_false rfl)
 | x,.lst ds,e,h,g,m,n=>by
  have t:=(h.tg m).symm.trans (g.tg n);cases e with
  | lst es=>obtain⟨a,xs,rfl,h1,_,h2⟩:=h.lst_inv;obtain⟨b,ys,q,g1,_,g2⟩:=g.lst_inv;cases q;rw[h1] at g1;cases g1;rw[ao.inj h2 g2 (by simpa [pl] using m) (by simpa [pl] using n)]
  | _=>exact absurd t (of_decide_eq_false rfl)
 | x,.bc ds,_,_,_,n,_=>by simp[pl] at n
 | x,.fL ..,_,_,_,n,_=>by simp[pl] at n
 | x,.obj ..,_,_,_,n,_=>by simp[pl] at n
 | x,.exc ..,_,_,_,n,_=>by simp[pl] at n
theorem ao.inj {K:Frag} {A B:Addr->Prop} {H:Hp}:∀{xs ds es},ao K A H xs ds->ao K B H xs es->pf ds=true->pf es=true->ds=es
 | xs,[],es,h,g,_,_=>by
  cases xs with
  | nil=>rw[g.dZ]
  | cons=>unfold ao at h;exact h.elim
 | xs,d::ds,es,h,g,m,n=>by
  cases xs with
  | nil=>unfold ao at h;exact h.elim
  | cons x xs=>unfold ao at h;obtain⟨e,t,rfl,g1,g2⟩:=g.lE;have m':=Bool.and_eq_true_iff.mp m;have n':=Bool.and_eq_true_iff.mp n;rw[RV.inj h.1 g1 m'.1 n'.1,ao.inj h.2 g2 m'.2 n'.2]
end
noncomputable def tT (ds es:List Dt) (j:Nat):Bool:=match ds[j]?,es[j]? with
 | some d,some e=>cg d e
 | _,_=>true
theorem cJ:∀ds es:List Dt,((List.range (min ds.length es.length)).all (tT ds es)&&ds.length==es.length)=b9 ds es
 | [],[]=>by simp[b9]
 | [],_::_=>by simp[b9]
 | _::_,[]=>by simp[b9]
 | d::ds,e::es=>by
  have ih:=cJ ds es;have hm:min (d::ds).length (e::es).length=min ds.length es.length + 1:=by simp only[Qy];lia
  have e1:((d::ds).length==(e::es).length)=(ds.length==es.length):=by rw[Bool.eq_iff_iff];simp
  rw[hm,List.range_succ_eq_map,List.all_cons,List.all_map,e1,b9,<-ih,Bool.and_assoc];rfl
theorem mn {d:Dt}:∀{ds:List Dt} {j:Nat},ds[j]?=some d->dp d<=sk ds
 | [],_,h=>by simp at h
 | d'::ds,0,h=>by simp at h;subst h;unfold sk;lia
 | d'::ds,j + 1,h=>by have:=mn (ds:=ds) (j:=j) (by simpa using h);unfold sk;lia
theorem gF {d:Dt}:∀{ds:List Dt} {j:Nat},pf ds=true->ds[j]?=some d->pl d=true
 | [],_,_,h=>by simp at h
 | d'::ds,0,n,h=>by simp at h;subst h;simp only[pf,Qf] at n;exact n.1
 | d'::ds,j + 1,n,h=>by simp only[pf,Qf] at n;exact gF (ds:=ds) (j:=j) n.2 (by simpa using h)
section
variable {P:Program} {w:World} {K:Frag} {A B:Addr->Prop} {H:Hp} {s:Shared}
theorem aN (hok:d9 P w H s.heap) {a:Addr} {xs:List V} (h:H a=some (.lst xs)):∃its:List Value,aw xs its/\s.heap.IsList a its.toArray:=by obtain⟨_,its,n,r,t⟩:=hok a _ h;exact⟨its,r,⟨_,t,rfl,_,rfl⟩⟩
theorem GA (hok:d9 P w H s.heap):∀(n:Nat) (d e:Dt) (x y:V) (u v:Value) (R:Around),dp d<=n->pl d=true->pl e=true->R.units + n < cLine->RV K A H x d->RV K B H y e->RelV x u->RelV y v->EqAt R s u v (cg d e):=by
 intro n
 induction n with
 | zero=>
  intro d e x y u v R hd gZ fq hu hx hy rx ry;cases d with
  | bb=>
   have:=hx.ax;subst this;cases rx;cases e with
   | bb=>have:=hy.ax;subst this;cases ry;exact EqAt.same _
   | bl j=>have:=hy.ay;subst this;cases ry;exact EqAt.none_bool j
   | int j=>have:=hy.int_inv;subst this;obtain⟨t',rfl⟩:=ry;exact EqAt.none_int j t'
   | str j=>have:=hy.str_inv;subst this;obtain⟨t',rfl⟩:=ry;exact EqAt.none_str j t'
   | tup j=>obtain⟨b,ys,q,f1,f2⟩:=hy.af;subst q;cases ry;obtain⟨its,_,ht⟩:=Mx.au hok f1;exact EqAt.none_tuple ht (by lia)
   | lst j=>obtain⟨b,ys,q,f1,_,f2⟩:=hy.lst_inv;subst q;cases ry;obtain⟨its,_,ht⟩:=aN hok f1;exact EqAt.none_list ht (by lia)
   | _=>simp[pl] at fq
  | bl i=>
   have:=hx.ay;subst this;cases rx;cases e with
   | bb=>have:=hy.ax;subst this;cases ry;exact EqAt.bool_none _
   | bl j=>have:=hy.ay;subst this;cases ry;exact EqAt.bool_bool i j
   | int j=>have:=hy.int_inv;subst this;obtain⟨t',rfl⟩:=ry;exact EqAt.bool_int i j t'
   | str j=>have:=hy.str_inv;subst this;obtain⟨t',rfl⟩:=ry;exact EqAt.bool_str i j t'
   | tup j=>obtain⟨b,ys,q,f1,f2⟩:=hy.af;subst q;cases ry;obtain⟨its,_,ht⟩:=Mx.au hok f1;exact EqAt.bool_tuple i ht (by lia)
   | lst j=>obtain⟨b,ys,q,f1,_,f2⟩:=hy.lst_inv;subst q;cases ry;obtain⟨its,_,ht⟩:=aN hok f1;exact EqAt.bool_list i ht (by lia)
   | _=>simp[pl] at fq
  | int i=>
   have:=hx.int_inv;subst this;obtain⟨t,rfl⟩:=rx;cases e with
   | bb=>have:=hy.ax;subst this;cases ry;exact EqAt.int_none i t
   | bl j=>have:=hy.ay;subst this;cases ry;exact EqAt.int_bool i t j
   | int j=>have:=hy.int_inv;subst this;obtain⟨t',rfl⟩:=ry;exact EqAt.int_int i t j t'
   | str j=>have:=hy.str_inv;subst this;obtain⟨t',rfl⟩:=ry;exact EqAt.int_str i t j t'
   | tup j=>obtain⟨b,ys,q,f1,f2⟩:=hy.af;subst q;cases ry;obtain⟨its,_,ht⟩:=Mx.au hok f1;exact EqAt.int_tuple i t ht (by lia)
   | lst j=>obtain⟨b,ys,q,f1,_,f2⟩:=hy.lst_inv;subst q;cases ry;obtain⟨its,_,ht⟩:=aN hok f1;exact EqAt.int_list i t ht (by lia)
   | _=>simp[pl] at fq
  | str i=>
   have:=hx.str_inv;subst this;obtain⟨t,rfl⟩:=rx;cases e with
   | bb=>have:=hy.ax;subst this;cases ry;exact EqAt.str_none i t
   | bl j=>have:=hy.ay;subst this;cases ry;exact EqAt.str_bool i t j
   | int j=>have:=hy.int_inv;subst this;obtain⟨t',rfl⟩:=ry;exact EqAt.str_int i t j t'
   | str j=>have:=hy.str_inv;subst this;obtain⟨t',rfl⟩:=ry;exact EqAt.str_str i t j t'
   | tup j=>obtain⟨b,ys,q,f1,f2⟩:=hy.af;subst q;cases ry;obtain⟨its,_,ht⟩:=Mx.au hok f1;exact EqAt.str_tuple i t ht (by lia)
   | lst j=>obtain⟨b,ys,q,f1,_,f2⟩:=hy.lst_inv;subst q;cases ry;obtain⟨its,_,ht⟩:=aN hok f1;exact EqAt.str_list i t ht (by lia)
   | _=>simp[pl] at fq
  | tup ds=>unfold dp at hd;lia
  | lst ds=>unfold dp at hd;lia
  | _=>simp[pl] at gZ
 | succ n ih=>
  intro d e x y u v R hd gZ fq hu hx hy rx ry;cases d with
  | tup ds=>
   obtain⟨a,xs,q,e1,e2⟩:=hx.af;subst q;cases rx;obtain⟨its,r1,ht⟩:=Mx.au hok e1;cases e with
   | bb=>have:=hy.ax;subst this;cases ry;exact EqAt.tuple_none ht (by lia)
   | bl j=>have:=hy.ay;subst this;cases ry;exact EqAt.tuple_bool j ht (by lia)
   | int j=>have:=hy.int_inv;subst this;obtain⟨t',rfl⟩:=ry;exact EqAt.tuple_int j t' ht (by lia)
   | str j=>have:=hy.str_inv;subst this;obtain⟨t',rfl⟩:=ry;exact EqAt.tuple_str j t' ht (by lia)
   | lst j=>obtain⟨b,ys,q,f1,_,f2⟩:=hy.lst_inv;subst q;cases ry;obtain⟨aI,_,b8⟩:=aN hok f1;exact EqAt.tuple_list ht b8 (by lia)
   | tup es=>
    obtain⟨b,ys,q,f1,f2⟩:=hy.af;subst q;cases ry;obtain⟨aI,r2,b8⟩:=Mx.au hok f1;by_cases eS:a=b
    ·subst eS;have:=RV.inj hx hy gZ fq;cases this;rw[i6 _ gZ];exact EqAt.same _
    ·have l1:its.toArray.size=ds.length:=by rw[Qg,<-r1.length,e2.length]
     have l2:aI.toArray.size=es.length:=by rw[Qg,<-r2.length,f2.length]
     have key:=RcAt.tuples (A:=R) (e:=tT ds es) ht b8 (by lia) (λj h1 h2=>?_)
     ·have q:=cJ ds es;rw[<-l1,<-l2] at q;rw[q] at key;exact EqAt.of_refs eS key
     ·have kX:j < xs.length:=by rw[e2.length,<-l1];exact h1
      have jB:j < ys.length:=by rw[f2.length,<-l2];exact h2
      obtain⟨d,g1,g2⟩:=e2.get (i:=j) (x:=xs[j]) (by simp[kX]);obtain⟨e,k1,k2⟩:=f2.get (i:=j) (x:=ys[j]) (by simp[jB]);obtain⟨u,AB,ru⟩:=r1.get (i:=j) (x:=xs[j]) (by simp[kX]);obtain⟨v,Dv,rv⟩:=r2.get (i:=j) (x:=ys[j]) (by simp[jB]);have eu:its.toArray[j]=u:=by simp only[List.getElem_toArray];exact(Qi.mp AB).2
      have ev:aI.toArray[j]=v:=by simp only[List.getElem_toArray];exact(Qi.mp Dv).2
      rw[eu,ev,show tT ds es j=cg d e by unfold tT;rw[g1,k1]];have:=mn g1;unfold dp at hd;exact ih d e xs[j] ys[j] u v R.in1 (by lia) (gF (by simpa [pl] using gZ) g1) (gF (by simpa [pl] using fq) k1) (by show R.units + 1 + n < cLine;lia) g2 k2 ru rv
   | _=>simp[pl] at fq
  | lst ds=>
   obtain⟨a,xs,q,e1,_,e2⟩:=hx.lst_inv;subst q;cases rx;obtain⟨its,r1,ht⟩:=aN hok e1;cases e with
   | bb=>have:=hy.ax;subst this;cases ry;exact EqAt.list_none ht (by lia)
   | bl j=>have:=hy.ay;subst this;cases ry;exact EqAt.list_bool j ht (by lia)
   | int j=>have:=hy.int_inv;subst this;obtain⟨t',rfl⟩:=ry;exact EqAt.list_int j t' ht (by lia)
   | str j=>have:=hy.str_inv;subst this;obtain⟨t',rfl⟩:=ry;exact EqAt.list_str j t' ht (by lia)
   | tup j=>obtain⟨b,ys,q,f1,f2⟩:=hy.af;subst q;cases ry;obtain⟨aI,_,b8⟩:=Mx.au hok f1;exact EqAt.list_tuple ht b8 (by lia)
   | lst es=>
    obtain⟨b,ys,q,f1,_,f2⟩:=hy.lst_inv;subst q;cases ry;obtain⟨aI,r2,b8⟩:=aN hok f1;by_cases eS:a=b
    ·subst eS;have:=RV.inj hx hy gZ fq;cases this;rw[i6 _ gZ];exact EqAt.same _
    ·have l1:its.toArray.size=ds.length:=by rw[Qg,<-r1.length,e2.length]
     have l2:aI.toArray.size=es.length:=by rw[Qg,<-r2.length,f2.length]
     have q:=cJ ds es;by_cases hl:ds.length=es.length
     ·have key:=RcAt.lists (A:=R) (e:=tT ds es) ht b8 (by lia) (by lia) (λj h1 h2=>?_)
      ·rw[hl,Nat.min_self,beq_self_eq_true,Bool.and_true] at q;rw[l1,hl,q] at key;exact EqAt.of_refs eS key
      ·have kX:j < xs.length:=by rw[e2.length,<-l1];exact h1
       have jB:j < ys.length:=by rw[f2.length,<-l2];exact h2
       obtain⟨d,g1,g2⟩:=e2.get (i:=j) (x:=xs[j]) (by simp[kX]);obtain⟨e,k1,k2⟩:=f2.get (i:=j) (x:=ys[j]) (by simp[jB]);obtain⟨u,AB,ru⟩:=r1.get (i:=j) (x:=xs[j]) (by simp[kX]);obtain⟨v,Dv,rv⟩:=r2.get (i:=j) (x:=ys[j]) (by simp[jB]);have eu:its.toArray[j]=u:=by simp only[List.getElem_toArray];exact(Qi.mp AB).2
       have ev:aI.toArray[j]=v:=by simp only[List.getElem_toArray];exact(Qi.mp Dv).2
       rw[eu,ev,show tT ds es j=cg d e by unfold tT;rw[g1,k1]];have:=mn g1;unfold dp at hd;exact ih d e xs[j] ys[j] u v R.in1 (by lia) (gF (by simpa [pl] using gZ) g1) (gF (by simpa [pl] using fq) k1) (by show R.units + 1 + n < cLine;lia) g2 k2 ru rv
     ·have key:=RcAt.lists_lengths (A:=R) ht b8 (by rw[l1,l2];simpa using hl) (by lia);have hb:(ds.length==es.length)=false:=by simpa using hl
      rw[hb,Bool.and_false] at q;show EqAt R s _ _ (b9 ds es);rw[<-q];exact EqAt.of_refs eS key
   | _=>simp[pl] at fq
  | _=>exact ih _ e x y u v R (by unfold dp;lia) gZ fq (by lia) hx hy rx ry
end
inductive R (α:Type) where
 | ok (a:α) | ex (c:Nat) | bad
noncomputable def R.bind {α β:Type}:R α->(α->R β)->R β
 | .ok a,f=>f a
 | .ex c,_=> .ex c
 | .bad,_=> .bad
@[simp] theorem R.ai {α β:Type} (a:α) (f:α->R β):(R.ok a).bind f=f a:=rfl
noncomputable def R.nx {α:Type}:R α->R α
 | .ok a=> .ok a
 | _=> .bad
noncomputable abbrev lim:Nat:=1000000
noncomputable abbrev aj:=List (Option Dt)
noncomputable abbrev Sx:=Option (List Int)
noncomputable def ag (b:Bool) {α:Type} (r:R α):R α:=if b then r else .bad
@[simp] theorem guard_true {α:Type} (r:R α):ag true r=r:=rfl
noncomputable def p8 (o:Operator) (a b:Dt):R Dt:=match o with
 | .Add=>match a,b with
  | .int i,.int j=> .ok (.int (i + j))
  | .str x,.str y=>ag (decide (x.length + y.length<=lim)) (.ok (.str (x++y)))
  | .lst x,.lst y=>ag (decide (x.length + y.length<=lim)) (.ok (.lst (x++y)))
  | .tup x,.tup y=>ag (decide (x.length + y.length<=lim)) (.ok (.tup (x++y)))
  | _,_=> .bad
 | .Sub=>match a,b with
  | .int i,.int j=> .ok (.int (i - j))
  | _,_=> .bad
 | .Mult=>match a,b with
  | .int i,.int j=>ag (decide (i.natAbs < 2 ^ 64)||decide (j.natAbs < 2 ^ 64)) (.ok (.int (i * j)))
  | _,_=> .bad
 | .FloorDiv=>match a,b with
  | .int i,.int j=>ag (decide (0 < j)&&decide (j.natAbs.log2 < 9000)) (.ok (.int (i / j)))
  | _,_=> .bad
 | .Mod=>match a,b with
  | .int i,.int j=>ag (decide (0 < j)) (.ok (.int (i % j)))
  | _,_=> .bad
 | .Pow=>match a,b with
  | .int i,.int j=>ag (decide (0<=j)&&decide (j<=1000)&&decide (i.natAbs < 2 ^ 64)) (.ok (.int (i ^ j.toNat)))
  | _,_=> .bad
 | _=> .bad
noncomputable def k7 (d e:Dt):Bool:=pl d&&pl e&&decide (dp d<=100)
noncomputable def itemsOf:Dt->Option (List Dt)
 | .lst ds=>some ds
 | .tup ds=>some ds
 | .bc ns=>some (ns.map Dt.int)
 | _=>none
noncomputable def cZ:Dt->Option (List Dt)
 | .lst ds=>some ds
 | .tup ds=>some ds
 | _=>none
noncomputable def de:CmpOp->Dt->Dt->R Bool
 | .Eq,a,b=>ag (k7 a b) (.ok (cg a b))
 | .NotEq,a,b=>ag (k7 a b) (.ok (!cg a b))
 | .Lt,.int i,.int j=> .ok (decide (i < j))
 | .LtE,.int i,.int j=> .ok (decide (i<=j))
 | .Gt,.int i,.int j=> .ok (decide (j < i))
 | .GtE,.int i,.int j=> .ok (decide (j<=i))
 | .Is,a,.bb=> .ok (match a with | .bb=>true | _=>false)
 | .IsNot,a,.bb=> .ok (match a with | .bb=>false | _=>true)
 | _,_,_=> .bad
noncomputable def dy:Dt->R Bool
 | .bb=> .ok false
 | .bl b=> .ok b
 | .int i=> .ok (i != 0)
 | .str y=>ag (decide (y.length<=lim)) (.ok ((y.length:Int) != 0))
 | .lst ds=> .ok !ds.isEmpty
 | .tup ds=> .ok !ds.isEmpty
 | .bc ds=> .ok !ds.isEmpty
 | _=> .bad
noncomputable def uv (ds:List Dt) (i:Int):R Dt:=match jU ds i with
 | some d=> .ok d
 | none=> .bad
noncomputable def cc:Dt->Dt->R Dt
 | .lst ds,.int i=>uv ds i
 | .tup ds,.int i=>uv ds i
 | .bc ns,.int i=>uv (ns.map Dt.int) i
 | .str z,.int i=>ag (decide (z.length<=lim)) (match jU z.cps.toList i with | some c=> .ok (.str ⟨#[c]⟩) | none=> .bad)
 | _,_=> .bad
noncomputable def cutD {α:Type} (xs:List α) (lo hi:Option Int):List α:=(xs.drop (HT.bW xs.length 0 lo)).take (HT.bW xs.length xs.length hi - HT.bW xs.length 0 lo)
noncomputable def i8:Dt->Option Int->Option Int->R Dt
 | .lst ds,lo,hi=> .ok (.lst (cutD ds lo hi))
 | .bc ds,lo,hi=> .ok (.lst (cutD (ds.map Dt.int) lo hi))
 | .tup ds,lo,hi=> .ok (.tup (cutD ds lo hi))
 | .str z,lo,hi=>ag (decide (z.length<=lim)) (.ok (.str (PySem.Txt.slice z lo hi)))
 | _,_,_=> .bad
inductive BI where
 | len | min2 | sum | sorted | tuple | list | isi (T:String) | dict
 deriving DecidableEq
noncomputable def intsOf:List Dt->Option (List Int)
 | []=>some []
 | .int i::r=>(intsOf r).map (i:: ·)
 | _=>none
noncomputable def Ge:List Dt->Option (List Bool)
 | []=>some []
 | .bl i::r=>(Ge r).map (i:: ·)
 | _=>none
noncomputable def jG (a b:Mx.D):Bool:= !Mx.D.lt b a
noncomputable def aR (ds:List Mx.D):List Mx.D:=ds.mergeSort jG
mutual
noncomputable def jH:Mx.D->Mx.D->Bool
 | .int _,.int _=>true
 | .str _,.str _=>true
 | .tup a,.tup b=>ib a b
 | _,_=>false
noncomputable def ib:List Mx.D->List Mx.D->Bool
 | x::xs,y::ys=>jH x y&&ib xs ys
 | _,_=>true
end
noncomputable def Hl (k:Mx.SK):Mx.D->Bool
 | .tup (.tup _::_)=>k== .tt
 | .tup (.str _::_)=>k== .ts
 | .tup (.int _::_)=>k== .ti
 | .str _=>k== .s
 | .int _=>k== .i
 | _=>false
noncomputable def iQ (ds:List Mx.D):Bool:=decide (ds.length < 1000000)&&(decide (ds.length < 2)||(decide (Mx.D.cL ds<=100)&&([Mx.SK.tt,.ts,.ti,.s,.i].any λk=>ds.all (Hl k))&&ds.all λd=>ds.all λe=>jH d e))
noncomputable def dd:List Str->List Str
 | []=>[]
 | x::r=>if x∈dd r then dd r else x::dd r
noncomputable def Lz:List Int->Int
 | []=>0
 | [a]=>a
 | a::r=>min a (Lz r)
noncomputable def strsOf:List Dt->Option (List Str)
 | []=>some []
 | .str i::r=>(strsOf r).map (i:: ·)
 | _=>none
noncomputable def iH (xs ys:List Dt):List Dt:=List.zipWith (λx y=>Dt.tup [x,y]) xs ys
noncomputable def wD:Nat->List Dt->List Dt
 | _,[]=>[]
 | i,x::xs=>Dt.tup [.int i,x]::wD (i + 1) xs
noncomputable def uQ (T:String):Dt->R Bool
 | .str _=> .ok (T=="str")
 | .int _=> .ok (T=="int")
 | .bl _=> .ok (T=="bool"||T=="int")
 | .lst _=> .ok (T=="list")
 | .tup _=> .ok (T=="tuple")
 | .bb=> .ok false
 | _=> .bad
noncomputable def wC (d:Dt):Option (Str×Dt):=match d with
 | .tup ds=>match ds with
  | [a,v]=>match a with
   | .str k=>some (k,v)
   | _=>none
  | _=>none
 | _=>none
noncomputable def uD:List Dt->Option (List (Str×Dt))
 | []=>some []
 | d::r=>(wC d).bind λp=>(uD r).map (p:: ·)
noncomputable def ei (b:BI) (as:List Dt):R Dt:=match b with
 | .len=>match as with
  | [.str x]=>ag (decide (x.length<=lim)) (.ok (.int x.length))
  | [.lst ds]=> .ok (.int ds.length)
  | [.tup ds]=> .ok (.int ds.length)
  | [.bc ds]=> .ok (.int ds.length)
  | _=> .bad
 | .min2=>match as with
  | [.int i,.int j]=> .ok (.int (if j < i then j else i))
  | _=> .bad
 | .sum=>match as with
  | [.lst ds]=>match intsOf ds with | some ns=> .ok (.int ns.sum) | none=> .bad
  | _=> .bad
 | .sorted=>match as with
  | [d]=>match itemsOf d with
   | some ds=>match dz ds with
    | some ms=>ag (iQ ms) (.ok (.lst (aa (aR ms))))
    | none=> .bad
   | none=> .bad
  | _=> .bad
 | .tuple=>match as with
  | [.lst ds]=> .ok (.tup ds)
  | [.tup ds]=> .ok (.tup ds)
  | _=> .bad
 | .list=>match as with
  | [.lst ds]=> .ok (.lst ds)
  | [.tup ds]=> .ok (.lst ds)
  | [.bc ns]=> .ok (.lst (ns.map Dt.int))
  | _=> .bad
 | .isi T=>match as with
  | [d]=>(uQ T d).bind λb=> .ok (.bl b)
  | _=> .bad
 | .dict=>match as with
  | [.tup ds]=>match uD ds with | some ps=>ag (decide (ps.map (·.1)).Nodup) (.ok (.obj (ps.map (·.1)) (ps.map (·.2)))) | none=> .bad
  | _=> .bad
noncomputable def isStr:Dt->Bool
 | .str _=>true
 | _=>false
inductive MT where
 | join
 deriving DecidableEq
noncomputable def Pg:MT->Dt->List Dt->R Dt
 | .join,.str z,[.lst ds]=>match strsOf ds with
  | some ys=>ag (decide ((ys.map (·.length)).sum + ys.length * z.length<=lim)) (.ok (.str (PySem.Txt.join z ys)))
  | none=> .bad
 | _,_,_=> .bad
inductive Tg where
 | nm (i:Nat) | tp (is:List Nat)
 deriving DecidableEq
mutual
inductive C where
 | con (d:Dt) | var (i:Nat) | mvr (i:Nat)
 | bin (o:Operator) (a b:C) | cmp (o:CmpOp) (a b:C) | ch (o p:CmpOp) (a b c:C)
 | neg (a:C) | nt (a:C) | and (a b:C) | or (a b:C) | ite (t a b:C)
 | idx (a b:C) | sliL (a lo:C) | sliH (a hi:C) | sliB (a lo hi:C)
 | tup (es:Cs) | lst (es:Cs)
 | call (f:Nat) (es:Cs) (ds:List Dt) | callD (f:Nat) (es:Cs) | popD | lenD
 | bi (b:BI) (es:Cs) | mt (m:MT) (o:C) (es:Cs)
 | GE (i:Nat) (k e:C) | srtI (i:Nat) | gtO (o k e:C)
 | comp (cap:List (Option Nat)) (it:nN) (tg:Tg) (ts:Cs) (e:C)
 | BR (cap:List (Option Nat)) (it:nN) (tg:Tg) (ts:Cs) (Lm:nN) (Nx:Tg) (Nz:Cs) (e:C)
inductive Cs where
 | nil | cons (c:C) (cs:Cs)
inductive nN where
 | seq (c:C) | rng1 (c:C) | rng2 (a b:C) | zip (a b:C) | enum (c:C) | zipR (a c:C)
end
noncomputable def Cs.all (p:C->Bool):Cs->Bool
 | .nil=>true
 | .cons c cs=>p c&&cs.all p
mutual
noncomputable def lk:C->Nat
 | .mvr _=>1
 | .and _ _=>0
 | .or _ _=>0
 | .ite _ a b=>max (lk a) (lk b)
 | .idx a _=>if lk a<=1 then 0 else 2
 | .sliL a _=>if lk a<=1 then 0 else 2
 | .sliH a _=>if lk a<=1 then 0 else 2
 | .sliB a _ _=>if lk a<=1 then 0 else 2
 | .bin _ a b=>if lk a<=1/\lk b<=1 then 0 else 2
 | .tup es=>if nJ es=0 then 0 else 2
 | .lst es=>if nJ es=0 then 0 else 2
 | .call _ es _=>if nJ es=0 then 0 else 2
 | .callD _ es=>if nJ es=0 then 0 else 2
 | .bi _ es=>if nJ es<=1 then 0 else 2
 | .GE _ _ e=>lk e
 | .gtO o _ e=>if lk o=0 then lk e else 2
 | _=>0
noncomputable def nJ:Cs->Nat
 | .nil=>0
 | .cons c cs=>max (lk c) (nJ cs)
end
noncomputable def uW:nN->Nat
 | .seq c=>lk c
 | .zip a b=>max (lk a) (lk b)
 | .enum c=>lk c
 | .zipR a _=>lk a
 | _=>0
noncomputable def fresh (fr:Nat->Bool):C->Bool
 | .lst _=>true
 | .comp ..=>true
 | .BR ..=>true
 | .bi .sorted _=>true
 | .bi .list _=>true
 | .bin ..=>true
 | .call f _ _=>fr f
 | .callD f _=>fr f
 | _=>false
noncomputable def bR (c:C) (d:Dt):Bool:=decide (lk c=0)||iJ d
noncomputable def kK (c:C) (d:Dt):Bool:=decide (lk c=0)||match d with | .lst ds=>i0 ds | d=>iJ d
noncomputable def dG (ρ:aj) (i:Nat):R Dt:=match ρ[i]? with
 | some (some d)=> .ok d
 | _=> .bad
noncomputable def jl (cap:List (Option Nat)) (ρ:aj):aj:=cap.map λo=>o.bind λi=>(ρ[i]?).join
noncomputable def ji:List Nat->List Dt->aj->R aj
 | [],[],ρ=> .ok ρ
 | i::is,d::ds,ρ=>ji is ds (ρ.set i (some d))
 | _,_,_=> .bad
noncomputable def du:Tg->Dt->aj->R aj
 | .nm i,d,ρ=> .ok (ρ.set i (some d))
 | .tp is,.tup ds,ρ=>ji is ds ρ
 | _,_,_=> .bad
noncomputable def bh (f:Dt->Sx->R (List Dt×Sx)):List Dt->Sx->R (List Dt×Sx)
 | [],S=> .ok ([],S)
 | x::xs,S=>(f x S).bind λp=>(bh f xs p.2).bind λq=> .ok (p.1++q.1,q.2)
noncomputable def bB (tg:Tg) (Mt:aj->Sx->R (Bool×Sx)) (body:aj->Sx->R (List Dt×Sx)) (ρ:aj) (d:Dt) (S:Sx):R (List Dt×Sx):=
 (du tg d ρ).bind λρ1=>(Mt ρ1 S).bind λb=>if b.1 then body ρ1 b.2 else .ok ([],b.2)
noncomputable def a9 (lo:Int) (n:Nat):List Dt:=(List.range n).map λ(i:Nat)=>Dt.int (lo + (i:Int))
noncomputable def Kh (d:Mx.D):List Dt->List Dt->Option Dt
 | k::ks,v::vs=>if toD k=some d then some v else Kh d ks vs
 | _,_=>none
noncomputable def Gw (d:Mx.D) (v:Dt):List Dt->List Dt->List Dt
 | k::ks,x::vs=>(if toD k=some d then v else x)::Gw d v ks vs
 | _,vs=>vs
noncomputable def Hm (k:Dt):Option Mx.D:=match toD k with
 | some (.tup ds)=>if Mx.D.dep (.tup ds)<=8 then some (.tup ds) else none
 | _=>none
noncomputable def Gr (z k e:Dt):R Dt:=match z with
 | .fL ks vs=>match Hm k with
  | some d=> .ok ((Kh d ks vs).getD e)
  | none=> .bad
 | _=> .bad
noncomputable def Gx (z k v:Dt):R Dt:=match z with
 | .fL ks vs=>match Hm k with
  | some d=>ag (decide (ks.length < lim)) (.ok (if (Kh d ks vs).isSome then .fL ks (Gw d v ks vs) else .fL (ks++[k]) (vs++[v])))
  | none=> .bad
 | _=> .bad
noncomputable def x5 (ks vs:List Mx.D):List Mx.D:=(ks.zip vs).map λz=> .tup [z.1,z.2]
noncomputable def Gy (z:Dt):R Dt:=match z with
 | .fL ks vs=>match dz ks,dz vs with
  | some ms,some ns=>ag (iQ (x5 ms ns)) (.ok (.lst (aa (aR (x5 ms ns)))))
  | _,_=> .bad
 | _=> .bad
noncomputable def Ll:Dt->Bool
 | .obj _ _=>true
 | _=>false
noncomputable def A4 (y:Str):List Str->List Dt->Option Dt
 | k::ks,v::vs=>if k=y then some v else A4 y ks vs
 | _,_=>none
noncomputable def xZ (z k e:Dt):R Dt:=match z with
 | .obj ks vs=>match k with
  | .str y=> .ok ((A4 y ks vs).getD e)
  | _=> .bad
 | _=> .bad
noncomputable def Hh (ρ:aj) (i:Nat):Bool:=match ρ[i]? with | some (some (.fL _ _))=>true | _=>false
noncomputable abbrev FT:=Nat->List Dt->Sx->R (Dt×Sx)
mutual
noncomputable def ev (F:FT):C->aj->Sx->R (Dt×Sx)
 | .con d,_,S=> .ok (d,S)
 | .var i,ρ,S=>(dG ρ i).bind λd=> .ok (d,S)
 | .mvr i,ρ,S=>(dG ρ i).bind λd=> .ok (d,S)
 | .bin o a b,ρ,S=>(ev F a ρ S).bind λx=>(ev F b ρ x.2).bind λy=>(p8 o x.1 y.1).bind λd=> .ok (d,y.2)
 | .cmp o a b,ρ,S=>(ev F a ρ S).bind λx=>(ev F b ρ x.2).bind λy=>(de o x.1 y.1).bind λd=> .ok (.bl d,y.2)
 | .ch o p a b c,ρ,S=>(ev F a ρ S).bind λx=>(ev F b ρ x.2).bind λy=>(de o x.1 y.1).bind λd=>
   if d then(ev F c ρ y.2).bind λz=>(de p y.1 z.1).bind λe=> .ok (.bl e,z.2) else .ok (.bl false,y.2)
 | .neg a,ρ,S=>(ev F a ρ S).bind λx=>match x.1 with | .int i=> .ok (.int (-i),x.2) | _=> .bad
 | .nt a,ρ,S=>(ev F a ρ S).bind λx=>match x.1 with | .bl b=> .ok (.bl !b,x.2) | _=> .bad
 | .and a b,ρ,S=>(ev F a ρ S).bind λx=>match x.1 with | .bl true=>(ev F b ρ x.2).bind λy=>(match y.1 with | .bl c=> .ok (.bl c,y.2) | _=> .bad) | .bl false=> .ok (.bl false,x.2) | _=> .bad
 | .or a b,ρ,S=>(ev F a ρ S).bind λx=>match x.1 with | .bl false=>(ev F b ρ x.2).bind λy=>(match y.1 with | .bl c=> .ok (.bl c,y.2) | _=> .bad) | .bl true=> .ok (.bl true,x.2) | _=> .bad
 | .ite t a b,ρ,S=>(cX F t ρ S).bind λx=>if x.1 then ev F a ρ x.2 else ev F b ρ x.2
 | .idx a b,ρ,S=>(ev F a ρ S).bind λx=>(ev F b ρ x.2).bind λy=>(cc x.1 y.1).bind λd=> .ok (d,y.2)
 | .sliL a l,ρ,S=>(ev F a ρ S).bind λx=>(ev F l ρ x.2).bind λy=>match y.1 with | .int i=>(i8 x.1 (some i) none).bind λd=> .ok (d,y.2) | _=> .bad
 | .sliH a h,ρ,S=>(ev F a ρ S).bind λx=>(ev F h ρ x.2).bind λy=>match y.1 with | .int i=>(i8 x.1 none (some i)).bind λd=> .ok (d,y.2) | _=> .bad
 | .sliB a l h,ρ,S=>(ev F a ρ S).bind λx=>(ev F l ρ x.2).bind λy=>match y.1 with | .int i=>(ev F h ρ y.2).bind λz=>(match z.1 with | .int j=>(i8 x.1 (some i) (some j)).bind λd=> .ok (d,z.2) | _=> .bad) | _=> .bad
 | .tup es,ρ,S=>(gL F es ρ S).bind λx=>ag (decide (x.1.length<=lim)) (.ok (.tup x.1,x.2))
 | .lst es,ρ,S=>(gL F es ρ S).bind λx=>ag (decide (x.1.length<=lim)) (.ok (.lst x.1,x.2))
 | .call f es ds,ρ,S=>(gL F es ρ S).bind λx=>(F f (x.1++ds) none).bind λy=> .ok (y.1,x.2)
 | .callD f es,ρ,S=>ag S.isSome ((gL F es ρ S).bind λx=>match x.2 with | some s=>F f x.1 (some s) | none=> .bad)
 | .popD,_,S=>match S with | some ns=>ag (!ns.isEmpty) (.ok (.int (ns.getLastD 0),some ns.dropLast)) | none=> .bad
 | .lenD,_,S=>match S with | some ns=> .ok (.int ns.length,S) | none=> .bad
 | .GE i k e,ρ,S=>ag (Hh ρ i) ((ev F k ρ S).bind λx=>(ev F e ρ x.2).bind λy=>(dG ρ i).bind λz=>(Gr z x.1 y.1).bind λd=> .ok (d,y.2))
 | .srtI i,ρ,S=>(dG ρ i).bind λz=>(Gy z).bind λd=> .ok (d,S)
 | .gtO o k e,ρ,S=>(ev F o ρ S).bind λz=>ag (Ll z.1) ((ev F k ρ z.2).bind λx=>(ev F e ρ x.2).bind λy=>(xZ z.1 x.1 y.1).bind λd=> .ok (d,y.2))
 | .bi b es,ρ,S=>(gL F es ρ S).bind λx=>(ei b x.1).bind λd=> .ok (d,x.2)
 | .mt m o es,ρ,S=>(ev F o ρ S).bind λy=>ag (isStr y.1) ((gL F es ρ y.2).bind λx=>(Pg m y.1 x.1).bind λd=> .ok (d,x.2))
 | .comp cap it tg ts e,ρ,S=>(e9 F it ρ S).bind λx=>ag (decide (x.1.length<=lim)&&(decide (uW it<=1)||iS F it ρ S))
   ((bh (bB tg (cC F ts) (λρ1 S1=>(ev F e ρ1 S1).bind λy=>ag (bR e y.1) (.ok ([y.1],y.2))) (jl cap ρ)) x.1 x.2).bind λq=> .ok (.lst q.1,q.2))
 | .BR cap it tg ts Lm Nx Nz e,ρ,S=>(e9 F it ρ S).bind λx=>ag (decide (x.1.length<=lim)&&(decide (uW it<=1)||iS F it ρ S))
   ((bh (bB tg (cC F ts) (λρ1 S1=>(e9 F Lm ρ1 S1).bind λx2=>ag (decide (x.1.length * x2.1.length<=lim)&&decide (uW Lm=0))
    (bh (bB Nx (cC F Nz) (λρ2 S2=>(ev F e ρ2 S2).bind λy=>ag (bR e y.1) (.ok ([y.1],y.2))) ρ1) x2.1 x2.2)) (jl cap ρ)) x.1 x.2).bind λq=> .ok (.lst q.1,q.2))
noncomputable def cX (F:FT):C->aj->Sx->R (Bool×Sx)
 | .nt a,ρ,S=>(cX F a ρ S).bind λx=> .ok (!x.1,x.2)
 | .and a b,ρ,S=>(cX F a ρ S).bind λx=>if x.1 then cX F b ρ x.2 else .ok (false,x.2)
 | .or a b,ρ,S=>(cX F a ρ S).bind λx=>if x.1 then .ok (true,x.2) else cX F b ρ x.2
 | .cmp o a b,ρ,S=>(ev F a ρ S).bind λx=>(ev F b ρ x.2).bind λy=>(de o x.1 y.1).bind λd=> .ok (d,y.2)
 | .ch o p a b c,ρ,S=>(ev F a ρ S).bind λx=>(ev F b ρ x.2).bind λy=>(de o x.1 y.1).bind λd=>
   if d then(ev F c ρ y.2).bind λz=>(de p y.1 z.1).bind λe=> .ok (e,z.2) else .ok (false,y.2)
 | .var i,ρ,S=>(dG ρ i).bind λd=>(dy d).bind λb=> .ok (b,S)
 | .mvr i,ρ,S=>(dG ρ i).bind λd=>(dy d).bind λb=> .ok (b,S)
 | .call f es ds,ρ,S=>(gL F es ρ S).bind λx=>(F f (x.1++ds) none).bind λy=>(dy y.1).bind λb=> .ok (b,x.2)
 | .callD f es,ρ,S=>ag S.isSome ((gL F es ρ S).bind λx=>match x.2 with | some s=>(F f x.1 (some s)).bind λy=>(dy y.1).bind λb=> .ok (b,y.2) | none=> .bad)
 | .bi b es,ρ,S=>(gL F es ρ S).bind λx=>(ei b x.1).bind λd=>(dy d).bind λb=> .ok (b,x.2)
 | .idx a b,ρ,S=>(ev F a ρ S).bind λx=>(ev F b ρ x.2).bind λy=>(cc x.1 y.1).bind λd=>(dy d).bind λb=> .ok (b,y.2)
 | _,_,_=> .bad
noncomputable def gL (F:FT):Cs->aj->Sx->R (List Dt×Sx)
 | .nil,_,S=> .ok ([],S)
 | .cons c cs,ρ,S=>(ev F c ρ S).bind λx=>(gL F cs ρ x.2).bind λy=> .ok (x.1::y.1,y.2)
noncomputable def cC (F:FT):Cs->aj->Sx->R (Bool×Sx)
 | .nil,_,S=> .ok (true,S)
 | .cons c .nil,ρ,S=>cX F c ρ S
 | _,_,_=> .bad
noncomputable def e9 (F:FT):nN->aj->Sx->R (List Dt×Sx)
 | .seq c,ρ,S=>(ev F c ρ S).bind λx=>match itemsOf x.1 with | some ds=> .ok (ds,x.2) | none=> .bad
 | .rng1 c,ρ,S=>(ev F c ρ S).bind λx=>match x.1 with | .int j=>ag (decide (j<=lim)&&decide (-lim<=j)) (.ok (a9 0 j.toNat,x.2)) | _=> .bad
 | .rng2 a b,ρ,S=>(ev F a ρ S).bind λx=>(ev F b ρ x.2).bind λy=>match x.1,y.1 with
   | .int i,.int j=>ag (decide (i.natAbs<=lim)&&decide (j.natAbs<=lim)) (.ok (a9 i (j - i).toNat,y.2)) | _,_=> .bad
 | .zip a b,ρ,S=>(ev F a ρ S).bind λx=>(ev F b ρ x.2).bind λy=>match cZ x.1,cZ y.1 with
   | some xs,some ys=> .ok (iH xs ys,y.2) | _,_=> .bad
 | .enum c,ρ,S=>(ev F c ρ S).bind λx=>match cZ x.1 with | some ds=> .ok (wD 0 ds,x.2) | none=> .bad
 | .zipR a c,ρ,S=>(ev F a ρ S).bind λx=>(ev F c ρ x.2).bind λy=>match cZ x.1,y.1 with
   | some xs,.int j=>ag (decide (j<=lim)&&decide (-lim<=j)) (.ok (iH xs (a9 0 j.toNat),y.2)) | _,_=> .bad
noncomputable def iS (F:FT):nN->aj->Sx->Bool
 | .seq c,ρ,S=>match ev F c ρ S with | .ok x=>iJ x.1 | _=>false
 | _,_,_=>false
end
inductive Fl where
 | next | brk | cnt | ret (d:Dt)
mutual
inductive T where
 | asg (i:Nat) (c:C) | asgM (i:Nat) (c:C) | asgD (i:Nat) (c:C) | mov (i j:Nat) | asgT (is:List Nat) (c:C)
 | aug (i:Nat) (o:Operator) (c:C)
 | yF (i:Nat) (k v:C) | app (i:Nat) (c:C) | xtd (i:Nat) (c:C) | clr (i:Nat)
 | Gv (c:C) | ret (c:C) | retN | ifs (t:C) (a b:Ts) | fr (tg:Tg) (it:nN) (b:Ts) | wh (t:C) (b:Ts)
 | Ki (i:Nat) | dset (i:Nat) (k v:C)
 | rs (k:Nat) (vs:List Nat) | tr (b:Ts) (vG:List (Option Bool)) | brk | cnt | pas
inductive Ts where
 | nil | cons (t:T) (ts:Ts)
end
noncomputable abbrev RS:=R (Fl×aj×Sx)
noncomputable def DT (ρ:aj) (i:Nat):Bool:=match ρ[i]? with
 | some (some (.int n))=>decide (0<=n)&&decide (n < 10 ^ 19)
 | _=>false
noncomputable def forL (tg:Tg) (body:aj->Sx->RS):List Dt->aj->Sx->RS
 | [],ρ,S=> .ok (.next,ρ,S)
 | x::xs,ρ,S=>(du tg x ρ).bind λρ1=>(body ρ1 S).bind λp=>match p.1 with
  | .next=>forL tg body xs p.2.1 p.2.2
  | .cnt=>forL tg body xs p.2.1 p.2.2
  | .brk=> .ok (.next,p.2)
  | .ret d=> .ok (.ret d,p.2)
noncomputable def Mw (test:aj->Sx->R (Bool×Sx)) (body:aj->Sx->RS):Nat->aj->Sx->RS
 | 0,_,_=> .bad
 | n + 1,ρ,S=>(test ρ S).bind λb=>if b.1 then(body ρ b.2).bind λp=>match p.1 with
   | .next=>Mw test body n p.2.1 p.2.2
   | .cnt=>Mw test body n p.2.1 p.2.2
   | .brk=> .ok (.next,p.2)
   | .ret d=> .ok (.ret d,p.2)
  else .ok (.next,ρ,b.2)
noncomputable def IU:Nat:=100000
noncomputable def isLE (ρ:aj) (i:Nat):Bool:=match ρ[i]? with
 | some (some (.lst _))=>true
 | _=>false
noncomputable def oU (ρ:aj) (i:Nat):R (List Dt):=match ρ[i]? with
 | some (some (.lst ds))=> .ok ds
 | _=> .bad
mutual
noncomputable def ex (F:FT):T->aj->Sx->RS
 | .asg i c,ρ,S=>(ev F c ρ S).bind λx=>ag (bR c x.1) (.ok (.next,ρ.set i (some x.1),x.2))
 | .asgM i c,ρ,S=>(ev F c ρ S).bind λx=>ag (kK c x.1) (.ok (.next,ρ.set i (some x.1),x.2))
 | .asgD i c,ρ,S=>(ev F c ρ S).bind λx=>match x.1 with | .lst ds=>(match intsOf ds with | some ns=>ag (decide (lk c=0)&&decide (i < ρ.length)) (.ok (.next,ρ.set i none,some ns)) | none=> .bad) | _=> .bad
 | .mov i j,ρ,S=>(dG ρ j).bind λd=> .ok (.next,(ρ.set j none).set i (some d),S)
 | .asgT is c,ρ,S=>(ev F c ρ S).bind λx=>ag (bR c x.1) ((du (.tp is) x.1 ρ).bind λρ1=> .ok (.next,ρ1,x.2))
 | .aug i o c,ρ,S=>(dG ρ i).bind λd=>(ev F c ρ S).bind λx=>match d,x.1 with
   | .int _,.int _=>(p8 o d x.1).bind λz=> .ok (.next,ρ.set i (some z),x.2)
   | .str _,.str _=>(p8 o d x.1).bind λz=> .ok (.next,ρ.set i (some z),x.2)
   | _,_=> .bad
 | .yF i k v,ρ,S=>ag (isLE ρ i) ((ev F v ρ S).bind λx=>(ev F k ρ x.2).bind λy=>ag (bR v x.1) ((oU ρ i).bind λds=>match y.1 with
   | .int n=>(match mO ds.length n with | some j=> .ok (.next,ρ.set i (some (.lst (ds.set j x.1))),y.2) | none=> .bad) | _=> .bad))
 | .Ki i,ρ,S=> .ok (.next,ρ.set i (some (.fL [] [])),S)
 | .dset i k v,ρ,S=>ag (Hh ρ i) ((ev F v ρ S).bind λx=>(ev F k ρ x.2).bind λy=>(dG ρ i).bind λz=>ag (decide (lk v=0)) ((Gx z y.1 x.1).bind λd=> .ok (.next,ρ.set i (some d),y.2)))
 | .app i c,ρ,S=>ag (isLE ρ i) ((ev F c ρ S).bind λx=>ag (bR c x.1) ((oU ρ i).bind λds=>ag (decide (ds.length<=lim)) (.ok (.next,ρ.set i (some (.lst (ds++[x.1]))),x.2))))
 | .xtd i c,ρ,S=>ag (isLE ρ i) ((ev F c ρ S).bind λx=>ag (decide (lk c<=1)) ((oU ρ i).bind λds=>match x.1 with
   | .lst es=>ag (decide (ds.length + es.length<=lim)) (.ok (.next,ρ.set i (some (.lst (ds++es))),x.2)) | .tup es=>ag (decide (ds.length + es.length<=lim)) (.ok (.next,ρ.set i (some (.lst (ds++es))),x.2)) | _=> .bad))
 | .clr i,ρ,S=>(oU ρ i).bind λ_=> .ok (.next,ρ.set i (some (.lst [])),S)
 | .Gv c,ρ,S=>(ev F c ρ S).bind λx=> .ok (.next,ρ,x.2)
 | .ret c,ρ,S=>(ev F c ρ S).bind λx=> .ok (.ret x.1,ρ,x.2)
 | .retN,ρ,S=> .ok (.ret .bb,ρ,S)
 | .ifs t a b,ρ,S=>(cX F t ρ S).bind λx=>if x.1 then aP F a ρ x.2 else aP F b ρ x.2
 | .fr tg it b,ρ,S=>(e9 F it ρ S).bind λx=>ag (decide (uW it=0)||iS F it ρ S) (forL tg (aP F b) x.1 ρ x.2)
 | .wh t b,ρ,S=>Mw (cX F t) (aP F b) IU ρ S
 | .rs k vs,ρ,S=>ag (vs.all (DT ρ)) (.ex k)
 | .tr b vG,ρ,S=>ag S.isNone (match aP F b ρ S with | .ex k=>(match vG[k]? with | some (some v)=> .ok (.ret (.bl v),ρ,S) | _=> .bad) | r=>r)
 | .brk,ρ,S=> .ok (.brk,ρ,S)
 | .cnt,ρ,S=> .ok (.cnt,ρ,S)
 | .pas,ρ,S=> .ok (.next,ρ,S)
noncomputable def aP (F:FT):Ts->aj->Sx->RS
 | .nil,ρ,S=> .ok (.next,ρ,S)
 | .cons t ts,ρ,S=>(ex F t ρ S).bind λp=>match p.1 with
  | .next=>aP F ts p.2.1 p.2.2
  | f=> .ok (f,p.2)
end
structure Fn where
 ps:Nat
 n:Nat
 ba:Bool
 body:Ts
noncomputable def gp (F:FT) (f:Fn) (args:List Dt) (S:Sx):R (Dt×Sx):=
 if args.length + (if f.ba then 1 else 0)=f.ps then
  (aP F f.body ((if f.ba then[none] else[])++args.map some++List.replicate (f.n - f.ps) none) S).bind λp=>match p.1 with
   | .next=> .ok (.bb,p.2.2)
   | .ret d=> .ok (d,p.2.2)
   | _=> .bad
 else .bad
noncomputable def az (fs:List Fn):Nat->FT
 | 0,_,_,_=> .bad
 | n + 1,f,args,S=>match fs[f]? with
  | some g=>gp (az fs n) g args S
  | none=> .bad
structure G where
 fns:List (Str×Nat×List Dt×Bool)
 cons:List (Str×Dt)
 bls:List Str
 fr:Nat->Bool
 xs:List (Str×List (Str×Bool))
structure Gm where
 names:List (Str×NameKind)
 N:List Str
 M:List Bool
 δ:Option Nat
 κ:Option Nat
noncomputable def y9:Option NameKind->Bool
 | some .local=>true
 | some .cell=>true
 | some .free=>true
 | _=>false
noncomputable def xR:Option NameKind->Bool
 | some .local=>true
 | some .cell=>true
 | _=>false
noncomputable def uK:Option NameKind->Bool
 | some .globalImplicit=>true
 | _=>false
noncomputable def xI (x:Str):List Str->Option Nat
 | []=>none
 | y::r=>if x==y then some 0 else(xI x r).map (· + 1)
theorem jD {x:Str}:∀{l:List Str} {i:Nat},xI x l=some i->l[i]?=some x
 | [],i,h=>by simp[xI] at h
 | y::r,i,h=>by
  unfold xI at h;by_cases e:(x==y)=true
  ·rw[if_pos e] at h;cases h;have:x=y:=by simpa using e
   simp[this]
  ·rw[if_neg e] at h;obtain⟨j,h1,rfl⟩:=Qv.mp h;simp[jD h1]
noncomputable def cN (x:Str):Bool:= !(x==("__debug__":Str))&& !(x==("__classdict__":Str))&& !(x==("__name__":Str))
noncomputable def slot (Γ:Gm) (x:Str):Option Nat:=if y9 (Γ.names.lookup x)&&cN x then xI x Γ.N else none
noncomputable def eX (Γ:Gm) (x:Str):Option Nat:=if xR (Γ.names.lookup x)&&cN x then xI x Γ.N else none
noncomputable def eV (Γ:Gm) (i:Nat):Bool:=Γ.M[i]?==some true
noncomputable def plainS (Γ:Gm) (i:Nat):Bool:= !eV Γ i&& !(Γ.δ==some i)
noncomputable def qx (x:Str):List (Str×Nat×List Dt×Bool)->Option (Nat×Nat×List Dt×Bool)
 | []=>none
 | y::r=>if x==y.1 then some (0,y.2) else(qx x r).map λp=>(p.1 + 1,p.2)
noncomputable def v8:List (Str×Nat×BI):=[("len",1,.len),("min",2,.min2),("sum",1,.sum),("sorted",1,.sorted),("tuple",1,.tuple),("list",1,.list),("dict",1,.dict)]
noncomputable def ql (x:Str) (n:Nat):Option BI:=(v8.find? λt=>t.1==x&&t.2.1==n).map (·.2.2)
noncomputable def rJ (x:Str):Option String:=
 if x==("str":Str) then some "str" else if x==("int":Str) then some "int" else if x==("bool":Str) then some "bool"
 else if x==("list":Str) then some "list" else if x==("tuple":Str) then some "tuple" else none
noncomputable def o8 (Γ:Gm):Expr->Option Nat
 | .Name x _=>(eX Γ x).bind λi=>if plainS Γ i then some i else none
 | _=>none
noncomputable def iY (Γ:Gm):List Expr->Option (List Nat)
 | []=>some []
 | e::es=>(o8 Γ e).bind λi=>(iY Γ es).map (i:: ·)
noncomputable def zY (Γ:Gm):Expr->Option Tg
 | .Name x p=>(o8 Γ (.Name x p)).map .nm
 | .Tuple es _ _=>(iY Γ es).map .tp
 | _=>none
noncomputable def Ke (names:List (Str×NameKind)):List Str:=names.filterMap λp=>if y9 (some p.2) then some p.1 else none
noncomputable def CN (names:List (Str×NameKind)) (N:List Str):List (Option Nat):=names.filterMap λp=>match p.2 with
 | .local=>some none
 | .free=>some (xI p.1 N)
 | .cell=>some none
 | _=>none
noncomputable def CO (cap:List (Option Nat)) (M:List Bool):List Bool:=cap.map λo=>o.elim false λi=>M[i]?==some true
noncomputable def zA (δ:Option Nat):List (Option Nat)->Option Nat
 | []=>none
 | o::r=>if δ.isSome&&o==δ then some 0 else(zA δ r).map (· + 1)
noncomputable def bu (Γ:Gm) (sc:Scope):Gm×List (Option Nat):=
 let cap:=CN sc.names Γ.N
 (⟨sc.names,Ke sc.names,CO cap Γ.M,zA Γ.δ cap,zA Γ.κ cap⟩,cap)
noncomputable def bJ:Tg->List Nat
 | .nm i=>[i]
 | .tp is=>is
noncomputable def zT (names on:List (Str×NameKind)) (N' Nn:List Str) (cap:List (Option Nat)):Bool:=
 names.all (λy=>names.lookup y.1==some y.2&&(y.2 != .free||(on.lookup y.1==some .cell||on.lookup y.1==some .free)))&&
 (cap.length==N'.length)&&(List.range cap.length).all (λj=>match cap[j]? with
  | some (some i)=>(match N'[j]? with
   | some x=>Nn[i]?==some x&&names.lookup x==some .free
   | none=>false)
  | _=>true)
noncomputable def Lk (Γ:Gm):Expr->Bool
 | .Name x _=>match slot Γ x with
  | some i=>Γ.δ==some i
  | none=>false
 | _=>false
mutual
noncomputable def cE:Nat->G->Gm->Expr->Option C
 | 0,_,_,_=>none
 | n + 1,g,Γ,e=>match e with
  | .Constant k _ _=>match k with
   | .int i=>some (.con (.int i))
   | .str x=>some (.con (.str x))
   | .bool x=>some (.con (.bl x))
   | .none=>some (.con .bb)
   | _=>none
  | .Name x _=>match slot Γ x with
   | some i=>if Γ.δ==some i||Γ.κ==some i then none else if eV Γ i then some (.mvr i) else some (.var i)
   | none=>if uK (Γ.names.lookup x)&&cN x then(g.cons.lookup x).map .con else none
  | .BinOp a o b _=>(cE n g Γ a).bind λa'=>(cE n g Γ b).bind λb'=>some (.bin o a' b')
  | .UnaryOp o a _=>(cE n g Γ a).bind λa'=>match o with
   | .USub=>some (.neg a')
   | .Not=>some (.nt a')
   | _=>none
  | .BoolOp o vs _=>cB n g Γ o vs
  | .Compare a os bs _=>match os,bs with
   | [o],[b]=>(cE n g Γ a).bind λa'=>(cE n g Γ b).bind λb'=>some (.cmp o a' b')
   | _,_=>none
  | .Subscript a b _=>match b with
   | .Slice (some l) none none _=>(cE n g Γ a).bind λa'=>(cE n g Γ l).bind λl'=>some (.sliL a' l')
   | .Slice none (some h) none _=>(cE n g Γ a).bind λa'=>(cE n g Γ h).bind λh'=>some (.sliH a' h')
   | b=>(cE n g Γ a).bind λa'=>(cE n g Γ b).bind λb'=>some (.idx a' b')
  | .Tuple es _ _=>(wg n g Γ es).bind λgj=>some (.tup gj)
  | .List es _=>(wg n g Γ es).bind λgj=>some (.lst gj)
  | .Call f as ks pos=>match f,as,ks with
   | .Name f _,a::as,[]=>rY n g Γ f a as
   | .Attribute o m ap,[a,b],[]=>if m==("get":Str)&&ap.endLine==pos.line then(cE n g Γ o).bind λo'=>(cE n g Γ a).bind λa'=>(cE n g Γ b).bind λb'=>some (.gtO o' a' b') else none
   | _,_,_=>none
  | .ListComp elt gens sc _=>
   let b:=bu Γ sc
   if sc.kind== .function then(match gens with
   | [⟨tg,it,ifs,0⟩]=>(cI n g Γ tg it).bind λgz=>(zY b.1 tg).bind λyU=>(Gj n g b.1 ifs).bind λzC=>(cE n g b.1 elt).bind λe'=>
    if zT sc.names Γ.names b.1.N Γ.N b.2&&decide b.1.N.Nodup then some (.comp b.2 gz yU zC e') else none
   | _=>none) else none
  | _=>none
noncomputable def wg:Nat->G->Gm->List Expr->Option Cs
 | 0,_,_,_=>none
 | n + 1,g,Γ,es=>match es with
  | []=>some .nil
  | e::es=>(cE n g Γ e).bind λe'=>(wg n g Γ es).bind λgj=>some (.cons e' gj)
noncomputable def Gj:Nat->G->Gm->List Expr->Option Cs
 | 0,_,_,_=>none
 | n + 1,g,Γ,es=>match es with
  | []=>some .nil
  | [e]=>(cE n g Γ e).bind λe'=>some (.cons e' .nil)
  | _=>none
noncomputable def cB:Nat->G->Gm->BoolOp->List Expr->Option C
 | 0,_,_,_,_=>none
 | n + 1,g,Γ,o,es=>match es with
  | [e]=>cE n g Γ e
  | e::es=>(cE n g Γ e).bind λe'=>(cB n g Γ o es).bind λgj=>some (match o with | .And=> .and e' gj | .Or=> .or e' gj)
  | []=>none
noncomputable def cI:Nat->G->Gm->Expr->Expr->Option nN
 | 0,_,_,_,_=>none
 | n + 1,g,Γ,tg,e=>match e with
  | .Call (.Name f p) [a] [] q=>if f==("range":Str) then(if uK (Γ.names.lookup f)&&g.bls.contains f then(cE n g Γ a).bind λa'=>some (.rng1 a') else none)
   else(cE n g Γ (.Call (.Name f p) [a] [] q)).bind λc=>some (.seq c)
  | .Call (.Name f p) [a,b] [] q=>if f==("range":Str) then(if uK (Γ.names.lookup f)&&g.bls.contains f then none else none)
   else if f==("zip":Str) then(match tg with
    | .Tuple ..=>if uK (Γ.names.lookup f)&&g.bls.contains f then(cE n g Γ a).bind λa'=>(cE n g Γ b).bind λb'=>some (.zip a' b') else none
    | _=>none)
   else(cE n g Γ (.Call (.Name f p) [a,b] [] q)).bind λc=>some (.seq c)
  | e=>(cE n g Γ e).bind λc=>some (.seq c)
noncomputable def rY:Nat->G->Gm->Str->Expr->List Expr->Option C
 | 0,_,_,_,_,_=>none
 | n + 1,g,Γ,f,a,as=>if uK (Γ.names.lookup f)&&cN f then(match qx f g.fns with
  | some (k,np,fy,ba)=>if ba then(match a with
    | .Name x _=>match slot Γ x with
     | some i=>if Γ.δ==some i&&as.length + 1==np then none else none
     | none=>none
    | _=>none)
   else if as.length + 1<=np&&np - (as.length + 1)<=fy.length then(wg n g Γ (a::as)).bind λes=>some (.call k es (fy.drop (fy.length - (np - (as.length + 1))))) else none
  | none=>if g.bls.contains f then
    (if f==("len":Str)&&Lk Γ a&&as.isEmpty then none
    else if f==("isinstance":Str) then(match as with
     | [.Name t _]=>if uK (Γ.names.lookup t)&&g.bls.contains t then(rJ t).bind λT=>(cE n g Γ a).bind λa'=>some (.bi (.isi T) (.cons a' .nil)) else none
     | _=>none)
    else match a,as with
     | .Call (.Name r _) [b] [] _,[]=>if r==("reversed":Str) then none
       else if r==("set":Str) then none
       else(ql f (as.length + 1)).bind λi=>(wg n g Γ (a::as)).bind λes=>some (.bi i es)
     | .Call (.Name r _) [b,c] [] _,[]=>if r==("zip":Str) then none
       else(ql f (as.length + 1)).bind λi=>(wg n g Γ (a::as)).bind λes=>some (.bi i es)
     | _,_=>(ql f (as.length + 1)).bind λi=>(wg n g Γ (a::as)).bind λes=>some (.bi i es))
    else none)
  else none
end
section
variable {P:Program} {w:World} {K:Frag} {A B:Addr->Prop} {H:Hp} {s:Shared}
theorem elts (hok:d9 P w H s.heap) {zF gN:List V} {i1 i2:List Dt} {f9 aI:List Value} {R:Around} {n:Nat} (g1:ao K A H zF i1) (g2:ao K B H gN i2) (r1:aw zF f9) (r2:aw gN aI) (l1:f9.toArray.size=i1.length) (l2:aI.toArray.size=i2.length)
  (p1:pf i1=true) (p2:pf i2=true) (hd:sk i1<=n) (hu:R.in1.units + n < cLine) (j:Nat) (h1:j < f9.toArray.size) (h2:j < aI.toArray.size):EqAt R.in1 s f9.toArray[j] aI.toArray[j] (tT i1 i2 j):=by
 have kX:j < zF.length:=by rw[g1.length,<-l1];exact h1
 have jB:j < gN.length:=by rw[g2.length,<-l2];exact h2
 obtain⟨d,c1,c2⟩:=g1.get (i:=j) (x:=zF[j]) (by simp[kX]);obtain⟨e,k1,k2⟩:=g2.get (i:=j) (x:=gN[j]) (by simp[jB]);obtain⟨u,AB,ru⟩:=r1.get (i:=j) (x:=zF[j]) (by simp[kX]);obtain⟨v,Dv,rv⟩:=r2.get (i:=j) (x:=gN[j]) (by simp[jB]);have eu:f9.toArray[j]=u:=by simp only[List.getElem_toArray];exact(Qi.mp AB).2
 have ev:aI.toArray[j]=v:=by simp only[List.getElem_toArray];exact(Qi.mp Dv).2
 rw[eu,ev,show tT i1 i2 j=cg d e by unfold tT;rw[c1,k1]];exact GA hok n d e zF[j] gN[j] u v R.in1 (Qr (mn c1) hd) (gF p1 c1) (gF p2 k1) hu c2 k2 ru rv
theorem Ib (hok:d9 P w H s.heap) (n:Nat) (d e:Dt) (x y:V) (u v:Value) (R:Around) (hd:dp d<=n + 1) (gZ:pl d=true) (fq:pl e=true) (hu:R.units + n + 1 < cLine) (hx:RV K A H x d) (hy:RV K B H y e) (rx:RelV x u) (ry:RelV y v):RcAt R s u v (cg d e):=by
 cases d with
 | bb=>
  have:=hx.ax;subst this;cases rx;cases e with
  | bb=>have:=hy.ax;subst this;cases ry;exact RcAt.none_none
  | bl i2=>have:=hy.ay;subst this;cases ry;exact RcAt.none_bool i2
  | int i2=>have:=hy.int_inv;subst this;obtain⟨t2,rfl⟩:=ry;exact RcAt.none_int i2 t2
  | str i2=>have:=hy.str_inv;subst this;obtain⟨t2,rfl⟩:=ry;exact RcAt.none_str i2 t2
  | tup i2=>obtain⟨a2,gN,q2,f2,g2⟩:=hy.af;subst q2;cases ry;obtain⟨aI,r2,b8⟩:=Mx.au hok f2;exact RcAt.none_tuple b8 (by lia)
  | lst i2=>obtain⟨a2,gN,q2,f2,_,g2⟩:=hy.lst_inv;subst q2;cases ry;obtain⟨aI,r2,b8⟩:=aN hok f2;exact RcAt.none_list b8 (by lia)
  | _=>simp[pl] at fq
 | bl i1=>
  have:=hx.ay;subst this;cases rx;cases e with
  | bb=>have:=hy.ax;subst this;cases ry;exact RcAt.bool_none i1
  | bl i2=>have:=hy.ay;subst this;cases ry;exact RcAt.bool_bool i1 i2
  | int i2=>have:=hy.int_inv;subst this;obtain⟨t2,rfl⟩:=ry;exact RcAt.bool_int i1 i2 t2
  | str i2=>have:=hy.str_inv;subst this;obtain⟨t2,rfl⟩:=ry;exact RcAt.bool_str i1 i2 t2
  | tup i2=>obtain⟨a2,gN,q2,f2,g2⟩:=hy.af;subst q2;cases ry;obtain⟨aI,r2,b8⟩:=Mx.au hok f2;exact RcAt.bool_tuple i1 b8 (by lia)
  | lst i2=>obtain⟨a2,gN,q2,f2,_,g2⟩:=hy.lst_inv;subst q2;cases ry;obtain⟨aI,r2,b8⟩:=aN hok f2;exact RcAt.bool_list i1 b8 (by lia)
  | _=>simp[pl] at fq
 | int i1=>
  have:=hx.int_inv;subst this;obtain⟨t1,rfl⟩:=rx;cases e with
  | bb=>have:=hy.ax;subst this;cases ry;exact RcAt.int_none i1 t1
  | bl i2=>have:=hy.ay;subst this;cases ry;exact RcAt.int_bool i1 t1 i2
  | int i2=>have:=hy.int_inv;subst this;obtain⟨t2,rfl⟩:=ry;exact RcAt.int_int i1 t1 i2 t2
  | str i2=>have:=hy.str_inv;subst this;obtain⟨t2,rfl⟩:=ry;exact RcAt.int_str i1 t1 i2 t2
  | tup i2=>obtain⟨a2,gN,q2,f2,g2⟩:=hy.af;subst q2;cases ry;obtain⟨aI,r2,b8⟩:=Mx.au hok f2;exact RcAt.int_tuple i1 t1 b8 (by lia)
  | lst i2=>obtain⟨a2,gN,q2,f2,_,g2⟩:=hy.lst_inv;subst q2;cases ry;obtain⟨aI,r2,b8⟩:=aN hok f2;exact RcAt.int_list i1 t1 b8 (by lia)
  | _=>simp[pl] at fq
 | str i1=>
  have:=hx.str_inv;subst this;obtain⟨t1,rfl⟩:=rx;cases e with
  | bb=>have:=hy.ax;subst this;cases ry;exact RcAt.str_none i1 t1
  | bl i2=>have:=hy.ay;subst this;cases ry;exact RcAt.str_bool i1 t1 i2
  | int i2=>have:=hy.int_inv;subst this;obtain⟨t2,rfl⟩:=ry;exact RcAt.str_int i1 t1 i2 t2
  | str i2=>have:=hy.str_inv;subst this;obtain⟨t2,rfl⟩:=ry;exact RcAt.str_str i1 t1 i2 t2
  | tup i2=>obtain⟨a2,gN,q2,f2,g2⟩:=hy.af;subst q2;cases ry;obtain⟨aI,r2,b8⟩:=Mx.au hok f2;exact RcAt.str_tuple i1 t1 b8 (by lia)
  | lst i2=>obtain⟨a2,gN,q2,f2,_,g2⟩:=hy.lst_inv;subst q2;cases ry;obtain⟨aI,r2,b8⟩:=aN hok f2;exact RcAt.str_list i1 t1 b8 (by lia)
  | _=>simp[pl] at fq
 | tup i1=>
  obtain⟨a1,zF,q1,f1,g1⟩:=hx.af;subst q1;cases rx;obtain⟨f9,r1,g6⟩:=Mx.au hok f1;cases e with
  | bb=>have:=hy.ax;subst this;cases ry;exact RcAt.tuple_none g6 (by lia)
  | bl i2=>have:=hy.ay;subst this;cases ry;exact RcAt.tuple_bool i2 g6 (by lia)
  | int i2=>have:=hy.int_inv;subst this;obtain⟨t2,rfl⟩:=ry;exact RcAt.tuple_int i2 t2 g6 (by lia)
  | str i2=>have:=hy.str_inv;subst this;obtain⟨t2,rfl⟩:=ry;exact RcAt.tuple_str i2 t2 g6 (by lia)
  | tup i2=>
   obtain⟨a2,gN,q2,f2,g2⟩:=hy.af;subst q2;cases ry;obtain⟨aI,r2,b8⟩:=Mx.au hok f2;have l1:f9.toArray.size=i1.length:=by rw[Qg,<-r1.length,g1.length]
   have l2:aI.toArray.size=i2.length:=by rw[Qg,<-r2.length,g2.length]
   have key:=RcAt.tuples (A:=R) (e:=tT i1 i2) g6 b8 (by lia) (elts hok g1 g2 r1 r2 l1 l2 (by simpa [pl] using gZ) (by simpa [pl] using fq) (n:=n) (by unfold dp at hd;lia) (by show R.units + 1 + n < cLine;lia));have q:=cJ i1 i2;rw[<-l1,<-l2] at q;rw[q] at key;exact key
  | lst i2=>obtain⟨a2,gN,q2,f2,_,g2⟩:=hy.lst_inv;subst q2;cases ry;obtain⟨aI,r2,b8⟩:=aN hok f2;exact RcAt.tuple_list g6 b8 (by lia)
  | _=>simp[pl] at fq
 | lst i1=>
  obtain⟨a1,zF,q1,f1,_,g1⟩:=hx.lst_inv;subst q1;cases rx;obtain⟨f9,r1,g6⟩:=aN hok f1;cases e with
  | bb=>have:=hy.ax;subst this;cases ry;exact RcAt.list_none g6 (by lia)
  | bl i2=>have:=hy.ay;subst this;cases ry;exact RcAt.list_bool i2 g6 (by lia)
  | int i2=>have:=hy.int_inv;subst this;obtain⟨t2,rfl⟩:=ry;exact RcAt.list_int i2 t2 g6 (by lia)
  | str i2=>have:=hy.str_inv;subst this;obtain⟨t2,rfl⟩:=ry;exact RcAt.list_str i2 t2 g6 (by lia)
  | tup i2=>obtain⟨a2,gN,q2,f2,g2⟩:=hy.af;subst q2;cases ry;obtain⟨aI,r2,b8⟩:=Mx.au hok f2;exact RcAt.list_tuple g6 b8 (by lia)
  | lst i2=>
   obtain⟨a2,gN,q2,f2,_,g2⟩:=hy.lst_inv;subst q2;cases ry;obtain⟨aI,r2,b8⟩:=aN hok f2;have l1:f9.toArray.size=i1.length:=by rw[Qg,<-r1.length,g1.length]
   have l2:aI.toArray.size=i2.length:=by rw[Qg,<-r2.length,g2.length]
   have q:=cJ i1 i2;by_cases hl:i1.length=i2.length
   ·have key:=RcAt.lists (A:=R) (e:=tT i1 i2) g6 b8 (by lia) (by lia) (elts hok g1 g2 r1 r2 l1 l2 (by simpa [pl] using gZ) (by simpa [pl] using fq) (n:=n) (by unfold dp at hd;lia) (by show R.units + 1 + n < cLine;lia));rw[hl,Nat.min_self,beq_self_eq_true,Bool.and_true] at q;rw[l1,hl,q] at key;exact key
   ·have key:=RcAt.lists_lengths (A:=R) g6 b8 (by rw[l1,l2];simpa using hl) (by lia);have hb:(i1.length==i2.length)=false:=by simpa using hl
    rw[hb,Bool.and_false] at q;show RcAt R s _ _ (b9 i1 i2);rw[<-q];exact key
  | _=>simp[pl] at fq
 | _=>simp[pl] at gZ
theorem Bq (hok:d9 P w H s.heap) (n:Nat) (d e:Dt) (x y:V) (u v:Value) (R:Around) (hd:dp d<=n + 1) (gZ:pl d=true) (fq:pl e=true) (hu:R.units + n + 1 < cLine) (hx:RV K A H x d) (hy:RV K B H y e) (rx:RelV x u) (ry:RelV y v):RcNeAt R s u v (!cg d e):=by
 cases d with
 | bb=>
  have:=hx.ax;subst this;cases rx;cases e with
  | bb=>have:=hy.ax;subst this;cases ry;exact RcNeAt.none_none
  | bl i2=>have:=hy.ay;subst this;cases ry;exact RcNeAt.none_bool i2
  | int i2=>have:=hy.int_inv;subst this;obtain⟨t2,rfl⟩:=ry;exact RcNeAt.none_int i2 t2
  | str i2=>have:=hy.str_inv;subst this;obtain⟨t2,rfl⟩:=ry;exact RcNeAt.none_str i2 t2
  | tup i2=>obtain⟨a2,gN,q2,f2,g2⟩:=hy.af;subst q2;cases ry;obtain⟨aI,r2,b8⟩:=Mx.au hok f2;exact RcNeAt.none_tuple b8 (by lia)
  | lst i2=>obtain⟨a2,gN,q2,f2,_,g2⟩:=hy.lst_inv;subst q2;cases ry;obtain⟨aI,r2,b8⟩:=aN hok f2;exact RcNeAt.none_list b8 (by lia)
  | _=>simp[pl] at fq
 | bl i1=>
  have:=hx.ay;subst this;cases rx;cases e with
  | bb=>have:=hy.ax;subst this;cases ry;exact RcNeAt.bool_none i1
  | bl i2=>have:=hy.ay;subst this;cases ry;exact RcNeAt.bool_bool i1 i2
  | int i2=>have:=hy.int_inv;subst this;obtain⟨t2,rfl⟩:=ry;exact RcNeAt.bool_int i1 i2 t2
  | str i2=>have:=hy.str_inv;subst this;obtain⟨t2,rfl⟩:=ry;exact RcNeAt.bool_str i1 i2 t2
  | tup i2=>obtain⟨a2,gN,q2,f2,g2⟩:=hy.af;subst q2;cases ry;obtain⟨aI,r2,b8⟩:=Mx.au hok f2;exact RcNeAt.bool_tuple i1 b8 (by lia)
  | lst i2=>obtain⟨a2,gN,q2,f2,_,g2⟩:=hy.lst_inv;subst q2;cases ry;obtain⟨aI,r2,b8⟩:=aN hok f2;exact RcNeAt.bool_list i1 b8 (by lia)
  | _=>simp[pl] at fq
 | int i1=>
  have:=hx.int_inv;subst this;obtain⟨t1,rfl⟩:=rx;cases e with
  | bb=>have:=hy.ax;subst this;cases ry;exact RcNeAt.int_none i1 t1
  | bl i2=>have:=hy.ay;subst this;cases ry;exact RcNeAt.int_bool i1 t1 i2
  | int i2=>have:=hy.int_inv;subst this;obtain⟨t2,rfl⟩:=ry;exact RcNeAt.int_int i1 t1 i2 t2
  | str i2=>have:=hy.str_inv;subst this;obtain⟨t2,rfl⟩:=ry;exact RcNeAt.int_str i1 t1 i2 t2
  | tup i2=>obtain⟨a2,gN,q2,f2,g2⟩:=hy.af;subst q2;cases ry;obtain⟨aI,r2,b8⟩:=Mx.au hok f2;exact RcNeAt.int_tuple i1 t1 b8 (by lia)
  | lst i2=>obtain⟨a2,gN,q2,f2,_,g2⟩:=hy.lst_inv;subst q2;cases ry;obtain⟨aI,r2,b8⟩:=aN hok f2;exact RcNeAt.int_list i1 t1 b8 (by lia)
  | _=>simp[pl] at fq
 | str i1=>
  have:=hx.str_inv;subst this;obtain⟨t1,rfl⟩:=rx;cases e with
  | bb=>have:=hy.ax;subst this;cases ry;exact RcNeAt.str_none i1 t1
  | bl i2=>have:=hy.ay;subst this;cases ry;exact RcNeAt.str_bool i1 t1 i2
  | int i2=>have:=hy.int_inv;subst this;obtain⟨t2,rfl⟩:=ry;exact RcNeAt.str_int i1 t1 i2 t2
  | str i2=>have:=hy.str_inv;subst this;obtain⟨t2,rfl⟩:=ry;exact RcNeAt.str_str i1 t1 i2 t2
  | tup i2=>obtain⟨a2,gN,q2,f2,g2⟩:=hy.af;subst q2;cases ry;obtain⟨aI,r2,b8⟩:=Mx.au hok f2;exact RcNeAt.str_tuple i1 t1 b8 (by lia)
  | lst i2=>obtain⟨a2,gN,q2,f2,_,g2⟩:=hy.lst_inv;subst q2;cases ry;obtain⟨aI,r2,b8⟩:=aN hok f2;exact RcNeAt.str_list i1 t1 b8 (by lia)
  | _=>simp[pl] at fq
 | tup i1=>
  obtain⟨a1,zF,q1,f1,g1⟩:=hx.af;subst q1;cases rx;obtain⟨f9,r1,g6⟩:=Mx.au hok f1;cases e with
  | bb=>have:=hy.ax;subst this;cases ry;exact RcNeAt.tuple_none g6 (by lia)
  | bl i2=>have:=hy.ay;subst this;cases ry;exact RcNeAt.tuple_bool i2 g6 (by lia)
  | int i2=>have:=hy.int_inv;subst this;obtain⟨t2,rfl⟩:=ry;exact RcNeAt.tuple_int i2 t2 g6 (by lia)
  | str i2=>have:=hy.str_inv;subst this;obtain⟨t2,rfl⟩:=ry;exact RcNeAt.tuple_str i2 t2 g6 (by lia)
  | tup i2=>
   obtain⟨a2,gN,q2,f2,g2⟩:=hy.af;subst q2;cases ry;obtain⟨aI,r2,b8⟩:=Mx.au hok f2;have l1:f9.toArray.size=i1.length:=by rw[Qg,<-r1.length,g1.length]
   have l2:aI.toArray.size=i2.length:=by rw[Qg,<-r2.length,g2.length]
   have key:=RcNeAt.tuples (A:=R) (e:=tT i1 i2) g6 b8 (by lia) (elts hok g1 g2 r1 r2 l1 l2 (by simpa [pl] using gZ) (by simpa [pl] using fq) (n:=n) (by unfold dp at hd;lia) (by show R.units + 1 + n < cLine;lia));have q:=cJ i1 i2;rw[<-l1,<-l2] at q;rw[q] at key;exact key
  | lst i2=>obtain⟨a2,gN,q2,f2,_,g2⟩:=hy.lst_inv;subst q2;cases ry;obtain⟨aI,r2,b8⟩:=aN hok f2;exact RcNeAt.tuple_list g6 b8 (by lia)
  | _=>simp[pl] at fq
 | lst i1=>
  obtain⟨a1,zF,q1,f1,_,g1⟩:=hx.lst_inv;subst q1;cases rx;obtain⟨f9,r1,g6⟩:=aN hok f1;cases e with
  | bb=>have:=hy.ax;subst this;cases ry;exact RcNeAt.list_none g6 (by lia)
  | bl i2=>have:=hy.ay;subst this;cases ry;exact RcNeAt.list_bool i2 g6 (by lia)
  | int i2=>have:=hy.int_inv;subst this;obtain⟨t2,rfl⟩:=ry;exact RcNeAt.list_int i2 t2 g6 (by lia)
  | str i2=>have:=hy.str_inv;subst this;obtain⟨t2,rfl⟩:=ry;exact RcNeAt.list_str i2 t2 g6 (by lia)
  | tup i2=>obtain⟨a2,gN,q2,f2,g2⟩:=hy.af;subst q2;cases ry;obtain⟨aI,r2,b8⟩:=Mx.au hok f2;exact RcNeAt.list_tuple g6 b8 (by lia)
  | lst i2=>
   obtain⟨a2,gN,q2,f2,_,g2⟩:=hy.lst_inv;subst q2;cases ry;obtain⟨aI,r2,b8⟩:=aN hok f2;have l1:f9.toArray.size=i1.length:=by rw[Qg,<-r1.length,g1.length]
   have l2:aI.toArray.size=i2.length:=by rw[Qg,<-r2.length,g2.length]
   have q:=cJ i1 i2;by_cases hl:i1.length=i2.length
   ·have key:=RcNeAt.lists (A:=R) (e:=tT i1 i2) g6 b8 (by lia) (by lia) (elts hok g1 g2 r1 r2 l1 l2 (by simpa [pl] using gZ) (by simpa [pl] using fq) (n:=n) (by unfold dp at hd;lia) (by show R.units + 1 + n < cLine;lia));rw[hl,Nat.min_self,beq_self_eq_true,Bool.and_true] at q;rw[l1,hl,q] at key;exact key
   ·have key:=RcNeAt.lists_lengths (A:=R) g6 b8 (by rw[l1,l2];simpa using hl) (by lia);have hb:(i1.length==i2.length)=false:=by simpa using hl
    rw[hb,Bool.and_false] at q;show RcNeAt R s _ _ (!b9 i1 i2);rw[<-q];exact key
  | _=>simp[pl] at fq
 | _=>simp[pl] at gZ
end
end Rx
end
section
namespace HT
open PySem PyProof.Rows
section
variable {prog:Program} {w:World} {A:Around} {E:Value->Shared->Prop} {s:Shared}
theorem f7 {t sl:Addr} {items:Array Value} {vl vu:Value} {lo hi:Option Int} {Q:Value->Shared->Prop} (ht:IsTup s.heap t items) (hs:s.heap.IsSliceOf sl vl vu .none) (pl:IsPart vl lo) (pu:IsPart vu hi)
  (hw:bW items.size 0 lo=0/\bW items.size items.size hi=items.size) (h:Q (.ref t) s) (gM:items.size<=sizeLine):wpAny (model prog w) A (getItem (.ref t) (.ref sl)) Q E s:=by
 obtain⟨os,Dp,vA,G2⟩:=id hs;have KP:s.TypeIs (.ref sl) "slice":=⟨os,Dp,vA⟩;unfold getItem
 try with_reducible refine wpAny_holding ?_
 first | refine Qb (Qe ?_) | skip
 refine Qb (wpAny_sequenceKey ht.typeIs (by decide) ?_);refine Qb (wpAny_callSpecial?_slot (name:=Str.ofString "__getitem__") ht.typeIs PyProof.Rows.slot_tuple_getitem
  (wpAny_call_entry PyProof.Rows.slot_tuple_getitem ht.typeIs entry_tuple_getitem ?_ (args_tuple_getitem _ _)))
 show wpAny _ _ (Builtin.Tuple.tupleItemsOf (.ref t) >>=_) _ _ s;refine Qb (tupleItemsOf_ ht ?_);refine Qb (wpAny_typeOf KP ?_);rw[if_pos (by decide)];refine Qb (d8 hs pl pu ?_);show wpAny _ _ (if (((bW items.size 0 lo:Nat):Int)==0&&(1:Int)==1&&(bW items.size items.size hi - bW items.size 0 lo)==items.size)=true then _ else _) _ _ s;rw[if_pos (by rw[hw.1,hw.2];simp)];refine Qb (Qb (wpAny_typeOf ht.typeIs (Qe ?_)));rw[if_pos (by decide)];refine Qb (wpAny_rule ?_);exact Qe ⟨_,rfl,Qe h⟩
end
end HT
namespace Rx
open PySem PySem.W PySem.Spec PyProof.Rows L2 PySem.SeqAt
noncomputable abbrev N0:Addr->Prop:=λ_=>False
noncomputable def fh (K:Frag) (A:Addr->Prop) (H:Hp) (v:V):Dt->Prop
 | .lst ds=>∃a xs,v= .ref a/\H a=some (.lst xs)/\ao K A H xs ds
 | d=>RV K A H v d
noncomputable def l0 (K:Frag) (A:Addr->Prop) (H:Hp):List V->List Dt->Prop
 | [],[]=>True
 | x::xs,d::ds=>fh K A H x d/\l0 K A H xs ds
 | _,_=>False
section
variable {K:Frag} {A B:Addr->Prop} {H H':Hp}
theorem RV.one {v d} (h:RV K A H v d):fh K A H v d:=by
 cases d with
 | lst ds=>obtain⟨a,xs,h1,h2,_,h3⟩:=h.lst_inv;exact⟨a,xs,h1,h2,h3⟩
 | _=>exact h
theorem fh.ext {X:Addr->Prop} {v d} (h:fh K A H v d) (e:aU X H H') (hX:∀b,X b->A b) (hv:∀ds a,d= .lst ds->v= .ref a->¬X a):fh K A H' v d:=by
 cases d with
 | lst ds=>obtain⟨a,xs,h1,h2,h3⟩:=h;exact⟨a,xs,h1,e.kp _ _ h2 (hv ds a rfl h1),h3.mono e hX λ_ z=>z⟩
 | _=>exact RV.mono e hX (λ_ z=>z) h
theorem ao.ones:∀{vs ds},ao K A H vs ds->l0 K A H vs ds
 | [],[],_=>trivial
 | [],_::_,h=>by unfold ao at h;exact h.elim
 | _::_,[],h=>by unfold ao at h;exact h.elim
 | _::_,_::_,h=>by unfold ao at h;exact⟨h.1.one,h.2.ones⟩
end
structure PR (K:Frag) (fr:Bool) (xs:List V) (ds:List Dt) (H:Hp) (d:Dt) (v:V) (H':Hp):Prop where
 same:bp H H'
 val:∀A:Addr->Prop,(∀a,A a->∃o,H a=some o)->l0 K A H xs ds->RV K A H' v d
 ec:fr=true->∀es,d= .lst es->∃a ys,v= .ref a/\H a=none/\H' a=some (.lst ys)/\∀A:Addr->Prop,(∀a,A a->∃o,H a=some o)->l0 K A H xs ds->ao K (λb=>A b\/b=a) H' ys es
noncomputable def rP (K:Frag) (fr:Bool) (f:List Dt->R Dt):List V->Hp->VK->Prop:=λxs H Q=>∃ds d,ao K N0 H xs ds/\f ds= .ok d/\∀v H',PR K fr xs ds H d v H'->Q v H'
section
variable {K:Frag} {fr:Bool} {xs:List V} {ds:List Dt} {H H':Hp} {d:Dt} {v:V}
noncomputable def nK:Dt->Bool
 | .bb | .bl _ | .int _ | .str _=>true
 | _=>false
noncomputable def p9:Dt->V
 | .bl b=> .bl b
 | .int b=> .int b
 | .str b=> .str b
 | _=> .bb
theorem pz {A:Addr->Prop} (h:nK d=true):RV K A H (p9 d) d:=by
 cases d with
 | bb=>exact RV.gC
 | bl b=>exact RV.km
 | int b=>exact RV.dH
 | str b=>exact RV.iZ
 | _=>simp[nK] at h
theorem PR.sc (h:nK d=true):PR K fr xs ds H d (p9 d) H:=⟨bp.refl _,λA _ _=>pz h,λ_ es e=>by subst e;simp[nK] at h⟩
theorem PR.qQ {p:Addr} {ys:List V} {es:List Dt} (hp:H p=none) (h:∀A:Addr->Prop,l0 K A H xs ds->ao K A H ys es):PR K fr xs ds H (.lst es) (.ref p) (upd H p (.lst ys)):=by
 have s:=Mx.bX hp (.lst ys);refine⟨s,λA hA q=>RV.dm aE (λz=>?_) ((h A q).same s),λ_ gj e=>?_⟩
 ·obtain⟨o,e⟩:=hA p z;rw[hp] at e;cases e
 ·cases e;exact⟨p,ys,rfl,hp,aE,λA hA q=>((h A q).avoid hp).same s⟩
theorem PR.DX {p:Addr} {ys:List V} {es:List Dt} (hp:H p=none) (h:∀A:Addr->Prop,l0 K A H xs ds->ao K A H ys es):PR K fr xs ds H (.tup es) (.ref p) (upd H p (.tup ys)):=by have s:=Mx.bX hp (.tup ys);exact⟨s,λA hA q=>RV.dI aE ((h A q).same s),λ_ gj e=>by cases e⟩
theorem PR.sX {p:Addr} {ys:List V} {es:List Dt} (hp:H p=some (.tup ys)) (h:∀A:Addr->Prop,l0 K A H xs ds->ao K A H ys es):PR K fr xs ds H (.tup es) (.ref p) H:=
 ⟨bp.refl _,λA hA q=>RV.dI hp (h A q),λ_ gj e=>by cases e⟩
theorem bV:lim<=sizeLine:=by rw[sizeLine_eq];decide
theorem a8 {b:Bool} {α:Type} {r:R α} {a:α} (h:ag b r= .ok a):b=true/\r= .ok a:=by
 cases b with
 | true=>exact⟨rfl,h⟩
 | false=>cases h
theorem fh.aN {A:Addr->Prop} {a:Addr} {xs:List V} {es:List Dt} (h:fh K A H (.ref a) (.lst es)) (e:H a=some (.lst xs)):ao K A H xs es:=by obtain⟨b,ys,q,h1,h2⟩:=h;cases q;rw[e] at h1;cases h1;exact h2
theorem fh.au {A:Addr->Prop} {a:Addr} {xs:List V} {es:List Dt} (h:fh K A H (.ref a) (.tup es)) (e:H a=some (.tup xs)):ao K A H xs es:=by obtain⟨b,ys,q,h1,h2⟩:=RV.af h;cases q;rw[e] at h1;cases h1;exact h2
end
section
variable {X:Cx}
noncomputable def r2 (K:Frag) (f:Dt->Dt->R Dt):R2:=λx y H Q=>∃d e z,RV K N0 H x d/\RV K N0 H y e/\f d e= .ok z/\∀v H',PR K true [x,y] [d,e] H z v H'->Q v H'
theorem lR {i:Int} (h:i.natAbs < 2 ^ 64): -(2 ^ 64) < i/\i < 2 ^ 64:=by lia
theorem D7:jx X (binaryOp .FloorDiv) (rI (λ_ j=>0 < j/\j.natAbs.log2 < 9000) λi j=> .int (i / j)):=HF λi j _ _ _ _ _ hc q=>by have h1:(0:Int) < j:=hc.1;exact floordiv_int (by lia) (by rw[Int.fdiv_eq_ediv_of_nonneg i (by lia)];exact q) (.inl (PyProof.noPylong_of_log2 hc.2))
theorem D6 (o:Operator):jx X (binaryOp o) (r2 X.K (p8 o)):=by
 intro pins s σ H x y v u Q I rx ry h;obtain⟨d,e,z,hx,hy,he,q⟩:=h;have G8:=bV;unfold p8 at he;split at he
 ·split at he
  ·rename_i i j;cases he;exact D5 pins s σ H x y v u Q I rx ry ⟨i,j,hx.int_inv,hy.int_inv,q _ _ (PR.sc (d:= .int _) rfl)⟩
  ·rename_i i j;obtain⟨g,he⟩:=a8 he;cases he;exact qU pins s σ H x y v u Q I rx ry ⟨i,j,hx.str_inv,hy.str_inv,Qr (Qh g) G8,q _ _ (PR.sc (d:= .str _) rfl)⟩
  ·rename_i i j;obtain⟨g,he⟩:=a8 he;cases he;obtain⟨a,xs,rfl,h1,_,h2⟩:=hx.lst_inv;obtain⟨b,ys,rfl,k1,_,k2⟩:=hy.lst_inv;refine eG pins s σ H _ _ v u Q I rx ry ⟨a,b,xs,ys,rfl,rfl,h1,k1,?_,λp hp=>q _ _ (PR.qQ hp λA w=>?_)⟩
   ·rw[h2.length,k2.length];exact Qr (Qh g) G8
   ·exact(fh.aN w.1 h1).append (fh.aN w.2.1 k1)
  ·rename_i i j;obtain⟨g,he⟩:=a8 he;cases he;obtain⟨a,xs,rfl,h1,h2⟩:=hx.af;obtain⟨b,ys,rfl,k1,k2⟩:=hy.af;by_cases hd:xs=[]
   ·subst hd;cases h2.dZ;cases rx;cases ry;obtain⟨its,r1,p1,_⟩:=I.tuple (eh.of h1);obtain⟨aI,r2,p2,_⟩:=I.tuple (eh.of k1);cases r1;obtain⟨⟨cls,dd,data,sl⟩,ho,hc,n,Au⟩:=p1;obtain⟨⟨Gn,zm,data2,vF⟩,sJ,oH,n2,qC⟩:=p2;simp only at hc Au oH qC;subst hc Au oH qC;exact concat_meets ⟨_,ho,rfl⟩ ⟨_,sJ,rfl⟩ noFill_tuple_add seq_tuple_add PySem.F.slot_tuple_add PySem.F.entry_tuple_add (PySem.F.args_tuple_add_2 _ _)
     (Mx.tuple_addW0 a b _ _ n n2 dd zm sl vF rfl) ⟨ho,sJ,⟨.ref b,H,I,rfl,q _ _ (PR.sX k1 λA w=>fh.au w.2.1 k1)⟩⟩
   ·refine A6 pins s σ H (.ref a) (.ref b) v u Q I rx ry ⟨a,b,xs,ys,rfl,rfl,eh.of h1,eh.of k1,hd,?_,λe=>?_,λe p hp=>?_⟩
    ·rw[h2.length,k2.length];exact Qr (Qh g) G8
    ·subst e;cases k2.dZ;rw[QU] at q;exact q _ _ (PR.sX h1 λA w=>fh.au w.1 h1)
    ·exact q _ _ (PR.DX hp λA w=>(fh.au w.1 h1).append (fh.au w.2.1 k1))
  ·cases he
 ·split at he
  ·rename_i i j;cases he;exact Ec pins s σ H x y v u Q I rx ry ⟨i,j,hx.int_inv,hy.int_inv,q _ _ (PR.sc (d:= .int _) rfl)⟩
  ·cases he
 ·split at he
  ·rename_i i j;obtain⟨g,he⟩:=a8 he;cases he;refine Ea pins s σ H x y v u Q I rx ry ⟨i,j,hx.int_inv,hy.int_inv,?_,q _ _ (PR.sc (d:= .int _) rfl)⟩;rw[QV] at g;rcases g with g | g
   ·exact .inl (lR (Qh g))
   ·exact .inr (lR (Qh g))
  ·cases he
 ·split at he
  ·rename_i i j;obtain⟨g,he⟩:=a8 he;cases he;rw[Qf] at g;exact D7 pins s σ H x y v u Q I rx ry ⟨i,j,hx.int_inv,hy.int_inv,⟨Qh g.1,Qh g.2⟩,q _ _ (PR.sc (d:= .int _) rfl)⟩
  ·cases he
 ·split at he
  ·rename_i i j;obtain⟨g,he⟩:=a8 he;cases he;exact D9 pins s σ H x y v u Q I rx ry ⟨i,j,hx.int_inv,hy.int_inv,Qh g,q _ _ (PR.sc (d:= .int _) rfl)⟩
  ·cases he
 ·split at he
  ·rename_i i j;obtain⟨g,he⟩:=a8 he;cases he;rw[Qf,Qf] at g;have g1:=Qh g.1.1;have g2:=Qh g.1.2;have g3:=Qh g.2;exact Eb pins s σ H x y v u Q I rx ry ⟨i,j,hx.int_inv,hy.int_inv,⟨g1,by lia,g3⟩,q _ _ (PR.sc (d:= .int _) rfl)⟩
  ·cases he
 ·cases he
noncomputable def rC (K:Frag) (o:CmpOp):R2:=λx y H Q=>∃d e z,RV K N0 H x d/\RV K N0 H y e/\de o d e= .ok z/\Q (.bl z) H
theorem qV (o:CmpOp) (hu:X.A.units + 150 < cLine):jx X (compareOp o) (rC X.K o):=by
 intro pins s σ H x y v u Q I rx ry h;obtain⟨d,e,z,hx,hy,he,q⟩:=h;unfold de at he;split at he
 ·obtain⟨g,he⟩:=a8 he;cases he;unfold k7 at g;rw[Qf,Qf] at g;exact Ib I.hok 100 d e x y v u X.A (Nat.le_succ_of_le (Qh g.2)) g.1.1 g.1.2 (by lia) hx hy rx ry X.prog X.w X.xe (EP X pins σ Q) ⟨.bl _,H,I,rfl,q⟩
 ·obtain⟨g,he⟩:=a8 he;cases he;unfold k7 at g;rw[Qf,Qf] at g;exact Bq I.hok 100 d e x y v u X.A (Nat.le_succ_of_le (Qh g.2)) g.1.1 g.1.2 (by lia) hx hy rx ry X.prog X.w X.xe (EP X pins σ Q) ⟨.bl _,H,I,rfl,q⟩
 ·rename_i i j;cases he;exact HL pins s σ H x y v u Q I rx ry ⟨i,j,hx.int_inv,hy.int_inv,q⟩
 ·rename_i i j;cases he;exact HK pins s σ H x y v u Q I rx ry ⟨i,j,hx.int_inv,hy.int_inv,q⟩
 ·rename_i i j;cases he;exact HJ pins s σ H x y v u Q I rx ry ⟨i,j,hx.int_inv,hy.int_inv,q⟩
 ·rename_i i j;cases he;exact HH pins s σ H x y v u Q I rx ry ⟨i,j,hx.int_inv,hy.int_inv,q⟩
 ·cases he;refine D8 pins s σ H x y v u Q I rx ry ⟨hy.ax,?_⟩;cases d with
  | bb=>rw[hx.ax];exact q
  | bl b=>rw[hx.ay];exact q
  | int b=>rw[hx.int_inv];exact q
  | str b=>rw[hx.str_inv];exact q
  | tup b=>obtain⟨a,xs,rfl,_⟩:=hx.af;exact q
  | lst b=>obtain⟨a,xs,rfl,_⟩:=hx.lst_inv;exact q
  | bc b=>obtain⟨a,rfl,_⟩:=hx.dD;exact q
  | fL=>exact hx.fM.elim
  | obj=>obtain⟨a,xs,rfl,_⟩:=hx.eE;exact q
  | exc=>exact hx.fP.elim
 ·cases he;refine A7 pins s σ H x y v u Q I rx ry ⟨hy.ax,?_⟩;cases d with
  | bb=>rw[hx.ax];exact q
  | bl b=>rw[hx.ay];exact q
  | int b=>rw[hx.int_inv];exact q
  | str b=>rw[hx.str_inv];exact q
  | tup b=>obtain⟨a,xs,rfl,_⟩:=hx.af;exact q
  | lst b=>obtain⟨a,xs,rfl,_⟩:=hx.lst_inv;exact q
  | bc b=>obtain⟨a,rfl,_⟩:=hx.dD;exact q
  | fL=>exact hx.fM.elim
  | obj=>obtain⟨a,xs,rfl,_⟩:=hx.eE;exact q
  | exc=>exact hx.fP.elim
 ·cases he
theorem qf {ds:List Dt} {i:Int} {d:Dt} (h:uv ds i= .ok d):jU ds i=some d:=by
 unfold uv at h;split at h
 ·cases h;assumption
 ·cases h
theorem jy {K:Frag} {A:Addr->Prop} {H:Hp} {xs:List V} {ds:List Dt} {i:Int} {d:Dt} (g:ao K A H xs ds) (h:jU ds i=some d):∃v,jU xs i=some v/\RV K A H v d:=by
 unfold jU at h ⊢;rw[g.length];cases e:mO ds.length i with
 | none=>rw[e] at h;cases h
 | some j=>rw[e] at h;obtain⟨v,h1,h2⟩:=g.getD (i:=j) h;exact⟨v,h1,h2⟩
noncomputable def rX (K:Frag):R2:=λx y H Q=>∃d e z,RV K N0 H x d/\RV K N0 H y e/\cc d e= .ok z/\∀v,PR K false [x,y] [d,e] H z v H->Q v H
theorem Dz:FZ X (rX X.K):=by
 intro value slice pins s σ H x y v u Q I rx ry h hs;obtain⟨d,e,z,hx,hy,he,q⟩:=h;unfold cc at he;split at he
 ·rename_i ds i;obtain⟨a,xs,rfl,h1,_,h2⟩:=hx.lst_inv;have mH:=qf he;obtain⟨w,k1,k2⟩:=jy h2 mH;refine sU value slice pins s σ H _ y v u Q I rx ry ⟨a,xs,i,w,rfl,hy.int_inv,dE.of h1,k1,q w ⟨bp.refl _,λA _ q'=>?_,λz=>by cases z⟩⟩ hs;obtain⟨w',m1,m2⟩:=jy (fh.aN q'.1 h1) mH;rw[k1] at m1;cases m1;exact m2
 ·rename_i ds i;obtain⟨a,xs,rfl,h1,h2⟩:=hx.af;have mH:=qf he;obtain⟨w,k1,k2⟩:=jy h2 mH;refine DB value slice pins s σ H _ y v u Q I rx ry ⟨a,xs,i,w,rfl,hy.int_inv,eh.of h1,k1,q w ⟨bp.refl _,λA _ q'=>?_,λz=>by cases z⟩⟩ hs;obtain⟨w',m1,m2⟩:=jy (fh.au q'.1 h1) mH;rw[k1] at m1;cases m1;exact m2
 ·rename_i ns i;obtain⟨a,rfl,h1⟩:=hx.i7;have mH:=qf he;have e1:jU ((ns.map V.int)) i=some (p9 z)/\nK z=true:=by
   unfold jU at mH ⊢;rw[Qp] at mH ⊢;cases e:mO ns.length i with
   | none=>rw[e] at mH;cases mH
   | some j=>
    rw[e] at mH;simp only[Option.bind_some,Qz] at mH ⊢;cases en:ns[j]? with
    | none=>rw[en] at mH;cases mH
    | some k=>rw[en] at mH;simp at mH;subst mH;exact⟨rfl,rfl⟩
  exact sU value slice pins s σ H _ y v u Q I rx ry ⟨a,_,i,_,rfl,hy.int_inv,h1,e1.1,q _ (PR.sc e1.2)⟩ hs
 ·rename_i w i;obtain⟨g,he⟩:=a8 he;split at he
  ·rename_i c hc;cases he;exact DA value slice pins s σ H _ y v u Q I rx ry ⟨w,i,c,hx.str_inv,hy.int_inv,Qr (Qh g) bV,hc,q _ (PR.sc (d:= .str _) rfl)⟩ hs
  ·cases he
 ·cases he
noncomputable def rS (K:Frag):V->Option Int->Option Int->Hp->VK->Prop:=λx lo hi H Q=>∃d z,RV K N0 H x d/\i8 d lo hi= .ok z/\∀v H',PR K true [x] [d] H z v H'->Q v H'
theorem ao.cut {K:Frag} {A:Addr->Prop} {H:Hp} {xs:List V} {ds:List Dt} {lo hi:Option Int} (g:ao K A H xs ds):ao K A H (kZ xs lo hi) (cutD ds lo hi):=by unfold kZ cutD;rw[g.length];exact(g.drop _).take _
theorem qt {xs:List V} {lo hi:Option Int} (h:HT.bW xs.length 0 lo=0/\HT.bW xs.length xs.length hi=xs.length):kZ xs lo hi=xs:=by unfold kZ;rw[h.1,h.2];simp
theorem ni:FA X (λx lo hi H Q=>∃a xs,x= .ref a/\H a=some (.tup xs)/\(HT.bW xs.length 0 lo=0/\HT.bW xs.length xs.length hi=xs.length)/\Q (.ref a) H):=by
 intro pins s σ H x v vl vu lo hi sl Q I rx hs pl pu h;obtain⟨a,xs,rfl,hx,hw,q⟩:=h;cases rx;obtain⟨its,r,ht,hz⟩:=I.tuple (eh.of hx);have hlen:its.toArray.size=xs.length:=by rw[Qg];exact r.length.symm
 refine⟨"tuple",_,PyProof.Rows.slot_tuple_getitem.lookup,ht.typeIs,?_⟩;refine HT.f7 ht hs pl pu (by rw[hlen];exact hw) ⟨.ref a,H,I,rfl,q⟩ (by rw[hlen];exact hz)
theorem g9 {K:Frag} {A:Addr->Prop} {H:Hp}:∀{ns:List Int},ao K A H (ns.map V.int) (ns.map Dt.int)
 | []=>ao.nil
 | _::_=>ao.cons RV.dH g9
theorem yH:FA X (rS X.K):=by
 intro pins s σ H x v vl vu lo hi sl Q I rx hs pl pu h;obtain⟨d,z,hx,he,q⟩:=h;unfold i8 at he;split at he
 ·cases he;obtain⟨a,xs,rfl,h1,_,h2⟩:=hx.lst_inv;exact tY pins s σ H _ v vl vu lo hi sl Q I rx hs pl pu ⟨a,xs,rfl,dE.of h1,λp hp=>q _ _ (PR.qQ hp λA w=>(fh.aN w.1 h1).cut)⟩
 ·cases he;obtain⟨a,rfl,h1⟩:=hx.i7;exact tY pins s σ H _ v vl vu lo hi sl Q I rx hs pl pu ⟨a,_,rfl,h1,λp hp=>q _ _ (PR.qQ hp λA w=>ao.cut g9)⟩
 ·cases he;obtain⟨a,xs,rfl,h1,h2⟩:=hx.af;by_cases hw:HT.bW xs.length 0 lo=0/\HT.bW xs.length xs.length hi=xs.length
  ·refine ni pins s σ H _ v vl vu lo hi sl Q I rx hs pl pu ⟨a,xs,rfl,h1,hw,q _ _ (PR.sX h1 λA w=>?_)⟩;have:=(fh.au w.1 h1).cut (lo:=lo) (hi:=hi);rw[qt hw] at this;exact this
  ·exact EV pins s σ H _ v vl vu lo hi sl Q I rx hs pl pu ⟨a,xs,rfl,eh.of h1,hw,λp hp=>q _ _ (PR.DX hp λA w=>(fh.au w.1 h1).cut)⟩
 ·obtain⟨g,he⟩:=a8 he;cases he;exact Mx.EU pins s σ H _ v vl vu lo hi sl Q I rx hs pl pu ⟨_,hx.str_inv,Qr (Qh g) bV,q _ _ (PR.sc (d:= .str _) rfl)⟩
 ·cases he
theorem oP {K:Frag} {A:Addr->Prop} {H:Hp}:∀{xs:List V} {ds:List Dt} {ns:List Int},ao K A H xs ds->intsOf ds=some ns->xs=ns.map V.int
 | xs,[],ns,g,h=>by simp[intsOf] at h;subst h;exact g.nil_inv
 | xs,d::ds,ns,g,h=>by
  obtain⟨x,r,rfl,g1,g2⟩:=g.cons_inv;cases d with
  | int i=>simp only[intsOf,Qv] at h;obtain⟨ms,h1,rfl⟩:=h;rw[oP g2 h1,g1.int_inv];rfl
  | _=>simp[intsOf] at h
theorem gq:∀{l l':List Mx.D},l.Perm l'->(l.Pairwise λa b=>Mx.D.lt b a=false)->(l'.Pairwise λa b=>Mx.D.lt b a=false)->l=l'
 | [],l',p,_,_=>(List.nil_perm.mp p).symm
 | a::t,l',p,h1,h2=>by
  cases l' with
  | nil=>exact absurd p.length_eq (by simp)
  | cons b t'=>
   rw[List.pairwise_cons] at h1 h2;have eS:a=b:=by
    have ha:a∈b::t':=p.mem_iff.mp Qm;have hb:b∈a::t:=p.mem_iff.mpr Qm;rcases Qs.mp ha with e | ha
    ·exact e
    rcases Qs.mp hb with e | hb
    ·exact e.symm
    exact Mx.D.dY a b (h2.1 a ha) (h1.1 b hb)
   subst eS;rw[gq (List.perm_cons a |>.mp p) h1.2 h2.2]
theorem kJ (ms:List Mx.D):(aR ms).Perm ms/\(aR ms).Pairwise λa b=>Mx.D.lt b a=false:=by
 unfold aR;refine⟨List.mergeSort_perm ms jG,?_⟩;have h:=List.pairwise_mergeSort (le:=jG) (λa b c h1 h2=>by
  unfold jG at *;simp only[Bool.not_eq_true'] at *;cases h3:Mx.D.lt c a with
  | false=>rfl
  | true=>
   rcases Mx.Gq.negTrans c b a h3 with h | h
   ·have h:Mx.D.lt c b=true:=h;rw[h2] at h;cases h
   ·have h:Mx.D.lt b a=true:=h;rw[h1] at h;cases h) (λa b=>by
  unfold jG;cases h:Mx.D.lt b a with
  | false=>rfl
  | true=>
   cases h':Mx.D.lt a b with
   | false=>rfl
   | true=>have:=Mx.D.lt_trans a b a h' h;rw[Mx.D.lt_irrefl] at this;cases this) ms
 exact h.imp λq=>by unfold jG at q;simpa using q
theorem yJ {ms es:List Mx.D} (h:Mx.jR ms es):es=aR ms:=gq (h.1.trans (kJ ms).1.symm) h.2 (kJ ms).2
mutual
theorem tf:∀{d e:Mx.D},jH d e=true->Mx.D.ff d e
 | .int _,.int _,_=>by unfold Mx.D.ff;trivial
 | .str _,.str _,_=>by unfold Mx.D.ff;trivial
 | .tup a,.tup b,h=>by unfold Mx.D.ff;exact lN (by simpa [jH] using h)
 | .int _,.str _,h=>by simp[jH] at h
 | .int _,.tup _,h=>by simp[jH] at h
 | .str _,.int _,h=>by simp[jH] at h
 | .str _,.tup _,h=>by simp[jH] at h
 | .tup _,.int _,h=>by simp[jH] at h
 | .tup _,.str _,h=>by simp[jH] at h
theorem lN:∀{d e:List Mx.D},ib d e=true->Mx.D.gk d e
 | [],_,_=>by unfold Mx.D.gk;trivial
 | _::_,[],_=>by unfold Mx.D.gk;trivial
 | x::xs,y::ys,h=>by simp only[ib,Qf] at h;unfold Mx.D.gk;exact⟨tf h.1,lN h.2⟩
end
theorem DC {k:Mx.SK} {d:Mx.D} (h:Hl k d=true):k.ok d:=by
 unfold Hl at h;split at h
 ·have e:=QD h;subst e;exact⟨_,_,rfl⟩
 ·have e:=QD h;subst e;exact⟨_,_,rfl⟩
 ·have e:=QD h;subst e;exact⟨_,_,rfl⟩
 ·have e:=QD h;subst e;exact⟨_,rfl⟩
 ·have e:=QD h;subst e;exact⟨_,rfl⟩
 ·cases h
theorem z9 {ms:List Mx.D} (h:iQ ms=true):Mx.jP ms:=by
 unfold iQ at h;rw[Qf,QV] at h;obtain⟨h1,h2⟩:=h;refine⟨Qh h1,λh3=>?_⟩;rcases h2 with h2 | h2
 ·have:=Qh h2
  lia
 ·rw[Qf,Qf] at h2;obtain⟨⟨h4,h5⟩,h6⟩:=h2;refine⟨Qh h4,?_,λd hd e he=>tf (QQ.mp (QQ.mp h6 d hd) e he)⟩;obtain⟨k,_,hk⟩:=QR.mp h5;exact⟨k,λd hd=>DC (QQ.mp hk d hd)⟩
end
end Rx
end
section
namespace Mx
open PySem PySem.Spec PyProof.Rows L2 PySem.SeqAt
theorem A0:typeLookup (.type "tuple") "keys"=pure none:=by rw[typeLookup_type,builtinLookup_eq_fast];kernel_rfl
section
variable {prog:Program} {w:World} {A:Around} {E:Value->Shared->Prop} {s:Shared}
theorem uT {a:Addr} {its:Array Value} {Q:Option Value->Shared->Prop} (ht:jS s.heap a its) (hA:A.handled=none)
  (h:∀h' tk,(∀b o,s.heap.get? b=some o->h'.get? b=some o)->Q none {s with heap:=h',toks:=tk}):wpAny (model prog w) A (getAttr? (.ref a) "keys") Q E s:=by
 obtain⟨⟨c,Jp,dat,sl⟩,hx,hc,k,G0,hd,_⟩:=ht;simp only at hc G0 hd;subst hc G0 hd;obtain⟨hp,g,d,tk,os⟩:=s;have hT:∀t,(⟨hp,g,d,t,os⟩:Shared).TypeIs (.ref a) "tuple":=λ_=>⟨_,hx,rfl⟩
 have f1:=sub_AttributeError;have f3:=PySem.F.slot_tuple_getattribute.lookup;have f4:=PySem.F.slot_tuple_getattribute.bind (.ref a);have f5:=am_tuple_getattr_none;unfold getAttr? getAttrBy? getAttrBy
 repeat (any_goals (first | assumption | exact hT _ | ((with_reducible show wpAny _ _ (call (Value.builtin "tuple.__getattribute__") _ _) _ _ _);refine call_meets PySem.F.slot_tuple_getattribute (hT _) am_entry_tuple_getattribute (PySem.F.args_tuple_getattribute_2 _ _) (meets_getattribute_miss_tuple a its k sl "keys" _ A0 (by decide) (by size_fits)) ⟨hx,hA,λh' t e nI=>?_⟩) | wp_step))
 obtain⟨t',u',he⟩:=nI.there;show wpAny _ _ (getattributeRaised _ _ _ _ _ _ _) _ _ _;unfold getattributeRaised
 repeat (any_goals (first | assumption | wp_step))
 exact h _ _ nI.keeps
theorem kT:entryFor table "dict.update.loop"=some Builtin.«dict.update.loop»:=entryFor_of_fast (by kernel_rfl)
theorem eN:plainId "dict.update.loop"=true:=by decide +kernel
noncomputable def PU (h:Heap) (d it:Addr) (u:Value) (p:Str×Value):Prop:=∃q t,u= .ref q/\q≠d/\q≠it/\h.IsTuple q #[.str p.1 t,p.2]
theorem Mv {d it t:Addr} {R:Result->Shared->Prop} (As:d≠it) (O3:t≠it) (O0:t≠d) (hh:A.in1.handled=none):∀(rest:List Value) (ps:List (Str×Value)) (done:List Value) (acc:List (Key×Value)) (i:Int) (s:Shared),
  s.heap.IsTupleIter it t done.length->s.heap.IsTuple t (done++rest).toArray->s.heap.DictOf (cw prog w) d acc->Paired (PU s.heap d it) rest ps->
  ((acc++ps.map λp=>((.inr p.1:Key),p.2)).map (·.1)).Nodup->acc.length + ps.length<=sizeLine->
  (∀h' tk,(∀b o,b≠d->b≠it->s.heap.get? b=some o->h'.get? b=some o)->h'.DictOf (cw prog w) d (acc++ps.map λp=>((.inr p.1:Key),p.2))->R (.ok (.ret .none)) {s with heap:=h',toks:=tk})->
  codeAny (model prog w) A (.builtin "dict.update.loop" ⟨[.ref d,.ref it,.int i 0,.none],[]⟩) R s:=by
 intro rest
 induction rest with
 | nil=>intro ps done acc i s h1 h2 h3 h4 h5 h6 h;cases h4;refine codeAny_builtin kT ?_;rw[Around.under_plainId eN _];show wpAny _ A.in1 (pyNext (.ref it) >>=_) _ _ s;refine Qb (wpAny_pyNext_tuple_end hh h1 h2 (by simp) λh' eb=>?_);show wpAny _ A.in1 (Builtin.Dict.addKeywords d [] >>=_) _ _ _;refine Qb (Qe (Qe ?_));exact h h' s.toks (λb o _ hb e=>eb b o hb e) (by simpa using h3.extBut eb As)
 | cons u rest ih=>
  intro ps done acc i s h1 h2 h3 h4 h5 h6 h;cases h4 with
  | @cons _ p _ ps hp hr=>
   obtain⟨q,tq,rfl,P2,OU,hq⟩:=hp;refine codeAny_builtin kT ?_;rw[Around.under_plainId eN _];show wpAny _ A.in1 (pyNext (.ref it) >>=_) _ _ s;refine Qb (wpAny_pyNext_tuple_item h1 h2 (x:= .ref q) (by simp) λh' g1 g2=>?_);have JA:h'.IsTuple q #[.str p.1 tq,p.2]:=hq.extBut g2.extBut OU;have oM:h'.DictOf (cw prog w) d acc:=h3.sameBut g2 As;dsimp only;refine Qb (wpAny_holding (Qb (wpAny_tryCatch ?_)));unfold Builtin.Dict.pairItems;refine Qb (wpAny_typeOf (show Shared.TypeIs {s with heap:=h'} (.ref q) "tuple" from JA.typeIs) ?_);rw[if_pos (by decide)];obtain⟨oq,e1,_,nq,e2⟩:=JA;refine Qb (wpAny_seqItems e1 e2 (Qe ?_));show wpAny _ _ (holding [.str p.1 tq,p.2] (dictSet d (.str p.1 tq) p.2)) _ _ _;have hn:acc.any (λkv=>decide (kv.1= .inr p.1))=false:=by rw[Bool.eq_false_iff];intro z;obtain⟨kv,m,e⟩:=QR.mp z;rw[QZ,QY,QY,List.nodup_append] at h5;exact h5.2.2 _ (QP.mpr ⟨kv,m,rfl⟩) _ Qm (Qh e)
   refine wpAny_holding (wpAny_dictSet_pairs (knd:=cw prog w) (k:= .inr p.1) (jf _ _ _ _) oM (λjB k1 k2=>?_) (by lia));have keep:∀b o,b≠d->b≠it->s.heap.get? b=some o->jB.get? b=some o:=λb o hb hi e=>(k2.2 b hb).trans ((g2.2 b hi).trans e)
   have ea:stored acc (.inr p.1) p.2=acc++[(.inr p.1,p.2)]:=by unfold stored;rw[if_neg (by rw[hn];exact Bool.false_ne_true)]
   rw[ea] at k1;refine Qe ⟨plainId_quiet eN _,ih ps (done++[.ref q]) (acc++[(.inr p.1,p.2)]) (i + 1) _ ?_ ?_ k1 ?_ ?_ ?_ λsH tk kp kd=>?_⟩
   ·obtain⟨o,a1,a2⟩:=g1;rw[Qw];exact⟨o,(k2.2 it (Ne.symm As)).trans a1,a2⟩
   ·obtain⟨o,a1,a2⟩:=h2;rw[Qu];exact⟨o,keep _ _ O0 O3 a1,a2⟩
   ·refine Paired.imp' (λv z ⟨qz,tz,a1,a2,a3,o,a4,a5⟩=>⟨qz,tz,a1,a2,a3,o,keep _ _ a2 a3 a4,a5⟩) hr
   ·simpa [Qu] using h5
   ·simp only[Qw,Qy,List.length_nil] at h6 ⊢;lia
   ·refine h sH tk (λb o hb hi e=>kp b o hb hi (keep b o hb hi e)) (by simpa [Qu] using kd)
end
section
variable {X:Cx}
noncomputable def LP:List V->Hp->VK->Prop:=λvs H Q=>∃a xs ps,vs=[.ref a]/\H a=some (.tup xs)/\Paired (λ(x:V) (p:Str×V)=>∃q,x= .ref q/\H q=some (.tup [.str p.1,p.2])) xs ps/\(ps.map (·.1)).Nodup/\
 ∀p,H p=none->Q (.ref p) (upd H p (.dK (ps.map λp=>(.inr p.1,p.2))))
theorem ya {P:Program} {w:World} {H:Hp} {h:Heap} (hok:d9 P w H h):∀{ys:List V} {ps:List (Str×V)} {its:List Value},Paired (λ(x:V) (p:Str×V)=>∃q,x= .ref q/\H q=some (.tup [.str p.1,p.2])) ys ps->aw ys its->
  ∃vc:List (Str×Value),Paired (λ(u:Value) (p:Str×Value)=>∃q t,u= .ref q/\h.IsTuple q #[.str p.1 t,p.2]) its vc/\KV (ps.map λp=>((.inr p.1:Key),p.2)) (vc.map λp=>((.inr p.1:Key),p.2)):=by
 intro ys ps its hp
 induction hp generalizing its with
 | nil=>intro r;cases r;exact⟨[],.nil,.nil⟩
 | @cons x p _ _ h1 _ ih=>
  intro r;cases r with
  | cons ru rt=>obtain⟨q,rfl,hq⟩:=h1;cases ru;obtain⟨_,vs,rv,tn⟩:=(show bw P w H h q (.tup [.str p.1,p.2]) from hok q _ hq);obtain⟨u1,u2,rfl,⟨t,rfl⟩,r2⟩:=rv.two;obtain⟨vc,g1,g2⟩:=ih rt;exact⟨(p.1,u2)::vc,.cons ⟨q,t,rfl,tn.is⟩ g1,.cons ⟨rfl,r2⟩ g2⟩
theorem kB:∀{ps:List (Str×V)} {vc:List (Str×Value)},KV (ps.map λp=>((.inr p.1:Key),p.2)) (vc.map λp=>((.inr p.1:Key),p.2))->vc.map (·.1)=ps.map (·.1)
 | [],[],_=>rfl
 | [],_::_,h=>by cases h
 | _::_,[],h=>by cases h
 | p::ps,q::qs,h=>by
  cases h with
  | cons h1 h2=>rw[QY,QY,kB h2,Sum.inr.inj h1.1]
theorem wm (hc:X.calm=true):eQ X (.type "dict") LP:=by
 intro pins s σ H xs us Q I r h;obtain⟨a,ys,ps,rfl,ha,hp,hn,q⟩:=h;obtain⟨u,rfl,ru⟩:=r.one;cases ru;obtain⟨hz,its,r1,tn⟩:=(show bw X.prog X.w H s.heap a (.tup ys) from I.hok a _ ha);have hA:X.A.handled=none:=I.ok.hd hc;refine callType_codes (Q₁:=λobj s₁=>obj= .ref s.heap.objs.size/\s₁={s with heap:=s.heap.push {cls:= .type "dict",data:= .dict #[]}}) PySem.F.kt_called_dict (PySem.F.kt_typeCall_dict_1 _) PySem.F.entry_dict_init (kt_code_dict_new _ ⟨rfl,rfl⟩) ?_;rintro obj s₁ ⟨rfl,rfl⟩;have Dl:(s.heap.push {cls:= .type "dict",data:= .dict #[]}).DictOf (cw X.prog X.w) s.heap.objs.size []:=Heap.DictOf.new s.heap;have hb:(s.heap.objs.size==sysModules)=false:=beq_eq_false_iff_ne.mpr (Ne.symm (QL (Nat.lt_trans (by decide) (I.mod.glob.keeps I.bk).lt)));have Ni:∀b o,s.heap.get? b=some o->(s.heap.push {cls:= .type "dict",data:= .dict #[]}).get? b=some o:=λb o e=>Qd _ e
 have Ms:jS (s.heap.push {cls:= .type "dict",data:= .dict #[]}) a its.toArray:=by obtain⟨o,e,z⟩:=tn;exact⟨o,Ni _ _ e,z⟩
 refine⟨Dl.typeIs,PySem.F.args_dict_init_2 _ _,?_⟩;unfold Builtin.«dict.__init__»;refine Qb ?_;unfold Builtin.Dict.selfAndRest;refine Qb (wpAny_notOrdered_dict Dl.typeIs (Qe ?_));show wpAny _ _ (Builtin.Dict.updateFrom "dict.__init__" s.heap.objs.size (.ref a) [] .none) _ _ _;unfold Builtin.Dict.updateFrom;refine Qb (wpAny_typeOf Ms.is.typeIs ?_);rw[if_pos (by decide)];refine Qb (uT Ms hA λh1 tk1 k1=>?_);rw[if_pos (by rfl)];refine Qb (wpAny_rule ?_);have Py:jS h1 a its.toArray:=by obtain⟨o,e,z⟩:=Ms;exact⟨o,k1 _ _ e,z⟩
 refine Qb (wpAny_pyIter_tuple (show Heap.IsTuple (Shared.heap {s with heap:=h1,toks:=tk1}) a its.toArray from Py.is) ?_);obtain⟨vc,g1,g2⟩:=ya I.hok hp r1;have lt:∀{b o},s.heap.get? b=some o->b < s.heap.objs.size:=λe=>Qq e
 have KS:h1.DictOf (cw X.prog X.w) s.heap.objs.size []:=by obtain⟨o,es,ep,e,z⟩:=Dl;exact⟨o,es,ep,k1 _ _ e,z⟩
 have cH:s.heap.objs.size < h1.objs.size:=by obtain⟨o,es,ep,e,z⟩:=KS;exact Qq e
 have Ls:∀b o,s.heap.get? b=some o->(h1.push {cls:= .type "tuple_iterator",data:= .fields #[.ref a,.int 0 0]}).get? b=some o:=λb o e=>Qd _ (k1 _ _ (Ni _ _ e))
 have FI:a < s.heap.objs.size:=by obtain⟨o,e,_⟩:=tn;exact lt e
 have hl:vc.length=ps.length:=by have:=g2.length;simpa using this.symm
 have fB:ps.length=ys.length:=hp.length.symm;have hk:vc.map (·.1)=ps.map (·.1):=kB g2;refine Qe ⟨plainId_quiet eN _,Mv (A:=X.A.in1) (QL cH) (QL (Nat.lt_trans FI cH)) (QL FI) hA its vc [] [] 0 _ ⟨_,Qn _ rfl,rfl,rfl⟩ ?_ (KS.push _) ?_ ?_ ?_ λh' tk kp kd=>?_⟩
 ·obtain⟨o,e,z⟩:=tn.is;exact⟨o,Ls _ _ e,z⟩
 ·exact Paired.imp' (λv z ⟨q,t,a1,o,a2,a3⟩=>⟨q,t,a1,QL (lt a2),QL (Nat.lt_trans (lt a2) cH),o,Ls _ _ a2,a3⟩) g1
 ·rw[List.nil_append,List.map_map];have:(vc.map ((λx=>x.1) ∘ λp=>((.inr p.1:Key),p.2)))=(vc.map (·.1)).map Sum.inr:=by rw[List.map_map];rfl
  rw[this,hk];exact List.Pairwise.map Sum.inr (λx y n z=>n (Sum.inr.inj z)) hn
 ·simp only[List.length_nil];lia
 ·refine⟨rfl,.ref s.heap.objs.size,upd H s.heap.objs.size (.dK (ps.map λp=>(.inr p.1,p.2))),I.laid (t':=tk) (a:=s.heap.objs.size) (λb o e=>kp b o (QL (lt e)) (QL (Nat.lt_trans (lt e) cH)) (Ls b o e)) (Ql _) ⟨by rw[Qp];lia,hb,_,g2,by simpa using kd⟩,rfl,q _ (I.hok.fresh (Ql _))⟩
noncomputable def BB (y:Str):List (Key×V)->Option V
 | []=>none
 | p::r=>if p.1= .inr y then some p.2 else BB y r
theorem BC {bq:List (Key×V)} {vs:List (Key×Value)} (r:KV bq vs) (y:Str):zK (BB y bq) (valueAt vs (.inr y)):=by
 unfold KV at r
 induction r with
 | nil=>exact trivial
 | @cons p q _ _ h _ ih=>
  unfold BB valueAt;rw[List.find?_cons];by_cases e:p.1= .inr y
  ·rw[if_pos e,QJ (h.1.symm.trans e)];exact h.2
  ·rw[if_neg e,QF λz=>e (h.1.trans z)];exact ih
noncomputable def Ia:V->List V->Hp->VK->Prop:=λx vs H Q=>∃p bq y v,x= .ref p/\vs=[.str y,v]/\H p=some (.dK bq)/\Q ((BB y bq).getD v) H
theorem AX:Jl X "dict.get" Ia:=by
 intro pins s σ H x vs v us Q I rx rv h;obtain⟨p,bq,y,d,rfl,rfl,hp,q⟩:=h;cases rx;obtain⟨u1,u2,rfl,⟨t,rfl⟩,r2⟩:=rv.two;obtain⟨_,sm,vs,r,hm⟩:=(show bw X.prog X.w H s.heap p (.dK bq) from I.hok p _ hp);refine call_meetsIn PySem.F.slot_dict_get hm.typeIs PySem.F.entry_dict_get (PySem.F.args_dict_get_3 _ _ _) (meets_dict_get_default (cw X.prog X.w) p (k:= .inr y) (jf _ _ _ _) sm u2) ⟨_,hm.mapOf,?_⟩;refine⟨(BB y bq).getD d,H,I.tok _,?_,q⟩;have z:=BC r y;cases h1:BB y bq with
 | none=>
  rw[h1] at z;cases h2:valueAt vs (.inr y) with
  | none=>exact r2
  | some _=>rw[h2] at z;exact z.elim
 | some v1=>
  rw[h1] at z;cases h2:valueAt vs (.inr y) with
  | none=>rw[h2] at z;exact z.elim
  | some _=>rw[h2] at z;exact z
theorem D0 {pins:List (Addr×Obj)} {s:Shared} {σ:L2.St} {H:Hp} {p:Addr} {bq:List (Key×V)} (I:Inv X pins σ H s) (h:H p=some (.dK bq)):s.TypeIs (.ref p) "dict"/\∀a,Value.ref p= .ref a->∃ob,s.heap.get? a=some ob/\ob.dict=none:=by obtain⟨_,_,_,_,o,_,_,h1,h2,_⟩:=(show bw X.prog X.w H s.heap p (.dK bq) from I.hok p _ h);exact⟨⟨o,h1,h2.1⟩,λa e=>by cases e;exact⟨o,h1,h2.2.1⟩⟩
noncomputable def Cf:V->List V->Hp->VK->Prop:=λx vs H Q=>∃l b xs zs,x= .ref l/\vs=[.ref b]/\H l=some (.lst xs)/\(H b=some (.lst zs)\/H b=some (.tup zs))/\xs.length + zs.length<=sizeLine/\Q .bb (upd H l (.lst (xs++zs)))
theorem AW:F0 X "list.extend" Cf:=by
 intro pins s σ H x vs v us Q I rx rv h;obtain⟨l,b,xs,zs,rfl,rfl,hH,hB | hB,hz,q⟩:=h
 ·exact uZ pins s σ H _ _ v us Q I rx rv ⟨l,b,xs,zs,rfl,rfl,hH,hB,hz,q⟩
 cases rx;obtain⟨u,rfl,ru⟩:=rv.one;cases ru;obtain⟨z,its,n,r,hl,e⟩:=I.oV hH;obtain⟨z2,aI,r2,⟨c,dd,dt,sl⟩,e2,w1,n2,w2,w3,w4⟩:=(show bw X.prog X.w H s.heap b (.tup zs) from I.hok b _ hB);simp only at w1 w2 w3 w4;subst w1 w2 w3 w4;have k1:=r.length;have k2:=r2.length;have gM:its.toArray.size + aI.toArray.size<=sizeLine:=by rw[Qg,Qg];lia
 refine call_meets F.slot_list_extend ⟨_,e,rfl⟩ F.entry_list_extend (F.args_list_extend_2 _ _)
  (AutoSeq1.list_extend_list_tuple_0 l its.toArray n b aI.toArray n2 (by rw[o6 gM,Bool.and_false];exact Bool.false_ne_true) (by lia) (by lia)) ⟨e,e2,?_⟩
 exact⟨.bb,_,I.xS (its':=its++aI) hH e (by simp) (r.append r2) (by rw[Qw];lia),rfl,q⟩
end
end Mx
end
section
namespace Rx
open PySem PySem.W PySem.Spec PyProof.Rows L2 PySem.SeqAt
section
variable {X:Cx}
noncomputable def FE:BI->Value
 | .len=> .builtin "len" | .min2=> .builtin "min" | .sum=> .builtin "sum"
 | .sorted=> .builtin "sorted" | .tuple=> .type "tuple" | .list=> .type "list" | .dict=> .type "dict" | _=> .none
noncomputable def EB:BI->Bool
 | .isi _=>false | _=>true
theorem bH {K:Frag} {A:Addr->Prop} {H:Hp} {xs:List V} {d:Dt} (h:ao K A H xs [d]):∃x,xs=[x]/\RV K A H x d:=by obtain⟨x,r,rfl,h1,h2⟩:=h.cons_inv;rw[h2.nil_inv];exact⟨x,rfl,h1⟩
theorem nC {K:Frag} {A:Addr->Prop} {H:Hp} {xs:List V} {d e:Dt} (h:ao K A H xs [d,e]):∃x y,xs=[x,y]/\RV K A H x d/\RV K A H y e:=by obtain⟨x,r,rfl,h1,h2⟩:=h.cons_inv;obtain⟨y,rfl,h3⟩:=bH h2;exact⟨x,y,rfl,h1,h3⟩
theorem oo {d:Dt} {p:Str×Dt} (h:wC d=some p):d= .tup [.str p.1,p.2]:=by
 unfold wC at h;split at h
 ·split at h
  ·split at h
   ·cases h;rfl
   ·cases h
  ·cases h
 ·cases h
theorem ot {K:Frag} {A:Addr->Prop} {H:Hp}:∀{ds:List Dt} {ps:List (Str×Dt)} {xs:List V},uD ds=some ps->ao K A H xs ds->∃qs:List (Str×V),Paired (λ(x:V) (p:Str×V)=>∃q,x= .ref q/\H q=some (.tup [.str p.1,p.2])) xs qs/\True
 | [],ps,xs,h,r=>by cases r.nil_inv;exact⟨[],.nil,trivial⟩
 | d::ds,ps,xs,h,r=>by obtain⟨x,xr,rfl,r1,r2⟩:=r.cons_inv;obtain⟨p,h1,h⟩:=Qc.mp h;obtain⟨pr,h2,rfl⟩:=Qv.mp h;obtain⟨qs,g1,_⟩:=ot h2 r2;rw[oo h1] at r1;obtain⟨a,zs,rfl,e1,e2⟩:=r1.af;obtain⟨z1,z2,rfl,w1,w2⟩:=nC e2;have:=w1.str_inv;subst this;exact⟨(p.1,z2)::qs,.cons ⟨a,rfl,e1⟩ g1,trivial⟩
theorem fN {K:Frag} {A:Addr->Prop} {H:Hp}:∀{ds:List Dt} {ps:List (Str×Dt)} {xs:List V} {qs:List (Str×V)},uD ds=some ps->Paired (λ(x:V) (p:Str×V)=>∃q,x= .ref q/\H q=some (.tup [.str p.1,p.2])) xs qs->ao K A H xs ds->qs.map (·.1)=ps.map (·.1)/\ao K A H (qs.map (·.2)) (ps.map (·.2))
 | [],ps,xs,qs,h,g,r=>by cases r.nil_inv;cases g;cases h;exact⟨rfl,ao.nil⟩
 | d::ds,ps,xs,qs,h,g,r=>by
  obtain⟨x,xr,rfl,r1,r2⟩:=r.cons_inv;obtain⟨p,h1,h⟩:=Qc.mp h;obtain⟨pr,h2,rfl⟩:=Qv.mp h;cases g with
  | @cons _ q _ qs g1 g2=>obtain⟨k1,k2⟩:=fN h2 g2 r2;rw[oo h1] at r1;obtain⟨a,zs,rfl,e1,e2⟩:=r1.af;obtain⟨b,eb,e3⟩:=g1;cases eb;rw[e1] at e3;cases e3;obtain⟨z1,z2,ez,w1,w2⟩:=nC e2;cases ez;have:=w1.str_inv;injection this with this;exact⟨by rw[QY,QY,k1,this],ao.cons w2 k2⟩
theorem zS (b:BI) (hr:EB b=true) (hc:X.calm=true) (hu:X.A.units + 150 < cLine):eQ X (FE b) (rP X.K true (ei b)):=by
 intro pins s σ H xs us Q I r h;obtain⟨ds,d,hx,he,q⟩:=h;have G8:=bV;unfold ei at he;split at he
 ·split at he
  ·obtain⟨g,he⟩:=a8 he;cases he;obtain⟨x,rfl,h1⟩:=bH hx;exact gS pins s σ H _ us Q I r ⟨x,_,rfl,by rw[h1.str_inv];exact⟨Qr (Qh g) G8,rfl⟩,q _ _ (PR.sc (d:= .int _) rfl)⟩
  ·cases he;obtain⟨x,rfl,h1⟩:=bH hx;obtain⟨a,ys,rfl,h2,_,h3⟩:=h1.lst_inv;exact gS pins s σ H _ us Q I r ⟨_,_,rfl,.inl ⟨ys,dE.of h2,rfl⟩,by rw[h3.length];exact q _ _ (PR.sc (d:= .int _) rfl)⟩
  ·cases he;obtain⟨x,rfl,h1⟩:=bH hx;obtain⟨a,ys,rfl,h2,h3⟩:=h1.af;exact gS pins s σ H _ us Q I r ⟨_,_,rfl,.inr ⟨ys,eh.of h2,rfl⟩,by rw[h3.length];exact q _ _ (PR.sc (d:= .int _) rfl)⟩
  ·cases he;obtain⟨x,rfl,h1⟩:=bH hx;obtain⟨a,rfl,h2⟩:=h1.i7;exact gS pins s σ H _ us Q I r ⟨_,_,rfl,.inl ⟨_,h2,rfl⟩,by rw[Qp];exact q _ _ (PR.sc (d:= .int _) rfl)⟩
  ·cases he
 ·split at he
  ·cases he;obtain⟨x,y,rfl,h1,h2⟩:=nC hx;exact ux hc pins s σ H _ us Q I r ⟨_,_,by rw[h1.int_inv,h2.int_inv],q _ _ (PR.sc (d:= .int _) rfl)⟩
  ·cases he
 ·split at he
  ·split at he
   ·rename_i ns FN;cases he;obtain⟨x,rfl,h1⟩:=bH hx;obtain⟨a,ys,rfl,h2,_,h3⟩:=h1.lst_inv;rw[oP h3 FN] at h2;exact Mx.wq hc pins s σ H _ us Q I r ⟨a,ns,rfl,dE.of h2,q _ _ (PR.sc (d:= .int _) rfl)⟩
   ·cases he
  ·cases he
 ·split at he
  ·rename_i d0;split at he
   ·rename_i es hes;split at he
    ·rename_i ms B2;obtain⟨g,he⟩:=a8 he;cases he;have cs:=z9 g;obtain⟨x,rfl,h1⟩:=bH hx;have NQ:=mZ B2;have go:∀{a:Addr} {ys:List V},x= .ref a->(dE X.K H a ys\/eh X.K H a ys)->ao X.K N0 H ys es->wpAny (model X.prog X.w) X.A (call (FE .sorted) us) (EP X pins σ Q) X.xe s:=by intro a ys ex hs g;subst ex;rw[NQ] at g;refine Mx.l9 hu pins s σ H _ us Q I r ⟨a,ys,ms,rfl,hs,g.uE,cs,λm zs qs hm hz hso=>q _ _ ?_⟩;have e:=yJ hso;subst e;exact PR.qQ hm λA _=>ao.qS hz
     unfold itemsOf at hes;split at hes
     ·cases hes;obtain⟨a,ys,e1,h2,_,h3⟩:=h1.lst_inv;exact go e1 (.inl (dE.of h2)) h3
     ·cases hes;obtain⟨a,ys,e1,h2,h3⟩:=h1.af;exact go e1 (.inr (eh.of h2)) h3
     ·cases hes;obtain⟨a,e1,h2⟩:=h1.i7;exact go e1 (.inl h2) g9
     ·cases hes
    ·cases he
   ·cases he
  ·cases he
 ·split at he
  ·cases he;obtain⟨x,rfl,h1⟩:=bH hx;obtain⟨a,ys,rfl,h2,_,h3⟩:=h1.lst_inv;exact gg pins s σ H _ us Q I r ⟨a,ys,rfl,.inl ⟨dE.of h2,λl hl=>q _ _ (PR.DX hl λA w=>fh.aN w.1 h2)⟩⟩
  ·cases he;obtain⟨x,rfl,h1⟩:=bH hx;obtain⟨a,ys,rfl,h2,h3⟩:=h1.af;exact gg pins s σ H _ us Q I r ⟨a,ys,rfl,.inr ⟨eh.of h2,q _ _ (PR.sX h2 λA w=>fh.au w.1 h2)⟩⟩
  ·cases he
 ·split at he
  ·cases he;obtain⟨x,rfl,h1⟩:=bH hx;obtain⟨a,ys,rfl,h2,_,h3⟩:=h1.lst_inv;exact ej pins s σ H _ us Q I r ⟨a,ys,rfl,.inl (dE.of h2),λl hl=>q _ _ (PR.qQ hl λA w=>fh.aN w.1 h2)⟩
  ·cases he;obtain⟨x,rfl,h1⟩:=bH hx;obtain⟨a,ys,rfl,h2,h3⟩:=h1.af;exact ej pins s σ H _ us Q I r ⟨a,ys,rfl,.inr (eh.of h2),λl hl=>q _ _ (PR.qQ hl λA w=>fh.au w.1 h2)⟩
  ·cases he;obtain⟨x,rfl,h1⟩:=bH hx;obtain⟨a,rfl,h2⟩:=h1.i7;exact ej pins s σ H _ us Q I r ⟨a,_,rfl,.inl h2,λl hl=>q _ _ (PR.qQ hl λA w=>g9)⟩
  ·cases he
 ·cases hr
 ·split at he
  ·split at he
   ·rename_i ds ps Az;obtain⟨g,he⟩:=a8 he;cases he;obtain⟨x,rfl,h1⟩:=bH hx;obtain⟨a,ys,rfl,h2,h3⟩:=h1.af;obtain⟨qs,g1,g2⟩:=ot Az h3;refine Mx.wm hc pins s σ H _ us Q I r ⟨a,ys,qs,rfl,h2,g1,?_,λp hp=>q _ _ ?_⟩
    ·rw[(fN Az g1 h3).1];exact Qh g
    ·have s':=Mx.bX hp (.dK (qs.map λp=>(.inr p.1,p.2)));refine⟨s',λA hA w=>?_,λ_ es e=>by cases e⟩;have sH:=fh.au w.1 h2;refine RV.mV aE (λz=>?_) ?_ ?_
     ·obtain⟨o,e⟩:=hA p z;rw[hp] at e;cases e
     ·rw[List.map_map,<-(fN Az g1 h3).1,List.map_map];rfl
     ·have:=(fN Az g1 sH).2;rw[List.map_map];exact this.same s'
   ·cases he
  ·cases he
end
structure Fm where
 K:Frag
 H0:Hp
 d0:Option Addr
 Ek:Nat->Prop
 P:Program
 w:World
structure Ow where
 W:Addr->Prop
 A:Addr->Prop
 dr:Option Addr
noncomputable def Ow.wd (o:Ow):Addr->Prop:=λa=>o.W a\/o.dr=some a
noncomputable def Ow.d (o:Ow):Addr->Prop:=λa=>o.dr=some a
noncomputable def OV (Φ:Fm) (o:Ow) (H:Hp) (v:V):Dt->Prop
 | .lst ds=>∃a xs,v= .ref a/\H a=some (.lst xs)/\o.A a/\¬o.W a/\o.dr≠some a/\Φ.H0 a=none/\ao Φ.K o.A H xs ds
 | .fL ks vs=>False
 | d=>RV Φ.K o.A H v d
structure ER (Φ:Fm) (Γ:Gm) (o:Ow) (ρ:aj) (S:Sx) (σ:L2.St) (H:Hp):Prop where
 len:σ.length=ρ.length
 wa:∀a,o.W a->o.A a
 da:∀a,o.dr=some a->o.A a
 al:∀a,o.A a->∃x,H a=some x
 val:∀(i:Nat) (d:Dt),ρ[i]?=some (some d)->∃v,σ[i]?=some (some v)/\(if eV Γ i=true then OV Φ o H v d else RV Φ.K o.A H v d)
 dk:∀(i:Nat) (ks vs:List Dt),ρ[i]?=some (some (.fL ks vs))->Γ.κ=some i
 inj:∀(i j:Nat) (a:Addr) (d e:List Dt),eV Γ i=true->eV Γ j=true->ρ[i]?=some (some (.lst d))->ρ[j]?=some (some (.lst e))->σ[i]?=some (some (.ref a))->σ[j]?=some (some (.ref a))->i=j
 drw:∀a,o.dr=some a->∃ns:List Int,S=some ns/\H a=some (.lst (ns.map V.int))
 drn:o.dr=none->S=none
 drs:∀(i:Nat) (a:Addr),Γ.δ=some i->o.dr=some a->σ[i]?=some (some (.ref a))
 dr0:∀a,o.dr=some a->Φ.d0=some a\/Φ.H0 a=none
 ent:aU (λb=>Φ.d0=some b) Φ.H0 H
section
variable {Φ:Fm} {Γ:Gm} {o:Ow} {ρ:aj} {S S':Sx} {σ:L2.St} {H H':Hp}
noncomputable def nD:Dt->Bool
 | .fL _ _=>false
 | _=>true
theorem OV.val {v:V} {d:Dt} (h:OV Φ o H v d) (nd:nD d=true) (wa:∀a,o.W a->o.A a) (da:∀a,o.dr=some a->o.A a):RV Φ.K o.wd H v d:=by
 have hw:∀b,o.wd b->o.A b:=λb z=>z.elim (wa b) (da b)
 cases d with
 | lst ds=>obtain⟨a,xs,rfl,h1,h2,h3,h4,_,h5⟩:=h;exact RV.dm h1 (λz=>z.elim h3 h4) (h5.weak hw)
 | fL=>cases nd
 | _=>exact RV.weak h hw
theorem OV.one {v:V} {d:Dt} (h:OV Φ o H v d) (nd:nD d=true):fh Φ.K o.A H v d:=by
 cases d with
 | lst ds=>obtain⟨a,xs,rfl,h1,h2,h3,h4,_,h5⟩:=h;exact⟨a,xs,rfl,h1,h5⟩
 | fL=>cases nd
 | _=>exact h
theorem OV.ext {v:V} {d:Dt} (h:OV Φ o H v d) (da:∀a,o.dr=some a->o.A a) (e:aU o.d H H'):OV Φ o H' v d:=by
 cases d with
 | lst ds=>obtain⟨a,xs,rfl,h1,h2,h3,h4,h6,h5⟩:=h;exact⟨a,xs,rfl,e.kp _ _ h1 h4,h2,h3,h4,h6,h5.mono e da λ_ z=>z⟩
 | fL=>exact h.elim
 | _=>exact RV.mono e da (λ_ z=>z) h
theorem Dk.set {κ:Option Nat} {i:Nat} {d:Dt} (h:∀(i:Nat) (ks vs:List Dt),ρ[i]?=some (some (.fL ks vs))->κ=some i) (nd:nD d=true):∀(j:Nat) (ks vs:List Dt),(ρ.set i (some d))[j]?=some (some (.fL ks vs))->κ=some j:=λj ks vs hj=>by
 by_cases e:j=i
 ·subst e;rw[List.getElem?_set] at hj;simp only[if_true] at hj;split at hj
  ·cases hj;cases nd
  ·cases hj
 ·rw[Qx (Ne.symm e)] at hj;exact h j ks vs hj
theorem RV.nd {K:Frag} {A:Addr->Prop} {v:V} {d:Dt} (h:RV K A H v d):nD d=true:=by
 cases d with
 | fL=>unfold RV at h;exact h.elim
 | _=>rfl
theorem ER.nd (er:ER Φ Γ o ρ S σ H) {i:Nat} {d:Dt} (h:ρ[i]?=some (some d)) (n:Γ.κ≠some i):nD d=true:=by
 cases d with
 | fL ks vs=>exact absurd (er.dk i ks vs h) n
 | _=>rfl
theorem ER.gK (er:ER Φ Γ o ρ S σ H):∀b,o.wd b->o.A b:=λb z=>z.elim (er.wa b) (er.da b)
theorem ER.vR (er:ER Φ Γ o ρ S σ H):∀b,o.wd b->∃x,H b=some x:=λb z=>er.al b (er.gK b z)
theorem aU.al {X:Addr->Prop} (e:aU X H H') {b:Addr} {x:HO} (h:H b=some x) (hx:X b->∃y,H' b=some y):∃y,H' b=some y:=by
 by_cases z:X b
 ·exact hx z
 ·exact⟨x,e.kp _ _ h z⟩
theorem ER.step (er:ER Φ Γ o ρ S σ H) (e:aU o.d H H') (hd:∀a,o.dr=some a->∃ns:List Int,S'=some ns/\H' a=some (.lst (ns.map V.int))) (hn:o.dr=none->S'=none):ER Φ Γ o ρ S' σ H' where
 len:=er.len
 wa:=er.wa
 da:=er.da
 al:=λa ha=>by obtain⟨x,hx⟩:=er.al a ha;exact e.al hx λz=>by obtain⟨ns,_,h⟩:=hd a z;exact⟨_,h⟩
 val:=λi d h=>by
  obtain⟨v,h1,h2⟩:=er.val i d h;refine⟨v,h1,?_⟩;by_cases m:eV Γ i=true
  ·rw[if_pos m] at h2 ⊢;exact h2.ext er.da e
  ·rw[if_neg m] at h2 ⊢;exact h2.mono e er.da λ_ z=>z
 dk:=er.dk
 inj:=er.inj
 drw:=hd
 drn:=hn
 drs:=er.drs
 dr0:=er.dr0
 ent:=⟨λb x h n=>by
   refine e.kp _ _ (er.ent.kp b x h n) λz=>?_
   rcases er.dr0 b z with q | q
   ·exact n q
   ·(rw[h] at q;cases q),λb xs h=>e.tp _ _ (er.ent.tp b xs h)⟩
theorem ER.re {Φ':Fm} (e:Φ'={Φ with Ek:=Φ'.Ek}) (er:ER Φ Γ o ρ S σ H):ER Φ' Γ o ρ S σ H:=by
 rw[e];refine⟨er.len,er.wa,er.da,er.al,λi d h=>?_,er.dk,er.inj,er.drw,er.drn,er.drs,er.dr0,er.ent⟩;obtain⟨v,h1,h2⟩:=er.val i d h;refine⟨v,h1,?_⟩;by_cases m:eV Γ i=true
 ·rw[if_pos m] at h2 ⊢;cases d <;> exact h2
 ·rw[if_neg m] at h2 ⊢;exact h2
theorem ER.grow (er:ER Φ Γ o ρ S σ H) (s:bp H H'):ER Φ Γ o ρ S σ H':=er.step (aU.of_same s) (λa h=>by
 obtain⟨ns,h1,h2⟩:=er.drw a h;exact⟨ns,h1,s _ _ h2⟩) er.drn
end
noncomputable def mR (Ek:Nat->Prop) {α:Type} (r:R α) (P:α->Prop):Prop:=match r with
 | .ok a=>P a
 | .ex k=>Ek k
 | .bad=>False
section
variable {Ek:Nat->Prop} {α β:Type}
theorem ae {r:R α} {f:α->R β} {P:β->Prop}:mR Ek (r.bind f) P↔mR Ek r λa=>mR Ek (f a) P:=by cases r <;> rfl
theorem ah {r:R α} {P Q:α->Prop} (h:mR Ek r P) (hq:∀a,r= .ok a->P a->Q a):mR Ek r Q:=by
 cases r with
 | ok a=>exact hq a rfl h
 | ex k=>exact h
 | bad=>exact h
theorem aM {b:Bool} {r:R α} {P:α->Prop} (h:mR Ek (ag b r) P):b=true/\mR Ek r P:=by
 cases b with
 | true=>exact⟨rfl,h⟩
 | false=>exact h.elim
end
structure EO (K:Frag) (fr:Nat->Bool) (o:Ow) (c:C) (H:Hp) (d:Dt) (v:V) (H':Hp):Prop where
 ext:aU o.d H H'
 val:RV K o.wd H' v d
 dc:lk c=0->RV K o.A H' v d
 nL:lk c<=1->fh K o.A H' v d
 ec:fresh fr c=true->∀ds,d= .lst ds->∃a xs,v= .ref a/\H a=none/\H' a=some (.lst xs)/\ao K (λb=>o.wd b\/b=a) H' xs ds/\(lk c=0->ao K (λb=>o.A b\/b=a) H' xs ds)
structure NB (K:Frag) (o:Ow) (cs:Cs) (H:Hp) (ds:List Dt) (vs:List V) (H':Hp):Prop where
 ext:aU o.d H H'
 val:ao K o.wd H' vs ds
 dc:nJ cs=0->ao K o.A H' vs ds
 nL:nJ cs<=1->l0 K o.A H' vs ds
section
variable (Φ:Fm) (Γ:Gm) (F:FT) (fr:Nat->Bool)
inductive bN (c:C) (σ:L2.St) (H:Hp) (Q:VK):Prop
 | mk (o:Ow) (ρ:aj) (S:Sx) (e:ER Φ Γ o ρ S σ H) (m:mR Φ.Ek (ev F c ρ S) λp=>∀v H',EO Φ.K fr o c H p.1 v H'->ER Φ Γ o ρ p.2 σ H'->Q v H'):bN c σ H Q
inductive eJ (c:C) (σ:L2.St) (H:Hp) (Q:Bool->Hp->Prop):Prop
 | mk (o:Ow) (ρ:aj) (S:Sx) (e:ER Φ Γ o ρ S σ H) (m:mR Φ.Ek (cX F c ρ S) λp=>∀H',aU o.d H H'->ER Φ Γ o ρ p.2 σ H'->Q p.1 H'):eJ c σ H Q
inductive ll (cs:Cs) (σ:L2.St) (H:Hp) (Q:List V->Hp->Prop):Prop
 | mk (o:Ow) (ρ:aj) (S:Sx) (e:ER Φ Γ o ρ S σ H) (m:mR Φ.Ek (gL F cs ρ S) λp=>∀vs H',NB Φ.K o cs H p.1 vs H'->ER Φ Γ o ρ p.2 σ H'->Q vs H'):ll cs σ H Q
inductive ug (cs:Cs) (σ:L2.St) (H:Hp) (Q:Bool->Hp->Prop):Prop
 | mk (o:Ow) (ρ:aj) (S:Sx) (e:ER Φ Γ o ρ S σ H) (m:mR Φ.Ek (cC F cs ρ S) λp=>∀H',aU o.d H H'->ER Φ Γ o ρ p.2 σ H'->Q p.1 H'):ug cs σ H Q
end
structure Wk (K:Frag) (A X:Addr->Prop) (J:It) (H:Hp) (ds:List Dt):Prop where
 go:∀(i:Nat) (H1:Hp),i < ds.length->aU X H H1->J.go i H1
 stop:∀(H1:Hp),aU X H H1->J.stop ds.length H1
 yld:∀(i:Nat) (x:V) (H1 H2:Hp),i < ds.length->aU X H H1->J.yld i H1 x H2->bp H1 H2/\∃d,ds[i]?=some d/\∀B:Addr->Prop,(∀b,B b->A b\/H b=none)->RV K B H2 x d
structure IO (K:Frag) (o:Ow) (it:nN) (nl:Bool) (H:Hp) (ds:List Dt) (J:It) (H':Hp):Prop where
 ext:aU o.d H H'
 w1:uW it<=1->Wk K o.A o.d J H' ds
 w0:uW it=0->Wk K o.A o.A J H' ds
 w2:nl=true->Wk K o.A o.A J H' ds
inductive rE (Φ:Fm) (Γ:Gm) (F:FT) (it:nN) (σ:L2.St) (H:Hp) (Q:It->Hp->Prop):Prop
 | mk (o:Ow) (ρ:aj) (S:Sx) (e:ER Φ Γ o ρ S σ H) (m:mR Φ.Ek (e9 F it ρ S) λp=>∀J H',IO Φ.K o it (iS F it ρ S) H p.1 J H'->ER Φ Γ o ρ p.2 σ H'->Q J H'):rE Φ Γ F it σ H Q
structure GX (g:G) (Γ:Gm) (X:Cx):Prop where
 N:X.N=Γ.N
 nd:Γ.N.Nodup
 vis:∀x,y9 (Γ.names.lookup x)=true->FB X.env.scope x
 loc:∀x,xR (Γ.names.lookup x)=true->Loc X.env.scope x/\(X.fn x=true\/X.env.scope.names.lookup x=some .local)
 gl:∀x,uK (Γ.names.lookup x)=true->Gl X x
 fre:∀x,(Γ.names.lookup x=some .cell\/Γ.names.lookup x=some .free)->(X.env.scope.names.lookup x=some .cell\/X.env.scope.names.lookup x=some .free)
 calm:X.calm=true
 un:X.A.units + 150 < cLine
 con:∀x d,g.cons.lookup x=some d->∃u,nK d=true/\X.mg x=some u/\RelV (p9 d) u
 bl:∀x∈g.bls,X.mg x=none
structure FO (K:Frag) (W:Addr->Prop) (dr:Option Addr) (fr:Bool) (H:Hp) (d:Dt) (S':Sx) (v:V) (H':Hp):Prop where
 ext:aU (λb=>dr=some b) H H'
 val:RV K W H' v d
 drw:∀a,dr=some a->∃ns:List Int,S'=some ns/\H' a=some (.lst (ns.map V.int))
 ec:fr=true->∀ds,d= .lst ds->∃a xs,v= .ref a/\H a=none/\H' a=some (.lst xs)/\ao K (λb=>W b\/b=a) H' xs ds
noncomputable def Nt (K:Frag) (xv:Nat->Value) (F:List Dt->Sx->R (Dt×Sx)) (np:Nat) (fr ba:Bool):Sp:=λvs H Q E=>
 vs.length=np/\∃(W:Addr->Prop) (dr:Option Addr) (args:List Dt) (S:Sx) (vH:List V),
  (if ba=true then∃(a:Addr) (ns:List Int),vs= .ref a::vH/\dr=some a/\W a/\S=some ns/\H a=some (.lst (ns.map V.int)) else vs=vH/\dr=none/\S=none)/\
  ao K W H vH args/\(∀a,W a->∃x,H a=some x)/\
  match F args S with
  | .ok p=>∀v H',FO K W dr fr H p.1 p.2 v H'->Q v H'
  | .ex k=>∀H',aU (λb=>dr=some b) H H'->E (xv k) none H'
  | .bad=>False
noncomputable def jQ (Φ:Fm) (xv:Nat->Value):XK:=λv _ H'=>∃k,v=xv k/\Φ.Ek k/\aU (λb=>Φ.d0=some b) Φ.H0 H'
structure FX (g:G) (xv:Nat->Value) (CX:jt) (P:Program) (w:World) (K:Frag) (mg:Str->Option Value) (base:Heap) (n k:Nat) (F:FT):Prop where
 fn:∀x f np fy ba,qx x g.fns=some (f,np,fy,ba)->∃(fa:Addr) (fd:FuncData) (ps:List Str),ps.length=np/\mg x=some (.ref fa)/\PySem.W.keepIn K (.ref fa)=true/\
  iK P w K mg base CX k fa fd ps (Nt K xv (F f) np (g.fr f) ba)/\(∀j,j<=fy.length->∃ds,aw ((fy.drop j).map p9) ds/\Binds K fd ps ds)/\fy.all nK=true
end Rx
end
section
namespace L2
open PySem PySem.Spec PyProof.Rows
abbrev CP:List Value:=[.type "ValueError",.type "Exception",.type "BaseException",.type "object"]
theorem xY {K:PySem.W.Frag} {h h':Heap} {N:Addr} {m:Str->Option Value} (X:K.In h) (X':K.In h') (ok:PySem.W.nsOkIn K N=true) (G:h.Ns N m):h'.Ns N m:=by
 unfold PySem.W.nsOkIn at ok;split at ok
 ·rename_i lk;obtain⟨ob,es,ep,e1,rest⟩:=G;have e2:=X _ _ lk;rw[e1] at e2;cases e2;exact⟨_,es,ep,X' _ _ lk,rest⟩
 ·cases ok
theorem uG {K:PySem.W.Frag} {C:Addr} {BP:List Value} {newId:String} {h:Heap} (X:K.In h) (q:PySem.W.excIn K C BP newId=true):
  ∃(bm:List Value) (ns:Addr) (nm qn:Str) (bs:List Value) (hd:Bool) (sn:List Str) (sub:List Value) (ab:Bool) (col:Option Bool) (dd:Option Addr) (k0 k1 k2 k3 k5:Option Value) (mN:Str->Option Value),mN "__init__"=none/\
   ∀h':Heap,K.In h'->h'.get? C=some (excClassObj nm qn C ns bs bm hd sn sub ab col dd k0 k1 k2 k3 k5 newId)/\h'.Ns ns mN/\OwnTail h' BP bm:=by
 unfold PySem.W.excIn at q;split at q
 ·rename_i Jp cdt FR Lv;split at q
  ·rename_i D tl s0 s1 s2 s3 idn s5 em es;rw[Qf,Qf,Qf,Qf,Qf] at q;obtain⟨⟨⟨⟨⟨q1,q2⟩,q3⟩,q4⟩,q5⟩,q6⟩:=q;have d1:D=C:=QD q1;have d2:idn=newId:=QD q2;have d3:cdt.hasDel=false:=by simpa using q3
   have d6:=QD q6;subst d1 d2;cases cdt with
   | mk nm bs mro ns qn hd sn sub ab col del=>
    have e1:mro=Value.ref D::tl:=em;have e2:del=false:=d3;subst e1 e2;have e3:FR=#[s0,s1,s2,s3,some (Value.builtin idn),s5]:=by
     cases FR with
     | mk l=>have e:l=_:=es;rw[e]
    subst e3;refine⟨tl,ns,nm,qn,bs,hd,sn,sub,ab,col,Jp,s0,s1,s2,s3,s5,h.nsMap ns,PySem.W.nsMap_none_of_in X q5 d6,λh' X'=>⟨X' _ _ Lv,?_,PySem.W.tail_of_in X' q4⟩⟩;exact xY X X' q5 (Heap.Ns.of_isNs (PySem.W.isNs_of_in X q5))
  ·cases q
 ·cases q
noncomputable def PM (X:Cx) (e:Expr) (p:St->Prop):Prop:=∀(pins:List (Addr×Obj)) (s:Shared) (σ:St) (H:Hp) (Q:Value->Shared->Prop),Inv X pins σ H s->p σ->(∀u s',s'.heap=s.heap->Inv X pins σ H s'->Q u s')->wpAny (model X.prog X.w) X.A (eval e X.env) Q X.xe s
noncomputable def F4 (X:Cx) (e:Expr) (p:St->Prop):Prop:=∀(pins:List (Addr×Obj)) (s:Shared) (σ:St) (H:Hp) (Q:Value->Shared->Prop),Inv X pins σ H s->p σ->(∀(y:Str) t s',y.length<=1000->s'.heap=s.heap->Inv X pins σ H s'->Q (.str y t) s')->wpAny (model X.prog X.w) X.A (eval e X.env) Q X.xe s
noncomputable def F7 (X:Cx) (es:List Expr) (p:St->Prop):Prop:=∀(out:Str) (pins:List (Addr×Obj)) (s:Shared) (σ:St) (H:Hp) (Q:Value->Shared->Prop),Inv X pins σ H s->p σ->out.length + 1000 * es.length<=sizeLine->(∀u s',s'.heap=s.heap->Inv X pins σ H s'->Q u s')->
 wpAny (model X.prog X.w) X.A (joinParts out (evalEach es X.env)) Q X.xe s
theorem pM {X:Cx} {pins:List (Addr×Obj)} {σ:St} {H:Hp} {s:Shared} (I:Inv X pins σ H s) (k:Nat):Inv X pins σ H {s with toks:=k}:=I.tok k
section
variable {X:Cx}
theorem Ep {x:Str} {j pos} {p:St->Prop}:PM X (.Constant (.str x) j pos) p:=λpins s σ H Q I _ q=>Calls.Constant_str (q _ _ rfl (I.tok _))
theorem Be {x:Str} {j pos} {p:St->Prop} (h:x.length<=1000):F4 X (.Constant (.str x) j pos) p:=λpins s σ H Q I _ q=>Calls.Constant_str (q _ _ _ h rfl (I.tok _))
theorem kN (n:Nat) (h:n < 10 ^ 19):(Str.ofString (toString (n:Int))).length<=1000:=by
 have e:=int_text_length_le10 (a:=(n:Int)) (k:=19) (by decide) (by lia);rw[PySem.ofString_length]
 lia
theorem log2_small {n:Nat} (h:n < 10 ^ 19):((n:Int)).natAbs.log2 < 1920:=by
 have e:((n:Int)).natAbs=n:=rfl;rw[e];by_cases hz:n=0
 ·subst hz;decide
 ·have:=(Nat.log2_lt hz (k:=1920)).mpr (QB h (by decide +kernel));exact this
theorem Bf {i:Nat} {x:Str} {pos C5:Pos} (hN:X.N[i]?=some x) (hv:FB X.env.scope x) (hd:(x==("__debug__":Str))=false) (vz:(x==("__classdict__":Str))=false):F4 X (.FormattedValue (.Name x pos) (-1) none C5) (λσ=>∃n:Nat,σ[i]?=some (some (.int n))/\n < 10 ^ 19):=by
 intro pins s σ H Q I ⟨n,h1,h2⟩ q;obtain⟨m,hn,hl⟩:=I.loc;obtain⟨u,r,l⟩:=hl i x _ hN h1 hv;obtain⟨t,rfl⟩:=r;have fin:wpAny (model X.prog X.w) X.A (formatField (.int n t) Str.empty) Q X.xe s:=formatField_int_small (log2_small h2) (q _ _ _ (kN n h2) rfl (pM I _));rcases l with ⟨hk,hm⟩ | ⟨hk,c,hc,oJ⟩
 ·exact FormattedValue_plain (wpAny_Name (wpAny_loadName_local I.ok.kind hk hn hm fin) hd)
 ·rcases hk with hk | hk
  ·exact FormattedValue_plain (wpAny_Name (wpAny_loadName_cell I.ok.kind hk hc oJ fin) hd)
  ·exact FormattedValue_plain (wpAny_Name (wpAny_loadName_free I.ok.kind hk hc oJ fin vz) hd)
theorem yl {n:Nat} {u:Value} {x:Str} {pos C5:Pos} {p:St->Prop} (hg:Gl X x) (hm:X.mg x=some u) (r:RelV (.int n) u) (h2:n < 10 ^ 19) (hd:(x==("__debug__":Str))=false):F4 X (.FormattedValue (.Name x pos) (-1) none C5) p:=by intro pins s σ H Q I _ q;obtain⟨t,rfl⟩:=r;exact FormattedValue_plain (hZ I hg hm (formatField_int_small (log2_small h2) (q _ _ _ (kN n h2) rfl (pM I _))) hd)
theorem Bg {p:St->Prop}:F7 X [] p:=λout pins s σ H Q I _ hl q=>joinParts_nil (q _ _ rfl (I.tok _)) (by simpa using hl)
theorem ym {e:Expr} {es:List Expr} {p:St->Prop} (he:F4 X e p) (ht:F7 X es p) (hs:evalEach (e::es) X.env=eval e X.env::evalEach es X.env):F7 X (e::es) p:=by intro out pins s σ H Q I hp hl q;rw[hs];refine joinParts_cons (he pins s σ H _ I hp λy t s' hy hh I'=>?_);have e1:(out++y).length=out.length + y.length:=strLen_append ..;rw[Qy] at hl;refine⟨by rw[e1];lia,ht (out++y) pins s' σ H Q I' hp (by rw[e1];lia) λu s'' h2 I2=>q u s'' (h2.trans hh) I2⟩
theorem u7 {e1 e2:Expr} {es:List Expr} {p:St->Prop} {pos:Pos} (h:F7 X (e1::e2::es) p) (hl:(e1::e2::es).length<=100):PM X (.JoinedStr (e1::e2::es) pos) p:=by intro pins s σ H Q I hp q;have hz:Str.empty.length=0:=rfl;have zy:=sizeLine_eq;exact JoinedStr_many (h Str.empty pins s σ H Q I hp (by lia) q)
end
noncomputable def E3 (cls:Value) (E:XK) (p:St->Prop):TS:=λ_ σ H=>p σ/\E cls none H
section
variable {X:Cx} {E:XK} {C:Addr} {c:Str} {arg:Expr} {p:St->Prop} {np cA pos:Pos}
theorem AY {N:Nat} {H:Hp} {h h':Heap} {a:Addr} {cls:Value} {args:List Value} (hN:N<=h.objs.size) (fresh:∀b,h.objs.size<=b->H b=none) (dd:Mx.Dd h h') (m:Heap.MadeExcOf h h' a cls args):gO N cls a H h':=by
 obtain⟨t,e1,e2,e3⟩:=m.there;have ge:h.objs.size<=a:=by
  rcases Nat.lt_or_ge a h.objs.size with hl | hl
  ·have:=dd.none a hl m.new;rw[e1] at this;cases this
  ·exact hl
 refine⟨Qr hN ge,fresh a ge,⟨_,_,e1,⟨rfl,rfl⟩,rfl,.inl rfl⟩,λT z=>?_⟩;obtain⟨o,vs,z1,z2,z3⟩:=z;rw[e1] at z1;cases z1;cases z2;cases z3
theorem yt (hh:X.A.handled=none) (B3:X.pn=[]) (hg:Gl X c) (hm:X.mg c=some (.ref C)) (hC:PySem.W.excIn X.K C CP "ValueError.__new__"=true) (hx:∀e s',iI X E e s'->X.xe e s') (he:PM X arg p)
  (j9:starEach [arg] X.env=[(false,eval arg X.env)]) (oO:(c==("__debug__":Str))=false):PS X (.Raise (some (.Call (.Name c np) [arg] [] cA)) none pos) (E3 (.ref C) E p):=by
 intro pins s σ H D I h;obtain⟨h1,h2⟩:=h;obtain⟨bm,ns,nm,qn,bs,hd,sn,sub,ab,col,dd,k0,k1,k2,k3,k5,mN,OQ,F⟩:=uG I.jE hC;have T0:=(F _ I.jE).2.2;have gY:bm.contains (.type "BaseException")=true:=T0.hasType PySem.F.excBase_ValueError.hasBase;have lJ:(backTo cA (starEach [arg] X.env)).any (·.1)=false:=by rw[j9];rfl
 refine Mx.lq (wpAny_mono (Q:=λ_ _=>False) (E:=λe s'=>X.xe e s'\/∃s2 a args,e= .ref a/\s2.heap=s.heap/\Inv X pins σ H s2/\s'={s2 with heap:=s'.heap}/\Heap.MadeExcOf s2.heap s'.heap a (.ref C) args) ?_ (λ_ _ z=>z.elim) λe s' z hd=>?_)
 ·refine wpAny_Raise_call_subT (C:=C) (nm:=nm) (q:=qn) (N:=ns) (bs:=bs) (bm:=bm) (hdct:=hd) (sn:=sn) (sub:=sub) (ab:=ab) (col:=col) (dd:=dd) (k0:=k0) (k1:=k1) (k2:=k2) (k3:=k3) (k5:=k5) PySem.F.excBase_ValueError gY hh lJ OQ (hZ I hg hm ⟨rfl,?_⟩ oO);rw[j9];refine Calls.evalArgs_plain ?_;refine Calls.spliced_cons (wpAny_mono (he pins s σ H (λu s'=>s'.heap=s.heap/\Inv X pins σ H s') I h1 λu s' a b=>⟨a,b⟩) (λu s1 ⟨OB,I1⟩=>?_) λ_ _ z=> .inl z);refine Calls.spliced_nil ⟨rfl,(by show 1<=sizeLine;decide),(F _ I1.jE).1,(F _ I1.jE).2.1,(F _ I1.jE).2.2,λh' e m=> .inr ⟨s1,e,_,rfl,OB,I1,rfl,m⟩⟩
 ·rcases z with z | ⟨s2,a,args,rfl,OC,I2,hs,m⟩
  ·exact z
  ·rw[hs];refine hx _ _ ⟨σ,H,a,.ref C,rfl,?_,?_,h2⟩
   ·exact(I2.kept (t':=s2.toks) (h':=s'.heap) m.keeps).fU λp hp=>by cases hp
   ·exact AY I2.sz (λb hb=>I2.hok.fresh hb) (by rw[OC];exact hd) m
end
structure vO (K:PySem.W.Frag) (D:Addr):Prop where
 ga:PySem.W.findIn K (.ref D) "__getattribute__"=some (some (.builtin "BaseException.__getattribute__"))
 na:PySem.W.findIn K (.ref D) "__getattr__"=some none
 sb:PySem.W.subIn K (.ref D) (.type "BaseException")=some true
 fi:PySem.W.findIn K (.ref D) "__class__"=some (some (.builtin "object.__class__"))
 sp:PySem.W.specialIn K (.builtin "object.__class__") "__get__"=some (some (.builtin "getset_descriptor.__get__"))
 tk:PySem.W.takesIn K (.builtin "object.__class__")=some true
 mr:PySem.W.mroIn K D (.type "object")=some true
theorem Af {K:PySem.W.Frag} {D:Addr} {BP:List Value} {newId:String} (q:PySem.W.excIn K D BP newId=true):∃c dd cd sl,K.lookup D=some ⟨c,dd,.cls cd,sl⟩:=by
 unfold PySem.W.excIn at q;split at q
 ·rename_i Lv;exact⟨_,_,_,_,Lv⟩
 ·cases q
theorem GD:(Value.builtin "BaseException.__getattribute__"==Value.builtin "object.__getattribute__")=false:=by decide +kernel
theorem wY {prog:Program} {w:World} {A:Around} {E:Value->Shared->Prop} {s:Shared} {x D:Addr} {tv:Value} {Q:Unit->Shared->Prop} (L:PySem.W.Looks (model prog w) s.heap (isInstance (.ref x) (.type "BaseException")) true) (hq:Q () s):wpAny (model prog w) A (checkBuiltinCall "BaseException.__getattribute__" ⟨[.ref x,tv],[]⟩) Q E s:=by
 have hk:builtinKind "BaseException.__getattribute__"=some .slot:=by decide +kernel
 have Dr:splitId "BaseException.__getattribute__"=some ("BaseException","__getattribute__"):=by decide +kernel
 have ha:=F.args_bexc_ga (.ref x) tv;simp only[checkBuiltinCall,hk,Dr];refine Qb (L.at ?_);simp only[Bool.not_true,Bool.false_eq_true,if_false];cases hsig:Manifest.signature? "BaseException.__getattribute__" with
 | none=>exact Qe hq
 | some sig=>simp only[argsOk,hsig] at ha;show wpAny _ A (Bind.checkArgs "BaseException.__getattribute__" sig ⟨[.ref x,tv],[]⟩) _ _ s;rw[show Bind.checkArgs "BaseException.__getattribute__" sig ⟨[.ref x,tv],[]⟩=pure () from ha];exact Qe hq
theorem uF {K:PySem.W.Frag} {x D:Addr} {ox:Obj} (k:vO K D) {cd:ClassData} (hc:PySem.W.clsIn K D=some cd) {prog:Program} {w:World} {A:Around} {E:Value->Shared->Prop} {Q:Option Value->Shared->Prop} {s:Shared} (X:K.In s.heap) (I:PySem.W.InstAt s.heap x ox D none) (q:Q (some (.ref D)) {s with toks:=s.toks + 1}):
  wpAny (model prog w) A (getAttr? (.ref x) "__class__") Q E s:=by
 have hf:PySem.W.findObj K D none "__class__"=some (.bind (.builtin "getset_descriptor.__get__") (.builtin "object.__class__")):=by unfold PySem.W.findObj;rw[hc,Option.bind_some,k.fi,Option.bind_some];simp[k.sp,k.tk]
 have L0:=I.type (M:=model prog w);have L1:=PySem.W.looks_findIn (M:=model prog w) X k.ga;have L2:=PySem.W.looks_findIn (M:=model prog w) X k.na;have L3:=PySem.W.looks_find (M:=model prog w) X I hf;have L4:PySem.W.Looks (model prog w) s.heap (isInstance (.ref x) (.type "BaseException")) true:=L0.andThen (PySem.W.looks_subIn (M:=model prog w) X k.sb);obtain⟨hh,g,d,t,os⟩:=s;unfold getAttr? getAttrBy? getAttrBy;refine Qb (wpAny_mkText (Qb (wpAny_attempt (wpAny_holding (Qb (L0.at (Qb (L1.at ?_))))))));simp only[GD,Bool.and_false,Bool.false_eq_true,if_false];unfold getAttrByItsOwn;refine Qb ?_;show wpAny _ _ (typeLookup (.ref D) "__getattr__") _ _ _;refine L2.at ?_;refine Qb (wpAny_attempt (wpAny_holding ?_));show wpAny _ _ (boundAndCalled _ _ _) _ _ _;unfold boundAndCalled;refine Qb (wpAny_of_eq (F.excAttr_ValueError.ga.bind (.ref x)) ?_);refine wpAny_call (codeAny_call_builtin F.excAttr_ValueError.ga.plain F.entry_bexc_ga (wY (D:=D) L4 ?_));unfold Builtin.«object.__getattribute__»;refine Qb (Qe (Qb (Qe (Qb (L0.at (Qb (L3.at ?_)))))));show wpAny _ _ (holding [.builtin "object.__class__"] (call (.builtin "getset_descriptor.__get__") [.builtin "object.__class__",.ref x,.ref D]) >>=ret) _ _ _;refine Qb (wpAny_holding (wpAny_call (PySem.W.class_get (ox:=ox) (od:=none) X I k.mr ?_)));refine Qe ?_;show wpAny _ _ (handedOut (.ref D)) _ _ _;exact PySem.W.handed_on rfl (Qe q)
theorem xM {K:PySem.W.Frag} {x D:Addr} {ox:Obj} {BP:List Value} {newId:String} (hq:PySem.W.excIn K D BP newId=true) (k:vO K D):PySem.W.KitX K (.ref x) (.ref D) (λh=>PySem.W.InstAt h x ox D none):=by
 obtain⟨c0,PK,cd,Qa,lk⟩:=Af hq;have hc:PySem.W.clsIn K D=some cd:=by unfold PySem.W.clsIn;rw[lk]
 refine⟨λM h _ I=>I.type,λM h X _=>?_,λh tp dd its n sl X htp=>?_,λ {prog w A E Q s} X I q=>uF k hc X I q⟩
 ·intro A' Q' E' s' kk q;unfold isType loadHead;exact Qb (wpAny_loadPart (kk _ _ (X _ _ lk)) (Qe q))
 ·refine Bool.eq_false_iff.mpr λq=>?_
  have e:D=tp:=by have:=QD q;cases this;rfl
  rw[<-e,X _ _ lk] at htp;cases htp
noncomputable abbrev Cx.hand (X:Cx) (a:Addr) (o:Obj):Cx:={X with A:=X.A.mark (some (.ref a)),calm:=false,pn:=[(a,o)],xe:=λ_ _=>False}
structure l6 (X:Cx) (D a:Addr) (o:Obj):Prop where
 cls:o.cls= .ref D
 Jp:o.dict=none
 dat:∃vs,o.data= .fields vs
section
variable {X:Cx} {σ:St} {H:Hp} {s:Shared} {D a:Addr} {o:Obj}
theorem Inv.hand (B3:X.pn=[]) (I:Inv X [] σ H s) (F:gO X.s₀.heap.objs.size (.ref D) a H s.heap) (ho:s.heap.get? a=some o) (xr:l6 X D a o):Inv (X.hand a o) [] σ H s:=by
 obtain⟨vs,hd⟩:=xr.dat;refine⟨⟨I.ok.mod,I.ok.kind,I.ok.glob,I.ok.blt,I.ok.above,I.ok.inj,I.ok.has,I.ok.zl,(λz=>by cases z),I.ok.frames,I.ok.By,I.ok.BV,I.ok.bs,I.ok.we,I.ok.lh,I.ok.mq,I.ok.gw,I.ok.Aj⟩,I.os,I.bare,I.base,I.loc,I.cell,I.free,I.cG,λp hp=>?_,I.hok,I.len⟩;have e:p=(a,o):=by simpa using hp
 subst e;refine⟨ho,F.nH,λz=>?_,λz=>?_,λv q=>by rw[hd] at q;cases q⟩
 ·obtain⟨m,⟨o',es,ep,h1,h2,_⟩,_⟩:=I.loc;have z:a=X.env.locals:=z;rw[<-z,ho] at h1;cases h1;rw[hd] at h2;cases h2
 ·obtain⟨_,o',qD,Jy⟩:=I.ok.gw.mem z;have:=F.ge;have cH:=Qq qD;exact absurd (QB cH this) (Nat.lt_irrefl _)
theorem Inv.Fe (B3:X.pn=[]) (I:Inv (X.hand a o) [] σ H s) (hc:X.calm=true->X.A.handled=none):Inv X [] σ H s:=
 ⟨⟨I.ok.mod,I.ok.kind,I.ok.glob,I.ok.blt,I.ok.above,I.ok.inj,I.ok.has,I.ok.zl,hc,I.ok.frames,I.ok.By,I.ok.BV,I.ok.bs,I.ok.we,I.ok.lh,I.ok.mq,I.ok.gw,I.ok.Aj⟩,I.os,I.bare,I.base,I.loc,I.cell,I.free,I.cG,(λp hp=>(by rw[B3] at hp;cases hp)),I.hok,I.len⟩
theorem sP (I:Inv (X.hand a o) [] σ H s) (xr:l6 X D a o):PySem.W.InstAt s.heap a o D none:=by obtain⟨vs,hd⟩:=xr.dat;refine⟨(I.pin (a,o) (by simp)).1,xr.cls,by unfold PySem.W.notCls;rw[hd],?_⟩;rw[xr.Jp];trivial
end
noncomputable def WX (X:Cx) (σ0:St) (XE:Value->Hp->Prop) (e:Value) (s':Shared):Prop:=∃H' a cls,e= .ref a/\Inv X [] σ0 H' s'/\gO X.s₀.heap.objs.size cls a H' s'.heap/\XE cls H'
noncomputable def Jn (X:Cx) (st:Stmt) (t:TS):Prop:=∀(s:Shared) (σ:St) (H:Hp) (D:Ends),Inv X [] σ H s->t D σ H->wpAny (model X.prog X.w) X.A (exec st X.env) (SP X [] D) X.xe s
noncomputable def lY (X:Cx) (st:List Stmt) (t:TS):Prop:=∀(s:Shared) (σ:St) (H:Hp) (D:Ends),Inv X [] σ H s->t D σ H->wpAny (model X.prog X.w) X.A (execs st X.env) (SP X [] D) X.xe s
theorem Es {X:Cx} {st:Stmt} {t:TS} (h:PS X st t):Jn X st t:=λs σ H D=>h [] s σ H D
theorem Bj {X:Cx} {st:List Stmt} {t:TS} (h:nO X st t):lY X st t:=λs σ H D=>h [] s σ H D
theorem vd {X:Cx} {st:Stmt} {rest:List Stmt} {t u:TS} (h1:Jn X st t) (h2:lY X rest u):lY X (st::rest) (IP t u):=by
 intro s σ H D I hq;refine wpAny_execs_cons (bO (h1 s σ H {D with nx:=u D} I hq) λf s1 z=>?_);cases f with
 | next=>obtain⟨σ1,H1,I1,q1⟩:=z;exact h2 s1 σ1 H1 D I1 q1
 | brk=>exact z
 | cont=>exact z
 | ret v=>exact z
section
variable {X:Cx} {σ:St} {H:Hp} {s:Shared}
theorem Inv.v5 {h':Heap} {m:Str->Option Value} {tk:Nat} (B3:X.pn=[]) (I:Inv X [] σ H s) (hn:h'.Ns X.env.locals m) (sb:Heap.SameBut X.env.locals s.heap h'):Inv X [] (List.replicate X.N.length none) H {s with heap:=h',toks:=tk}:=by
 have old:∀b o,X.s₀.heap.get? b=some o->b≠X.env.locals:=λb o e=>QL (QB (Qq e) I.ok.above)
 have nc:∀y c,X.env.cells.lookup y=some c->c≠X.env.locals:=λy c e z=>by obtain⟨v,o,ho,hd⟩:=I.cell y c e;obtain⟨m',⟨o',es,ep,h1,h2,_⟩,_⟩:=I.loc;rw[z,h1] at ho;cases ho;rw[hd] at h2;cases h2
 refine⟨I.ok,I.os,I.bare,⟨λb o e n hb hx=>(sb.2 b (old b o e)).trans (I.base.keep b o e n hb hx),λb o e n hb hx=>?_,I.base.free,λb o e hx=>?_,I.base.tups,I.base.frzs,I.base.tbls⟩,⟨m,hn,λi x v h1 h2=>?_⟩,λy c e=>?_,I.free,I.cG,λp hp=>?_,?_,List.length_replicate⟩
 ·obtain⟨sl,q⟩:=I.base.slot b o e n hb hx;exact⟨sl,(sb.2 b (old b o e)).trans q⟩
 ·obtain⟨o',q⟩:=I.base.there b o e hx;exact⟨o',(sb.2 b (old b o e)).trans q⟩
 ·rw[List.getElem?_replicate] at h2;split at h2 <;> cases h2
 ·obtain⟨v,o,ho,hd⟩:=I.cell y c e;exact⟨v,o,(sb.2 c (nc y c e)).trans ho,hd⟩
 ·rw[B3] at hp;cases hp
 ·intro b u e;refine(I.hok b u e).nz (λc v hc q=>?_) (λ_ q=>q) λ_ _ q=>q
  refine(sb.2 c λz=>?_).trans q;subst z;rcases hc with rfl | hc
  ·rw[I.free] at e;cases e
  ·rw[I.free] at hc;cases hc
theorem LC {a:Addr}:(Value.ref a)≠byPass:=by intro q;cases q
variable {tb:St->(Value->Hp->Prop)->TS} {th:Addr->Addr->Obj->TS} {ok:Addr->Prop} {t:Str} {c:Value} {tp hpos pos:Pos} {body iF:List Stmt} {b0:Stmt}
theorem E8 {XE:Value->Hp->Prop} {D:Ends} {nm:Option Str} {Q:Flow->Shared->Prop} (st:eR X) (hg:Gl X t) (hm:X.mg t=some c) (oO:(t==("__debug__":Str))=false)
  (hx:∀C,ok C->PySem.W.exmOne X.K (.ref C) c=some true) (Om:∀cls H',XE cls H'->∃C,cls= .ref C/\ok C)
  (go:∀H' a C s1,XE (.ref C) H'->Inv X [] σ H' s1->gO X.s₀.heap.objs.size (.ref C) a H' s1.heap->(∃T,c9 s1.heap a T)->
   codeAny (model X.prog X.w) (X.A.mark (some (.ref a))) (.handlers (.ref a) [.ExceptHandler none nm (b0::iF) hpos] X.env) (λr s₂=>match r with
     | .ok f=>(match nm with
      | none=>Q f s₂
      | some n=>wpAny (model X.prog X.w) X.A (do bindName X.env n .none;unbindBehindTheSuite X.env n hpos) (λ_ s₃=>Q f s₃) X.xe s₂)
     | .error x=>cameBackBy (model X.prog X.w) X.A X.env X.xe x s₂) s1)
  {e:Value} {s1:Shared} (w:WX X σ XE e s1):wpAny (model X.prog X.w) X.A (noteFrame e X.env) (λ_ s₂=>wpAny (model X.prog X.w) X.A (setFlight e none) (λ_ s₃=>wpAny (model X.prog X.w) X.A (handleBy e X.env [.ExceptHandler (some (.Name t tp)) nm (b0::iF) hpos]) Q X.xe s₃) X.xe s₂) X.xe s1:=by
 obtain⟨H',a,cls,rfl,I1,F1,hE⟩:=w;obtain⟨C,rfl,hok⟩:=Om cls H' hE;obtain⟨hp,fz,kA,L,e1,e2,e3⟩:=st;have vC:=I1.ok.frames;have hl:=I1.stack;rw[e1] at vC hl;refine sD vC hl e2 e3 F1 (λb hb=>I1.hok.fresh hb) λh2 x2 f2 t2=>?_
 rw[<-e1] at x2;have I2:=I1.Fx hp F1 x2;refine dU (fs:=ec X.stack) f2 t2 λh3 x3 f3 t3=>?_
 have I3:=I2.Fx hp f2 x3;obtain⟨o,vs,ho,⟨GV,oH⟩,hd,_⟩:=id f3.obj;have xr:l6 X C a o:=⟨GV,oH,vs,hd⟩;have Ji:=I3.hand hp f3 ho xr;have ia:=sP Ji xr;refine wpAny_handleBy_cons (codeAny_handlers_test (hZ (X:=X.hand a o) Ji hg hm ?_ oO)) LC;exact(PySem.W.exm_one (M:=model X.prog X.w) I3.jE ia.type (hx C hok)).here (go H' a C _ hE I3 f3 t3)
end
section
variable {X:Cx} {E:XK} {tb:TS} {t:Str} {c:Value} {tp hpos pos:Pos} {body iF:List Stmt} {b0:Stmt} {i:Nat} {n:Str} {D:Ends}
theorem BE (st:eR X) (GW:X.calm=true->X.A.handled=none) (hg:Gl X t) (hm:X.mg t=some c) (oO:(t==("__debug__":Str))=false)
  (hN:X.N.Nodup) (hi:X.N[i]?=some n) (hl:X.env.scope.names.lookup n=some .local) (hb:nO (X.cD (iI X E)) body tb)
  (hh:∀cls H',E cls none H'->∃C,cls= .ref C/\PySem.W.exmOne X.K (.ref C) c=some true/\∀a o,l6 X C a o->∃th,nO (X.hand a o) (b0::iF) th/\∀σ,σ[i]?=some (some (.ref a))->σ.length=X.N.length->th {nx:=λ_ _=>False,rt:=D.rt} σ H')
  {s:Shared} {σ:St} {H:Hp} (I:Inv X [] σ H s) (h:tb D σ H):
  wpAny (model X.prog X.w) X.A (exec (.Try body [.ExceptHandler (some (.Name t tp)) (some n) (b0::iF) hpos] [] [] pos) X.env) (SP X [] D) X.xe s:=by
 refine wpAny_Try_except (wpAny_mono (hb [] s σ H D (I.cD _) h) (λf s1 z=>?_) λe s1 w=>?_)
 ·have z':=z.dM;cases f with
  | next=>exact wpAny_execs_nil z'
  | brk=>exact z'
  | cont=>exact z'
  | ret v=>exact z'
 ·obtain⟨σ1,H1,a1,Kg,e1,I1,F1,E1⟩:=w;refine E8 (X:=X) (σ:=σ1) (ok:=λC=>PySem.W.exmOne X.K (.ref C) c=some true) (XE:=λcls H'=>E cls none H') (nm:=some n) (D:=D) st hg hm oO (λC h=>h) (λcls H' z=>?_) (λH' a C s2 hE I2 f2 t2=>?_) ⟨H1,a1,Kg,e1,I1,F1,E1⟩
  ·obtain⟨C,e,k,_⟩:=hh cls H' z;exact⟨C,e,k⟩
  ·obtain⟨C',eC,_,K8⟩:=hh _ H' hE;cases eC;refine codeAny_handlers_suite_as (dU (fs:=ec X.stack) f2 t2 λh3 x3 f3 t3=>?_);have I3:=I2.Fx st.pn f2 x3;obtain⟨o,vs,ho,⟨GV,oH⟩,hd,_⟩:=id f3.obj;have xr:l6 X C a o:=⟨GV,oH,vs,hd⟩;have Ji:=I3.hand st.pn f3 ho xr;refine kM (X:=X.hand a o) (v:= .ref a) Ji hN hi (.inl hl) rfl (λs4 I4=>?_) (.inr hl);obtain⟨th,hs,K8⟩:=K8 a o xr;have hlen:i < σ1.length:=by rw[I1.len];exact(Qi.mp hi).1
   refine wpAny_mono (hs [] _ _ H' _ I4 (K8 _ (by simp[hlen]) (by rw[List.length_set];exact I1.len))) (λf s5 z=>?_) λ_ _ z=>z.elim
   cases f with
   | next=>obtain⟨σ',Jh,I',q⟩:=z;exact q.elim
   | brk=>obtain⟨σ',Jh,I',q⟩:=z;exact q.elim
   | cont=>obtain⟨σ',Jh,I',q⟩:=z;exact q.elim
   | ret u=>obtain⟨v,σ',Jh,I',r,q⟩:=z;have I5:=I'.Fe st.pn GW;obtain⟨m5,G9,_⟩:=id I5.loc;have Dg:X.env.scope.kind= .function:=I5.ok.kind;refine wpAny_nameGoes hl G9 (by rw[Dg];rfl) λh6 m6 hn6 sb6=>⟨v,_,Jh,I5.v5 st.pn hn6 sb6,r,q⟩
theorem ye {C a:Addr} {o:Obj} {x y:Str} {v:V} {b:Bool} {p p1 p2:Pos} {BP:List Value} {newId:String} (xr:l6 X C a o) (hq:PySem.W.excIn X.K C BP newId=true) (k:vO X.K C) (Oz:Gl X "isinstance") (OM:X.mg "isinstance"=none) (hx:PE (X.hand a o) (.Name x p1) (jq i)) (hv:PE (X.hand a o) (.Name y p2) (tC v)) (hr:∀u,RelV v u->u=c) (e:PySem.W.kitOne X.K (.ref C) c=some b):
  PE (X.hand a o) (.Call (.Name "isinstance" p) [.Name x p1,.Name y p2] [] pos) (λσ H Q=>σ[i]?=some (some (.ref a))/\Q (.bl b) H):=by
 have hc:eQ (X.hand a o) (.builtin "isinstance") (λxs H Q=>xs=[.ref a,v]/\Q (.bl b) H):=by
  intro pins s σ H xs us Q I r ⟨e1,q⟩;subst e1;obtain⟨u1,u2,rfl,r1,r2⟩:=r.two;cases r1;have:=hr _ r2;subst this;have I0:=I.fU (pins':=[]) λp hp=>by cases hp
  exact PySem.W.kia_one (xM hq k) I.jE (sP I0 xr) e (by intro z;cases z) λtk=>⟨.bl b,H,I.tok tk,rfl,q⟩
 intro pins s σ H Q I ⟨h1,h2⟩;exact kC (X:=X.hand a o) hc Oz OM PyProof.Rows.boot_isinstance (bI hx (bI hv eI)) (by decide) (by decide) rfl rfl pins s σ H Q I ⟨_,h1,rfl,h2⟩
end
theorem C3 {CX:jt} {P:Program} {w:World} {K:PySem.W.Frag} {mg:Str->Option Value} {base:Heap} {k:Nat} {f:Addr} {name qual:Str} {params:Arguments} {body:List Stmt} {scope:Scope} {dV kV doc pm fj ct oc:Value} {an od:Option Addr}
  {tB:Array (Option Value)} {N ps:List Str} {sp:Sp} (lk:K.lookup f=some ⟨oc,od,.func (PySem.W.fnOf name qual params body scope dV kV doc pm an fj ct),tB⟩) (vz:PySem.W.codeIn K fj qual=true) (S:eg N ps scope)
  (len:∀vs H Q E,sp vs H Q E->vs.length=ps.length)
  (GU:∀(A:Around) (outer:List Env) (s:Shared) (H:Hp) (vs:List V) (Q:VK) (E:XK),gP k (A.deeper (envOfC qual scope s.heap.objs.size f fj))->sp vs H Q E->
   ∃t,lY (jY CX P w K mg base N qual scope f fj A outer s H E) body t/\t {nx:=λ_ H'=>Q .bb H',rt:=Q} (start N vs) H):
  iK P w K mg base CX (k + 1) f (PySem.W.fnOf name qual params body scope dV kV doc pm an fj ct) ps sp:=by
 refine⟨len,λA outer s H args us vs Q E hr e0 hb r nG=>?_⟩;have KX:K.In s.heap:=e0.mod.Lr.keeps λb o e=>(e0.bs b o e).1
 have G6:∀y∈ps.zip us,scope.names.lookup y.1=some .local\/(scope.names.lookup y.1=some .cell/\((cellsFrom (s.heap.objs.size + 1) scope.names []).lookup y.1).isSome=true):=λ⟨n,v⟩ hy=>by
  rcases S.par n (List.of_mem_zip hy).1 with q | q
  ·exact .inl q
  ·exact .inr ⟨q,PySem.W.cellsFrom_some _ _ _ (.inl q)⟩
 refine codeAny_call_function hr.depth (KX _ _ lk) rfl S.co S.gen rfl (PySem.W.codeRec_of KX vz) (hb _ _ _ _ (wpAny_newFunctionEnv_cells S.kind G6 λenv he s1 x=>?_));subst he;refine⟨(e0.mod.nolimit.keeps λb o e=>(e0.bs b o e).1).keeps x.toInCall.keep,codeAny_func ?_⟩;obtain⟨t,ht,hq⟩:=GU A outer s H vs Q E (hr.deeper _) nG;have I:Inv (jY CX P w K mg base N qual scope f fj A outer s H E) [] (start N vs) H s1:=uP S hr.hd e0 (len _ _ _ _ nG) r x;refine wpAny_mono (ht s1 (start N vs) H _ I hq) (λfl s' hs=>?_) λe s' hs=>hs
 have fin:∀{σ':St} {H':Hp} {v:V} {u:Value},Inv (jY CX P w K mg base N qual scope f fj A outer s H E) [] σ' H' s'->RelV v u->Q v H'->CE outer P w H s Q u s':=
  λ {σ' H' v u} J rv q=>⟨v,H',J.os,J.bare,J.base,J.hok,rv,q⟩
 cases fl with
 | ret u=>obtain⟨v,σ',H',J,rv,q⟩:=hs;exact fin J rv q
 | next=>obtain⟨σ',H',J,q⟩:=hs;exact fin (v:=V.bb) (u:=Value.none) J rfl q
 | brk=>obtain⟨_,_,_,q⟩:=hs;exact q.elim
 | cont=>obtain⟨_,_,_,q⟩:=hs;exact q.elim
end L2
end
section
namespace Rx
open PySem PySem.W PySem.Spec PyProof.Rows L2 PySem.SeqAt
noncomputable def FC (K:Frag) (mg:Str->Option Value) (C:Addr) (ts:List (Str×Bool)):Prop:=excIn K C CP "ValueError.__new__"=true/\vO K C/\
 ∀t b,ts.lookup t=some b->∃c,(mg t=some c/\(∃D,c= .ref D)\/mg t=none/\t="ValueError"/\c= .type "ValueError")/\kitOne K (.ref C) c=some b/\(b=true->exmOne K (.ref C) c=some true)
structure HX (g:G) (xv:Nat->Value) (CX:jt) (k:Nat) (F:FT) (Φ:Fm) (X:Cx):Prop where
 K:Φ.K=X.K
 P:Φ.P=X.prog
 w:Φ.w=X.w
 fx:∃n,FX g xv CX X.prog X.w X.K X.mg X.base n k F
 room:gP k X.A
 cx:CX=nE X.prog X.w
 st:eR X
 xgx:∀e s',iI X (jQ Φ xv) e s'->X.xe e s'
 xk:∀k x ts,g.xs[k]?=some (x,ts)->∃C,xv k= .ref C/\X.mg x=some (.ref C)/\FC X.K X.mg C ts
theorem HX.pass {g:G} {xv:Nat->Value} {CX:jt} {k:Nat} {F:FT} {Φ:Fm} {X:Cx} (h:HX g xv CX k F Φ X):qb CX X (jQ Φ xv):=λpins σ H s e s' I c=>by have hc:=h.cx;subst hc;exact h.xgx e s' (zd I h.st.pn c)
theorem bt {X:Cx} {e:Expr} {t t':TE} (h:PE X e t) (hi:∀σ H Q,t' σ H Q->t σ H Q):PE X e t':=λpins s σ H Q I q=>h pins s σ H Q I (hi σ H Q q)
theorem rf {X:Cx} {e:Expr} {t t':TT} (h:PT X e t) (hi:∀σ H Q,t' σ H Q->t σ H Q):PT X e t':=λpins s σ H Q I q=>h pins s σ H Q I (hi σ H Q q)
theorem yv {X:Cx} {e:Expr} {t t':TT} (h:PW X e t) (hi:∀σ H Q,t' σ H Q->t σ H Q):PW X e t':=λwh pins s σ H Q I q=>h wh pins s σ H Q I (hi σ H Q q)
theorem x4 {X:Cx} {e:List Expr} {t t':TA} (h:PA X e t) (hi:∀σ H Q,t' σ H Q->t σ H Q):PA X e t':=λpos pins s σ H Q I q=>h pos pins s σ H Q I (hi σ H Q q)
theorem qY {X:Cx} {tg e:Expr} {t t':TI} (h:PI X tg e t) (hi:∀σ H Q,t' σ H Q->t σ H Q):PI X tg e t':=λpins s σ H Q I q=>h pins s σ H Q I (hi σ H Q q)
section
variable {Φ:Fm} {Γ:Gm} {F:FT} {fr:Nat->Bool} {o:Ow} {ρ:aj} {S:Sx} {σ:L2.St} {H H':Hp}
theorem EO.sc {c:C} {d:Dt} (h:nK d=true):EO Φ.K fr o c H d (p9 d) H:=⟨aU.refl,pz h,λ_=>pz h,λ_=>(pz h).one,λ_ ds e=>by subst e;simp[nK] at h⟩
theorem EO.uH {c:C} {d:Dt} {v:V} {H1:Hp} (e:aU o.d H H1) (h:EO Φ.K fr o c H1 d v H') (hf:fresh fr c=true->∀ds,d= .lst ds->∀a,H1 a=none->H a=none):EO Φ.K fr o c H d v H':=
 ⟨e.trans h.ext,h.val,h.dc,h.nL,λf ds ed=>by
  obtain⟨a,xs,h1,h2,h3⟩:=h.ec f ds ed;exact⟨a,xs,h1,hf f ds ed a h2,h3⟩⟩
theorem wK {X:Addr->Prop} {H1:Hp} (e:aU X H H1) (hx:∀b,X b->∃y,H1 b=some y) {a:Addr} (h:H1 a=none):H a=none:=by
 cases q:H a with
 | none=>rfl
 | some x=>obtain⟨y,z⟩:=e.al q (hx a);rw[h] at z;cases z
theorem ER.d4 {S1:Sx} {H1:Hp} (aB:ER Φ Γ o ρ S1 σ H1) (e:aU o.d H H1) {a:Addr} (h:H1 a=none):H a=none:=wK e (λb z=>aB.al b (aB.da b z)) h
theorem EO.keep {c:C} {d:Dt} {v:V} {H1 H2:Hp} (h:EO Φ.K fr o c H d v H1) (e:aU o.d H1 H2) (wa:∀b,o.wd b->o.A b):RV Φ.K o.wd H2 v d/\(lk c=0->RV Φ.K o.A H2 v d)/\(lk c<=1->fh Φ.K o.A H2 v d):=by
 have hd:∀b,o.d b->o.wd b:=λb z=> .inr z
 refine⟨h.val.mono e hd λ_ z=>z,λl=>(h.dc l).mono e (λb z=>wa b (hd b z)) λ_ z=>z,λl=>?_⟩;refine(h.nL l).ext e (λb z=>wa b (hd b z)) λds a ed ev z=>?_
 subst ed ev;obtain⟨b,xs,q,_,n,_⟩:=h.val.lst_inv;cases q;exact n (.inr z)
theorem EO.pr {c:C} {xs:List V} {ds:List Dt} {d:Dt} {v:V} {H1 H2:Hp} {S1:Sx} {f:Bool} (aB:ER Φ Γ o ρ S1 σ H1) (e:aU o.d H H1) (hv:ao Φ.K o.wd H1 xs ds) (h1:lk c<=1->l0 Φ.K o.A H1 xs ds) (hl:lk c=0\/lk c=2)
  (pr:PR Φ.K f xs ds H1 d v H2) (hf:fresh fr c=true->f=true):EO Φ.K fr o c H d v H2/\ER Φ Γ o ρ S1 σ H2:=by
 have q0:lk c=0->RV Φ.K o.A H2 v d:=λl=>pr.val o.A aB.al (h1 (by lia))
 refine⟨⟨e.trans (aU.of_same pr.same),pr.val o.wd aB.vR hv.ones,q0,λl=>(q0 (by lia)).one,λfc es ed=>?_⟩,aB.grow pr.same⟩;obtain⟨a,ys,k1,k2,k3,k4⟩:=pr.ec (hf fc) es ed;exact⟨a,ys,k1,aB.d4 e k2,k3,k4 o.wd aB.vR hv.ones,λl=>k4 o.A aB.al (h1 (by lia))⟩
theorem iq {A:Addr->Prop} {K:Frag} {v:V} {d:Dt} (h:RV K A H v d):RV K N0 H v d:=h.weak λ_ z=>z.elim
theorem DU {A:Addr->Prop} {K:Frag} {v:List V} {d:List Dt} (h:ao K A H v d):ao K N0 H v d:=h.weak λ_ z=>z.elim
end
section
variable {X:Cx} {Φ:Fm} {Γ:Gm} {F:FT} {fr:Nat->Bool} {g:G}
theorem pA {e:Expr} {d:Dt} (hd:nK d=true) (h:PE X e (tC (p9 d))):PE X e (bN Φ Γ F fr (.con d)):=bt h λσ H Q q=>by obtain⟨o,ρ,S,er,q⟩:=q;exact q _ _ (EO.sc hd) er
theorem mB {Ek:Nat->Prop} {ρ:aj} {i:Nat} {P:Dt->Prop} (h:mR Ek (dG ρ i) P):∃d,ρ[i]?=some (some d)/\P d:=by
 unfold dG at h;split at h
 ·exact⟨_,by assumption,h⟩
 ·exact h.elim
theorem Iv {e:Expr} {i:Nat} (h:PE X e (jq i)) (hm:eV Γ i=false):PE X e (bN Φ Γ F fr (.var i)):=bt h λσ H Q q=>by obtain⟨o,ρ,S,er,q⟩:=q;unfold ev at q;rw[ae] at q;obtain⟨d,hd,q⟩:=mB q;obtain⟨v,h1,h2⟩:=er.val i d hd;rw[hm,if_neg (by simp)] at h2;exact⟨v,h1,q v H ⟨aU.refl,h2.weak er.gK,λ_=>h2,λ_=>h2.one,λz=>by simp[fresh] at z⟩ er⟩
theorem Im {e:Expr} {i:Nat} (h:PE X e (jq i)) (hm:eV Γ i=true) (hκ:Γ.κ≠some i):PE X e (bN Φ Γ F fr (.mvr i)):=bt h λσ H Q q=>by obtain⟨o,ρ,S,er,q⟩:=q;unfold ev at q;rw[ae] at q;obtain⟨d,hd,q⟩:=mB q;obtain⟨v,h1,h2⟩:=er.val i d hd;rw[hm,if_pos rfl] at h2;exact⟨v,h1,q v H ⟨aU.refl,h2.val (er.nd hd hκ) er.wa er.da,λz=>by simp[lk] at z,λ_=>h2.one (er.nd hd hκ),λz=>by simp[fresh] at z⟩ er⟩
theorem jJ {Ek:Nat->Prop} {r:R Dt} {P:Dt->Prop} (pZ:∀k,r≠ .ex k) (h:mR Ek r P):∃d,r= .ok d/\P d:=by
 cases r with
 | ok a=>exact⟨a,rfl,h⟩
 | ex k=>exact absurd rfl (pZ k)
 | bad=>exact h.elim
theorem cY {b:Bool} {α:Type} {r:R α} (h:∀k,r≠ .ex k):∀k,ag b r≠ .ex k:=by
 intro k;cases b
 ·intro z;cases z
 ·exact h k
theorem D4 (o:Operator) (d e:Dt):∀k,p8 o d e≠ .ex k:=by intro k;unfold p8;split <;> first | (intro z;cases z;done) | (split <;> first | (intro z;cases z;done) | (exact cY (λk z=>by cases z) k))
theorem se (o:CmpOp) (d e:Dt):∀k,de o d e≠ .ex k:=by intro k;unfold de;split <;> first | (intro z;cases z;done) | (exact cY (λk z=>by cases z) k)
theorem qe (ds:List Dt) (i:Int):∀k,uv ds i≠ .ex k:=by intro k;unfold uv;split <;> (intro z;cases z)
theorem AE (d e:Dt):∀k,cc d e≠ .ex k:=by
 intro k;unfold cc;split
 ·exact qe _ _ k
 ·exact qe _ _ k
 ·exact qe _ _ k
 ·exact cY (λk=>by split <;> (intro z;cases z)) k
 ·intro z;cases z
theorem Bw (d:Dt) (lo hi:Option Int):∀k,i8 d lo hi≠ .ex k:=by intro k;unfold i8;split <;> first | (intro z;cases z;done) | (exact cY (λk z=>by cases z) k)
theorem BD (d:Dt):∀k,dy d≠ .ex k:=by intro k;unfold dy;split <;> first | (intro z;cases z;done) | (exact cY (λk z=>by cases z) k)
theorem ik {Ek:Nat->Prop} {r:R Bool} {P:Bool->Prop} (pZ:∀k,r≠ .ex k) (h:mR Ek r P):∃d,r= .ok d/\P d:=by
 cases r with
 | ok a=>exact⟨a,rfl,h⟩
 | ex k=>exact absurd rfl (pZ k)
 | bad=>exact h.elim
theorem qN {op:Operator} {a b:C}:(lk (.bin op a b)=0\/lk (.bin op a b)=2)/\(lk (.bin op a b)<=1->lk a<=1/\lk b<=1):=by
 have e:lk (.bin op a b)=if lk a<=1/\lk b<=1 then 0 else 2:=by rw[lk]
 rw[e];split
 ·rename_i h;exact⟨.inl rfl,λ_=>h⟩
 ·exact⟨.inr rfl,λz=>by lia⟩
theorem Ig {a b:Expr} {a' b':C} {op:Operator} {pos:Pos} (hK:Φ.K=X.K) (ha:PE X a (bN Φ Γ F fr a')) (hb:PE X b (bN Φ Γ F fr b')):PE X (.BinOp a op b pos) (bN Φ Γ F fr (.bin op a' b')):=bt (Cc (D6 op) ha hb) λσ H Q q=>by
 obtain⟨o,ρ,S,er,q⟩:=q;unfold ev at q;rw[ae] at q;refine⟨o,ρ,S,er,ah q λp _ q x H1 bg aB=>?_⟩;rw[ae] at q;refine⟨o,ρ,p.2,aB,ah q λp2 _ q y H2 eo2 fk=>?_⟩;rw[ae] at q;obtain⟨z,hz,q⟩:=jJ (D4 _ _ _) q;obtain⟨k1,k2,k3⟩:=bg.keep eo2.ext er.gK;refine⟨p.1,p2.1,z,hK▸iq k1,hK▸iq eo2.val,hz,λv H3 pr=>?_⟩;rw[<-hK] at pr;obtain⟨e1,e2⟩:=EO.pr (fr:=fr) (H:=H) (c:= .bin op a' b') fk (bg.ext.trans eo2.ext) (ao.cons k1 (ao.cons eo2.val ao.nil)) (λl=>⟨k3 (qN.2 l).1,eo2.nL (qN.2 l).2,trivial⟩) qN.1 pr λ_=>rfl
 exact q v H3 e1 e2
theorem Ih {a b:Expr} {a' b':C} {op:CmpOp} {pos:Pos} (hK:Φ.K=X.K) (hu:X.A.units + 150 < cLine) (hm:behindInMarks op b=false) (ha:PE X a (bN Φ Γ F fr a')) (hb:PE X b (bN Φ Γ F fr b')):PE X (.Compare a [op] [b] pos) (bN Φ Γ F fr (.cmp op a' b')):=bt (tF (qV op hu) ha hb hm) λσ H Q q=>by obtain⟨o,ρ,S,er,q⟩:=q;unfold ev at q;rw[ae] at q;refine⟨o,ρ,S,er,ah q λp _ q x H1 bg aB=>?_⟩;rw[ae] at q;refine⟨o,ρ,p.2,aB,ah q λp2 _ q y H2 eo2 fk=>?_⟩;rw[ae] at q;obtain⟨z,hz,q⟩:=ik (se _ _ _) q;obtain⟨k1,k2,k3⟩:=bg.keep eo2.ext er.gK;refine⟨p.1,p2.1,z,hK▸iq k1,hK▸iq eo2.val,hz,q _ _ ?_ fk⟩;have:=EO.sc (Φ:=Φ) (fr:=fr) (o:=o) (H:=H2) (c:= .cmp op a' b') (d:= .bl z) rfl;exact this.uH (bg.ext.trans eo2.ext) λf=>by simp[fresh] at f
theorem EJ {a b:Expr} {a' b':C} {op:CmpOp} {pos:Pos} (hK:Φ.K=X.K) (hu:X.A.units + 150 < cLine) (hm:behindInMarks op b=false) (ha:PE X a (bN Φ Γ F fr a')) (hb:PE X b (bN Φ Γ F fr b')):PT X (.Compare a [op] [b] pos) (eJ Φ Γ F (.cmp op a' b')):=rf (Bl (qV op hu) ha hb hm) λσ H Q q=>by obtain⟨o,ρ,S,er,q⟩:=q;unfold cX at q;rw[ae] at q;refine⟨o,ρ,S,er,ah q λp _ q x H1 bg aB=>?_⟩;rw[ae] at q;refine⟨o,ρ,p.2,aB,ah q λp2 _ q y H2 eo2 fk=>?_⟩;rw[ae] at q;obtain⟨z,hz,q⟩:=ik (se _ _ _) q;obtain⟨k1,k2,k3⟩:=bg.keep eo2.ext er.gK;exact⟨p.1,p2.1,z,hK▸iq k1,hK▸iq eo2.val,hz,z,rfl,q _ (bg.ext.trans eo2.ext) fk⟩
end
section
variable {X:Cx} {Φ:Fm} {Γ:Gm} {F:FT} {fr:Nat->Bool} {g:G}
theorem ao.emp {K:Frag} {A:Addr->Prop} {H:Hp} {xs:List V} {ds:List Dt} (h:ao K A H xs ds):ds.isEmpty=xs.isEmpty:=by
 have:=h.length;cases xs with
 | nil=>cases ds with
  | nil=>rfl
  | cons=>simp at this
 | cons=>cases ds with
  | nil=>simp at this
  | cons=>rfl
theorem Io {a:Expr} {a':C} {pos:Pos} (ha:PE X a (bN Φ Γ F fr a')):PE X (.UnaryOp .USub a pos) (bN Φ Γ F fr (.neg a')):=bt (HQ Fb ha) λσ H Q q=>by
 obtain⟨o,ρ,S,er,q⟩:=q;unfold ev at q;rw[ae] at q;refine⟨o,ρ,S,er,ah q λp _ q x H1 bg aB=>?_⟩;split at q
 ·rename_i i hi;have:=bg.val;rw[hi] at this;refine⟨i,this.int_inv,q _ _ ?_ aB⟩;exact(EO.sc (Φ:=Φ) (fr:=fr) (o:=o) (H:=H1) (c:= .neg a') (d:= .int (-i)) rfl).uH bg.ext λf=>by simp[fresh] at f
 ·exact q.elim
theorem Mc {a:Expr} {a':C} {pos:Pos} (ha:PE X a (bN Φ Γ F fr a')):PE X (.UnaryOp .Not a pos) (bN Φ Γ F fr (.nt a')):=bt (yg ha) λσ H Q q=>by
 obtain⟨o,ρ,S,er,q⟩:=q;unfold ev at q;rw[ae] at q;refine⟨o,ρ,S,er,ah q λp _ q x H1 bg aB=>?_⟩;split at q
 ·rename_i i hi;have:=bg.val;rw[hi] at this;refine⟨i,this.ay,q _ _ ?_ aB⟩;exact(EO.sc (Φ:=Φ) (fr:=fr) (o:=o) (H:=H1) (c:= .nt a') (d:= .bl (!i)) rfl).uH bg.ext λf=>by simp[fresh] at f
 ·exact q.elim
theorem Iq {a:Expr} {a':C} {pos:Pos} (ha:PT X a (eJ Φ Γ F a')):PT X (.UnaryOp .Not a pos) (eJ Φ Γ F (.nt a')):=rf (Ew ha) λσ H Q q=>by obtain⟨o,ρ,S,er,q⟩:=q;unfold cX at q;rw[ae] at q;exact⟨o,ρ,S,er,ah q λp _ q H1 e1 aB=>q _ e1 aB⟩
theorem Ie {a b:Expr} {rest:List Expr} {a' b':C} {pos:Pos} (ha:PE X a (bN Φ Γ F fr a')) (hb:PE X (.BoolOp .And (b::rest) pos) (bN Φ Γ F fr b')):PE X (.BoolOp .And (a::b::rest) pos) (bN Φ Γ F fr (.and a' b')):=bt (yc ha hb) λσ H Q q=>by
 obtain⟨o,ρ,S,er,q⟩:=q;unfold ev at q;rw[ae] at q;refine⟨o,ρ,S,er,ah q λp _ q x H1 bg aB=>?_⟩;have sc:∀(H3:Hp) (t:Bool),aU o.d H H3->EO Φ.K fr o (.and a' b') H (.bl t) (.bl t) H3:=λH3 t e3=>
  (EO.sc (Φ:=Φ) (fr:=fr) (o:=o) (H:=H3) (c:= .and a' b') (d:= .bl t) rfl).uH e3 λf=>by simp[fresh] at f
 split at q
 ·rename_i hi;have:=bg.val;rw[hi] at this;refine⟨true,this.ay,?_⟩;rw[ae] at q;refine⟨o,ρ,p.2,aB,ah q λp2 _ q y H2 eo2 fk=>?_⟩;split at q
  ·rename_i c hc;have h2:=eo2.val;rw[hc] at h2;rw[h2.ay];exact q _ _ (sc H2 c (bg.ext.trans eo2.ext)) fk
  ·exact q.elim
 ·rename_i hi;have:=bg.val;rw[hi] at this;exact⟨false,this.ay,q _ _ (sc H1 false bg.ext) aB⟩
 ·exact q.elim
theorem Md {a b:Expr} {rest:List Expr} {a' b':C} {pos:Pos} (ha:PE X a (bN Φ Γ F fr a')) (hb:PE X (.BoolOp .Or (b::rest) pos) (bN Φ Γ F fr b')):PE X (.BoolOp .Or (a::b::rest) pos) (bN Φ Γ F fr (.or a' b')):=bt (Cd ha hb) λσ H Q q=>by
 obtain⟨o,ρ,S,er,q⟩:=q;unfold ev at q;rw[ae] at q;refine⟨o,ρ,S,er,ah q λp _ q x H1 bg aB=>?_⟩;have sc:∀(H3:Hp) (t:Bool),aU o.d H H3->EO Φ.K fr o (.or a' b') H (.bl t) (.bl t) H3:=λH3 t e3=>
  (EO.sc (Φ:=Φ) (fr:=fr) (o:=o) (H:=H3) (c:= .or a' b') (d:= .bl t) rfl).uH e3 λf=>by simp[fresh] at f
 split at q
 ·rename_i hi;have:=bg.val;rw[hi] at this;refine⟨false,this.ay,?_⟩;rw[ae] at q;refine⟨o,ρ,p.2,aB,ah q λp2 _ q y H2 eo2 fk=>?_⟩;split at q
  ·rename_i c hc;have h2:=eo2.val;rw[hc] at h2;rw[h2.ay];exact q _ _ (sc H2 c (bg.ext.trans eo2.ext)) fk
  ·exact q.elim
 ·rename_i hi;have:=bg.val;rw[hi] at this;exact⟨true,this.ay,q _ _ (sc H1 true bg.ext) aB⟩
 ·exact q.elim
theorem EI {a b:Expr} {rest:List Expr} {a' b':C} {pos:Pos} (ha:PT X a (eJ Φ Γ F a')) (hb:PW X (.BoolOp .And (b::rest) pos) (eJ Φ Γ F b')):PW X (.BoolOp .And (a::b::rest) pos) (eJ Φ Γ F (.and a' b')):=yv (Ex ha hb) λσ H Q q=>by
 obtain⟨o,ρ,S,er,q⟩:=q;unfold cX at q;rw[ae] at q;refine⟨o,ρ,S,er,ah q λp _ q H1 e1 aB=>?_⟩;cases hp:p.1 with
 | true=>rw[hp] at q;rw[if_pos rfl];exact⟨o,ρ,p.2,aB,ah q λp2 _ q H2 e2 fk=>q _ (e1.trans e2) fk⟩
 | false=>rw[hp] at q;rw[if_neg (by simp)];exact q _ e1 aB
theorem Ir {a b:Expr} {rest:List Expr} {a' b':C} {pos:Pos} (ha:PT X a (eJ Φ Γ F a')) (hb:PW X (.BoolOp .Or (b::rest) pos) (eJ Φ Γ F b')):PW X (.BoolOp .Or (a::b::rest) pos) (eJ Φ Γ F (.or a' b')):=yv (HW ha hb) λσ H Q q=>by
 obtain⟨o,ρ,S,er,q⟩:=q;unfold cX at q;rw[ae] at q;refine⟨o,ρ,S,er,ah q λp _ q H1 e1 aB=>?_⟩;cases hp:p.1 with
 | false=>rw[hp] at q;rw[if_neg (by simp)];exact⟨o,ρ,p.2,aB,ah q λp2 _ q H2 e2 fk=>q _ (e1.trans e2) fk⟩
 | true=>rw[hp] at q;rw[if_pos rfl];exact q _ e1 aB
theorem xQ {a b:C}:(lk (.idx a b)=0\/lk (.idx a b)=2)/\(lk (.idx a b)<=1->lk a<=1):=by
 have e:lk (.idx a b)=if lk a<=1 then 0 else 2:=by rw[lk]
 rw[e];split
 ·rename_i h;exact⟨.inl rfl,λ_=>h⟩
 ·exact⟨.inr rfl,λz=>by lia⟩
theorem Ij {a b:Expr} {a' b':C} {pos:Pos} (hK:Φ.K=X.K) (hs:lZ b) (ha:PE X a (bN Φ Γ F fr a')) (hb:PE X b (bN Φ Γ F fr b')):PE X (.Subscript a b pos) (bN Φ Γ F fr (.idx a' b')):=bt (HN Dz ha hb hs) λσ H Q q=>by
 obtain⟨o,ρ,S,er,q⟩:=q;unfold ev at q;rw[ae] at q;refine⟨o,ρ,S,er,ah q λp _ q x H1 bg aB=>?_⟩;rw[ae] at q;refine⟨o,ρ,p.2,aB,ah q λp2 _ q y H2 eo2 fk=>?_⟩;rw[ae] at q;obtain⟨z,hz,q⟩:=jJ (AE _ _) q;obtain⟨k1,k2,k3⟩:=bg.keep eo2.ext er.gK;refine⟨p.1,p2.1,z,hK▸iq k1,hK▸iq eo2.val,hz,λv pr=>?_⟩;rw[<-hK] at pr;have N3:∃i,p2.1= .int i:=by
  cases hd:p2.1 with
  | int i=>exact⟨i,rfl⟩
  | _=>rw[hd] at hz;unfold cc at hz;split at hz <;> first | (rename_i h;cases h;done) | (cases hz;done) | contradiction
 obtain⟨i,hi⟩:=N3;have v2:∀A:Addr->Prop,fh Φ.K A H2 y p2.1:=λA=>by have:=eo2.val;rw[hi] at this ⊢;rw[this.int_inv];exact(RV.dH (K:=Φ.K) (A:=A)).one
 obtain⟨e1,e2⟩:=EO.pr (fr:=fr) (H:=H) (c:= .idx a' b') fk (bg.ext.trans eo2.ext) (ao.cons k1 (ao.cons eo2.val ao.nil)) (λl=>⟨k3 (xQ.2 l),v2 _,trivial⟩) xQ.1 pr λz=>by simp[fresh] at z
 exact q v H2 e1 e2
theorem jL {a:Expr} {a':C} (hK:Φ.K=X.K) (ha:PE X a (bN Φ Γ F fr a')) (he:∀whole,isTrue a X.env whole=(do let v<-whole;standAt a.pos;holding [v] (truthy v)))
  (M3:∀ρ S,cX F a' ρ S=(ev F a' ρ S).bind λx=>(dy x.1).bind λb=> .ok (b,x.2)):PT X a (eJ Φ Γ F a'):=rf (yu ha he) λσ H Q q=>by
 obtain⟨o,ρ,S,er,q⟩:=q;rw[M3,ae] at q;refine⟨o,ρ,S,er,ah q λp _ q x H1 bg aB=>?_⟩;rw[ae] at q;obtain⟨b,hb,q⟩:=ik (BD _) q;refine⟨b,?_,q _ bg.ext aB⟩;have hv:=bg.val;rw[hK] at hv;unfold dy at hb;split at hb
 ·rename_i hd;rw[hd] at hv;cases hb;rw[hv.ax];rfl
 ·rename_i hd;rw[hd] at hv;cases hb;rw[hv.ay];rfl
 ·rename_i hd;rw[hd] at hv;cases hb;rw[hv.int_inv];rfl
 ·rename_i hd;rw[hd] at hv;obtain⟨g1,hb⟩:=a8 hb;cases hb;rw[hv.str_inv];exact⟨Qr (Qh g1) bV,rfl⟩
 ·rename_i hd;rw[hd] at hv;cases hb;obtain⟨a,xs,rfl,h1,_,h2⟩:=hv.lst_inv;refine .inl ⟨xs,dE.of h1,?_⟩;rw[h2.emp]
 ·rename_i hd;rw[hd] at hv;cases hb;obtain⟨a,xs,rfl,h1,h2⟩:=hv.af;refine .inr (.inl ⟨xs,eh.of h1,?_⟩);rw[h2.emp]
 ·rename_i hd;rw[hd] at hv;cases hb;obtain⟨a,rfl,h1⟩:=hv.i7;refine .inl ⟨_,h1,?_⟩;simp
 ·cases hb
end
section
variable {X:Cx} {Φ:Fm} {Γ:Gm} {F:FT} {fr:Nat->Bool} {g:G}
theorem DK {a b:C} {c:C} (hc:lk c=if lk a<=1 then 0 else 2):(lk c=0\/lk c=2)/\(lk c<=1->lk a<=1):=by
 rw[hc];split
 ·rename_i h;exact⟨.inl rfl,λ_=>h⟩
 ·exact⟨.inr rfl,λz=>by lia⟩
theorem sC {o:Ow} {ρ:aj} {S:Sx} {σ:L2.St} {H H1 H2:Hp} {a' c:C} {d:Dt} {x:V} {lo hi:Option Int} {Q:VK} (hK:Φ.K=X.K) (hc:lk c=if lk a'<=1 then 0 else 2) (hf:fresh fr c=true->True) (er:ER Φ Γ o ρ S σ H2) (bg:EO Φ.K fr o a' H d x H1) (e:aU o.d H1 H2)
  (q:mR Φ.Ek (i8 d lo hi) λz=>∀v H3,EO Φ.K fr o c H z v H3->ER Φ Γ o ρ S σ H3->Q v H3):rS X.K x lo hi H2 Q:=by
 obtain⟨z,hz,q⟩:=jJ (Bw _ _ _) q;obtain⟨k1,k2,k3⟩:=bg.keep e er.gK;refine⟨d,z,hK▸iq k1,hz,λv H3 pr=>?_⟩;rw[<-hK] at pr;have hl:=DK (b:=c) hc;obtain⟨e1,e2⟩:=EO.pr (fr:=fr) (H:=H) (c:=c) er (bg.ext.trans e) (ao.cons k1 ao.nil) (λl=>⟨k3 (hl.2 l),trivial⟩) hl.1 pr λ_=>rfl
 exact q v H3 e1 e2
theorem EN {a l:Expr} {a' l':C} {p2 pos:Pos} (hK:Φ.K=X.K) (ha:PE X a (bN Φ Γ F fr a')) (hl:PE X l (bN Φ Γ F fr l')):PE X (.Subscript a (.Slice (some l) none none p2) pos) (bN Φ Γ F fr (.sliL a' l')):=bt (pd yH ha (tJ hl) tI) λσ H Q q=>by
 obtain⟨o,ρ,S,er,q⟩:=q;unfold ev at q;rw[ae] at q;refine⟨o,ρ,S,er,ah q λp _ q x H1 bg aB=>?_⟩;rw[ae] at q;refine⟨o,ρ,p.2,aB,ah q λp2 _ q y H2 eo2 fk=>?_⟩;split at q
 ·rename_i i hi;have hv:=eo2.val;rw[hi] at hv;refine⟨i,hv.int_inv,?_⟩;rw[ae] at q;exact sC hK (by rw[lk]) (λ_=>trivial) fk bg eo2.ext (ah q λz _ q v H3 e1 e2=>q v H3 e1 e2)
 ·exact q.elim
theorem EM {a l:Expr} {a' l':C} {p2 pos:Pos} (hK:Φ.K=X.K) (ha:PE X a (bN Φ Γ F fr a')) (hl:PE X l (bN Φ Γ F fr l')):PE X (.Subscript a (.Slice none (some l) none p2) pos) (bN Φ Γ F fr (.sliH a' l')):=bt (pd yH ha tI (tJ hl)) λσ H Q q=>by
 obtain⟨o,ρ,S,er,q⟩:=q;unfold ev at q;rw[ae] at q;refine⟨o,ρ,S,er,ah q λp _ q x H1 bg aB=>?_⟩;rw[ae] at q;refine⟨o,ρ,p.2,aB,ah q λp2 _ q y H2 eo2 fk=>?_⟩;split at q
 ·rename_i i hi;have hv:=eo2.val;rw[hi] at hv;refine⟨i,hv.int_inv,?_⟩;rw[ae] at q;exact sC hK (by rw[lk]) (λ_=>trivial) fk bg eo2.ext (ah q λz _ q v H3 e1 e2=>q v H3 e1 e2)
 ·exact q.elim
theorem Ip:PA X [] (ll Φ Γ F .nil):=x4 eI λσ H Q q=>by obtain⟨o,ρ,S,er,q⟩:=q;exact q _ _ ⟨aU.refl,ao.nil,λ_=>ao.nil,λ_=>trivial⟩ er
theorem EK {e:Expr} {es:List Expr} {c:C} {cs:Cs} (hs:starEach (e::es) X.env=(false,eval e X.env)::starEach es X.env) (h:PE X e (bN Φ Γ F fr c)) (hr:PA X es (ll Φ Γ F cs)):PA X (e::es) (ll Φ Γ F (.cons c cs)):=x4 (bI h hr hs) λσ H Q q=>by
 obtain⟨o,ρ,S,er,q⟩:=q;unfold gL at q;rw[ae] at q;refine⟨o,ρ,S,er,ah q λp _ q x H1 bg aB=>?_⟩;rw[ae] at q;refine⟨o,ρ,p.2,aB,ah q λp2 _ q xs H2 eo2 fk=>?_⟩;obtain⟨k1,k2,k3⟩:=bg.keep eo2.ext er.gK;have el:nJ (.cons c cs)=max (lk c) (nJ cs):=by rw[nJ]
 exact q _ _ ⟨bg.ext.trans eo2.ext,ao.cons k1 eo2.val,λl=>ao.cons (k2 (by lia)) (eo2.dc (by lia)),λl=>⟨k3 (by lia),eo2.nL (by lia)⟩⟩ fk
theorem B5 {cs:Cs} {c:C} (hc:lk c=if nJ cs=0 then 0 else 2):(lk c<=1->lk c=0)/\(lk c=0->nJ cs=0):=by
 rw[hc];split
 ·rename_i h;exact⟨λ_=>rfl,λ_=>h⟩
 ·exact⟨λz=>by lia,λz=>by lia⟩
theorem Iu {es:List Expr} {cs:Cs} {x1:Nat} {pos:Pos} (h:PA X es (ll Φ Γ F cs)):PE X (.Tuple es x1 pos) (bN Φ Γ F fr (.tup cs)):=bt (El h) λσ H Q q=>by
 obtain⟨o,ρ,S,er,q⟩:=q;unfold ev at q;rw[ae] at q;refine⟨o,ρ,S,er,ah q λp _ q xs H1 bg aB=>?_⟩;obtain⟨g1,q⟩:=aM q;refine⟨by rw[bg.val.length];exact Qr (Qh g1) bV,λa ha=>?_⟩;have s:=Mx.bX ha (.tup xs);have hl:=B5 (cs:=cs) (c:= .tup cs) (by rw[lk]);have q0:lk (.tup cs)=0->RV Φ.K o.A (upd H1 a (.tup xs)) (.ref a) (.tup p.1):=λl=>RV.dI aE ((bg.dc (hl.2 l)).same s)
 exact q _ _ ⟨bg.ext.trans (aU.of_same s),RV.dI aE (bg.val.same s),q0,λl=>(q0 (hl.1 l)).one,λz=>by simp[fresh] at z⟩ (aB.grow s)
theorem Il {es:List Expr} {cs:Cs} {pos:Pos} (h:PA X es (ll Φ Γ F cs)):PE X (.List es pos) (bN Φ Γ F fr (.lst cs)):=bt (yf h) λσ H Q q=>by
 obtain⟨o,ρ,S,er,q⟩:=q;unfold ev at q;rw[ae] at q;refine⟨o,ρ,S,er,ah q λp _ q xs H1 bg aB=>?_⟩;obtain⟨g1,q⟩:=aM q;refine⟨by rw[bg.val.length];exact Qr (Qh g1) bV,λa ha=>?_⟩;have s:=Mx.bX ha (.lst xs);have hl:=B5 (cs:=cs) (c:= .lst cs) (by rw[lk]);have na:¬o.A a:=λz=>by obtain⟨y,hy⟩:=aB.al a z;rw[ha] at hy;cases hy
 have q0:lk (.lst cs)=0->RV Φ.K o.A (upd H1 a (.lst xs)) (.ref a) (.lst p.1):=λl=>RV.dm aE na ((bg.dc (hl.2 l)).same s)
 refine q _ _ ⟨bg.ext.trans (aU.of_same s),RV.dm aE (λz=>na (aB.gK a z)) (bg.val.same s),q0,λl=>(q0 (hl.1 l)).one,λ_ ds e=>?_⟩ (aB.grow s);cases e;exact⟨a,xs,rfl,aB.d4 bg.ext ha,aE,(bg.val.avoid ha).same s,λl=>((bg.dc (hl.2 l)).avoid ha).same s⟩
theorem CK (b:BI) (ds:List Dt):∀k,ei b ds≠ .ex k:=by
 intro k;unfold ei;split <;> split
 all_goals first
  | (intro z;cases z;done)
  | (exact cY (λk z=>by cases z) k)
  | (split <;> first | (intro z;cases z;done) | (exact cY (λk z=>by cases z) k) | (split <;> first | (intro z;cases z;done) | (exact cY (λk z=>by cases z) k)))
  | (rename_i T d;unfold uQ;split <;> (intro z;cases z))
theorem B6 {b:BI} {cs:Cs}:(lk (.bi b cs)=0\/lk (.bi b cs)=2)/\(lk (.bi b cs)<=1->nJ cs<=1):=by
 have e:lk (.bi b cs)=if nJ cs<=1 then 0 else 2:=by rw[lk]
 rw[e];split
 ·rename_i h;exact⟨.inl rfl,λ_=>h⟩
 ·exact⟨.inr rfl,λz=>by lia⟩
theorem wN {b:BI} {cs:Cs} {σ:L2.St} {H:Hp} {Q:VK} (hK:Φ.K=X.K) (q:bN Φ Γ F fr (.bi b cs) σ H Q):Mj (rP X.K true (ei b)) (ll Φ Γ F cs) σ H Q:=by
 obtain⟨o,ρ,S,er,q⟩:=q;unfold ev at q;rw[ae] at q;refine⟨o,ρ,S,er,ah q λp _ q xs H1 bg aB=>?_⟩;rw[ae] at q;obtain⟨z,hz,q⟩:=jJ (CK _ _) q;refine⟨p.1,z,hK▸DU bg.val,hz,λv H3 pr=>?_⟩;rw[<-hK] at pr;obtain⟨e1,e2⟩:=EO.pr (fr:=fr) (H:=H) (c:= .bi b cs) aB bg.ext bg.val (λl=>bg.nL (B6.2 l)) B6.1 pr λ_=>rfl
 exact q v H3 e1 e2
end
noncomputable def Cs.len:Cs->Nat
 | .nil=>0
 | .cons _ cs=>cs.len + 1
theorem su {F:FT}:∀{cs:Cs} {ρ:aj} {S:Sx} {p:List Dt×Sx},gL F cs ρ S= .ok p->p.1.length=cs.len
 | .nil,ρ,S,p,h=>by unfold gL at h;cases h;rfl
 | .cons c cs,ρ,S,p,h=>by
  unfold gL at h;cases h1:ev F c ρ S with
  | ok x=>
   rw[h1] at h;simp only[R.ai] at h;cases h2:gL F cs ρ x.2 with
   | ok y=>rw[h2] at h;cases h;simp[Cs.len,su h2]
   | ex k=>rw[h2] at h;cases h
   | bad=>rw[h2] at h;cases h
  | ex k=>rw[h1] at h;cases h
  | bad=>rw[h1] at h;cases h
section
variable {X:Cx} {Φ:Fm} {Γ:Gm} {F:FT} {g:G} {xv:Nat->Value} {CX:jt} {k:Nat}
theorem ow {H H':Hp} (e:aU (λb=>(none:Option Addr)=some b) H H'):bp H H':=λb o h=>e.kp b o h (by simp)
theorem rj {K:Frag} {A:Addr->Prop} {H:Hp}:∀{ds:List Dt},ds.all nK=true->ao K A H (ds.map p9) ds
 | [],_=>ao.nil
 | d::ds,h=>by rw[List.all_cons,Qf] at h;exact ao.cons (pz h.1) (rj h.2)
theorem s_call {x:Str} {f np j:Nat} {fy:List Dt} {e:Expr} {es:List Expr} {cs:Cs} {p pos:Pos} (hX:HX g xv CX k F Φ X) (hG:Gl X x) (oO:(x==("__debug__":Str))=false) (xt:qx x g.fns=some (f,np,fy,false)) (hj:j<=fy.length) (hn:cs.len + (fy.drop j).length=np)
  (hs:starEach (e::es) X.env=(false,eval e X.env)::starEach es X.env) (lJ:(backTo pos (starEach es X.env)).any (·.1)=false) (ha:PA X (e::es) (ll Φ Γ F cs)):PE X (.Call (.Name x p) (e::es) [] pos) (bN Φ Γ F g.fr (.call f cs (fy.drop j))):=by
 obtain⟨n,fx⟩:=hX.fx;obtain⟨fa,fd,ps,Az,hmg,OJ,hok,hb,OZ⟩:=fx.fn x f np fy false xt;obtain⟨uE,pX,On⟩:=hb j hj;refine bt (Ba hok hX.room hG hmg OJ On pX hX.pass ha oO hs lJ) λσ H Q q=>?_
 obtain⟨o,ρ,S,er,q⟩:=q;unfold ev at q;rw[ae] at q;refine⟨o,ρ,S,er,ah q λp hp q vs H1 bg aB=>?_⟩;have Nc:(fy.drop j).all nK=true:=QQ.mpr λd hd=>QQ.mp OZ d (List.mem_of_mem_drop hd)
 rw[ae] at q;have el:lk (.call f cs (fy.drop j))=if nJ cs=0 then 0 else 2:=by rw[lk]
 refine⟨?_,?_⟩
 ·rw[Qw,bg.val.length,Qp,su hp];exact hn
 by_cases hl:nJ cs=0
 ·rw[if_pos hl] at el;refine⟨o.A,none,p.1++fy.drop j,none,vs++(fy.drop j).map p9,⟨rfl,rfl,rfl⟩,?_,aB.al,?_⟩
  ·rw[<-hX.K];exact(bg.dc hl).append (rj Nc)
  ·cases hr:F f (p.1++fy.drop j) none with
   | ok y=>rw[hr] at q;intro v H' fo;rw[<-hX.K] at fo;have sm:=ow fo.ext;refine q v H' ⟨bg.ext.trans (aU.of_same sm),fo.val.weak aB.gK,λ_=>fo.val,λ_=>fo.val.one,λfc ds ed=>?_⟩ (aB.grow sm);obtain⟨a,xs,h1,h2,h3,h4⟩:=fo.ec fc ds ed;exact⟨a,xs,h1,aB.d4 bg.ext h2,h3,h4.weak λb z=>z.elim (λz=> .inl (aB.gK b z)) .inr,λ_=>h4⟩
   | ex kk=>rw[hr] at q;intro H' e';exact⟨kk,rfl,q,aB.ent.trans (e'.mono λb z=>by cases z)⟩
   | bad=>rw[hr] at q;exact q.elim
 ·rw[if_neg hl] at el;refine⟨o.wd,none,p.1++fy.drop j,none,vs++(fy.drop j).map p9,⟨rfl,rfl,rfl⟩,?_,aB.vR,?_⟩
  ·rw[<-hX.K];exact bg.val.append (rj Nc)
  ·cases hr:F f (p.1++fy.drop j) none with
   | ok y=>rw[hr] at q;intro v H' fo;rw[<-hX.K] at fo;have sm:=ow fo.ext;refine q v H' ⟨bg.ext.trans (aU.of_same sm),fo.val,λz=>by rw[el] at z;lia,λz=>by rw[el] at z;lia,λfc ds ed=>?_⟩ (aB.grow sm);obtain⟨a,xs,h1,h2,h3,h4⟩:=fo.ec fc ds ed;exact⟨a,xs,h1,aB.d4 bg.ext h2,h3,h4,λz=>by rw[el] at z;lia⟩
   | ex kk=>rw[hr] at q;intro H' e';exact⟨kk,rfl,q,aB.ent.trans (e'.mono λb z=>by cases z)⟩
   | bad=>rw[hr] at q;exact q.elim
theorem zX {t:Str} {T:String} (h:rJ t=some T):bootBuiltins t=some (.type T):=by
 unfold rJ at h;split at h
 ·rename_i e;cases h;rw[QD e];exact PyProof.Rows.boot_str
 split at h
 ·rename_i e;cases h;rw[QD e];exact PyProof.Rows.boot_int
 split at h
 ·rename_i e;cases h;rw[QD e];exact PyProof.Rows.boot_bool
 split at h
 ·rename_i e;cases h;rw[QD e];exact PyProof.Rows.boot_list
 split at h
 ·rename_i e;cases h;rw[QD e];exact PyProof.Rows.boot_tuple
 ·cases h
theorem BG {t:Str} {T:String} (h:rJ t=some T):T="str"\/T="int"\/T="bool"\/T="list"\/T="tuple":=by
 unfold rJ at h;split at h
 ·cases h;simp
 split at h
 ·cases h;simp
 split at h
 ·cases h;simp
 split at h
 ·cases h;simp
 split at h
 ·cases h;simp
 ·cases h
theorem Dx {K:Frag} {A:Addr->Prop} {H:Hp} {x:V} {d:Dt} {T:String} {b:Bool} (hT:T="str"\/T="int"\/T="bool"\/T="list"\/T="tuple") (hx:RV K A H x d) (h:uQ T d= .ok b):∃t,gR K H x t/\PySem.W.kitOne K t (.type T)=some b:=by
 unfold uQ at h;split at h
 ·cases h;rw[hx.str_inv];refine⟨_,.str _,?_⟩;rcases hT with rfl | rfl | rfl | rfl | rfl <;> rfl
 ·cases h;rw[hx.int_inv];refine⟨_,.int _,?_⟩;rcases hT with rfl | rfl | rfl | rfl | rfl <;> rfl
 ·cases h;rw[hx.ay];refine⟨_,.bl _,?_⟩;rcases hT with rfl | rfl | rfl | rfl | rfl <;> rfl
 ·cases h;obtain⟨a,xs,rfl,h1,_⟩:=hx.lst_inv;refine⟨_,.lst h1,?_⟩;rcases hT with rfl | rfl | rfl | rfl | rfl <;> rfl
 ·cases h;obtain⟨a,xs,rfl,h1,_⟩:=hx.af;refine⟨_,.tup h1,?_⟩;rcases hT with rfl | rfl | rfl | rfl | rfl <;> rfl
 ·cases h;rw[hx.ax];refine⟨_,.bb,?_⟩;rcases hT with rfl | rfl | rfl | rfl | rfl <;> rfl
 ·cases h
theorem AG (T:String) (d:Dt):∀k,uQ T d≠ .ex k:=by intro k;unfold uQ;split <;> (intro z;cases z)
theorem Ik {a:Expr} {a':C} {t:Str} {T:String} {p tp pos:Pos} (hK:Φ.K=X.K) (hG:Gl X "isinstance") (hm:X.mg "isinstance"=none) (Oa:Gl X t) (OO:X.mg t=none) (hT:rJ t=some T) (hn:t≠"__name__") (oO:(t==("__debug__":Str))=false)
  (hs:starEach (a::[.Name t tp]) X.env=(false,eval a X.env)::starEach [.Name t tp] X.env) (ha:PE X a (bN Φ Γ F g.fr a')):PE X (.Call (.Name "isinstance" p) [a,.Name t tp] [] pos) (bN Φ Γ F g.fr (.bi (.isi T) (.cons a' .nil))):=by
 refine bt (kC Mx.wo hG hm PyProof.Rows.boot_isinstance (bI ha (bI (tE (v:= .ty T) Oa OO (zX hT) rfl hn oO) eI) hs) (by decide) (by decide) hs) λσ H Q q=>?_
 obtain⟨o,ρ,S,er,q⟩:=q;unfold ev gL gL at q;rw[ae,ae] at q;refine⟨o,ρ,S,er,ah q λp hp q x H1 bg aB=>?_⟩;simp only[R.ai] at q;have q:mR Φ.Ek ((ei (.isi T) [p.1]).bind λd=>R.ok (d,p.2)) _:=q;unfold ei at q;simp only at q;rw[ae,ae] at q;obtain⟨b,hb,q⟩:=ik (AG _ _) q;obtain⟨ty,k1,k2⟩:=Dx (BG hT) (hK▸bg.val) hb;refine⟨x,T,ty,b,rfl,k1,k2,q _ _ ?_ aB⟩;exact(EO.sc (Φ:=Φ) (fr:=g.fr) (o:=o) (H:=H1) (c:= .bi (.isi T) (.cons a' .nil)) (d:= .bl b) rfl).uH bg.ext λf=>by simp[fresh] at f
end
noncomputable def Lj (K:Frag) (tl:TE):TI:=λσ H R=>tl σ H λx H1=>(∃a xs,x= .ref a/\dE K H1 a xs/\R (Jj K a) H1)\/(∃a xs,x= .ref a/\eh K H1 a xs/\R (JY K a) H1)
theorem Eo {X:Cx} {tg l:Expr} {tl:TE} (hl:PE X l tl):PI X tg l (Lj X.K tl):=by
 intro pins s σ H R I h;refine bO (hl pins s σ H _ I h) λv s1 ⟨x,H1,I1,r1,q1⟩=>?_
 rcases q1 with ⟨a,xs,e,hq,q⟩ | ⟨a,xs,e,hq,q⟩
 ·subst e;cases r1;obtain⟨its,rv,p,hz⟩:=I1.list hq;refine wpAny_pyIter_list p.isList ?_;refine⟨s1.heap.objs.size,[s1.heap.objs.size],_,_,H1,rfl,I1.kept (t':=s1.toks) λb o e=>Qd _ e,vq a _,⟨_,Qn _ rfl,rfl,rfl⟩,λb hb=>?_,q⟩;have e:b=s1.heap.objs.size:=by simpa using hb
  subst e;exact I1.uI (Ql _) (I1.hok.fresh (Ql _))
 ·subst e;cases r1;obtain⟨its,rv,p,hz⟩:=I1.tuple hq;refine wpAny_pyIter_tuple (show s1.heap.IsTuple a its.toArray from p) ?_;refine⟨s1.heap.objs.size,[s1.heap.objs.size],_,_,H1,rfl,I1.kept (t':=s1.toks) λb o e=>Qd _ e,rH a _,⟨_,Qn _ rfl,rfl,rfl⟩,λb hb=>?_,q⟩;have e:b=s1.heap.objs.size:=by simpa using hb
  subst e;exact I1.uI (Ql _) (I1.hok.fresh (Ql _))
section
variable {X:Cx} {Φ:Fm} {Γ:Gm} {F:FT} {g:G} {xv:Nat->Value} {CX:jt} {k:Nat} {K:Frag}
theorem um {A Y:Addr->Prop} {a:Addr} {xs:List V} {ds:List Dt} {H:Hp} (ha:H a=some (.lst xs)) (hn:¬Y a) (hY:∀b,Y b->A b) (h:ao K A H xs ds):Wk K A Y (Jj K a) H ds where
 go:=λi H1 hi e=>⟨xs,xs[i]'(by rw[h.length];exact hi),dE.of (e.kp _ _ ha hn),by simp⟩
 stop:=λH1 e=>⟨xs,dE.of (e.kp _ _ ha hn),by rw[h.length];exact Ql _⟩
 yld:=λi x H1 H2 hi e y=>by obtain⟨rfl,y⟩:=y;obtain⟨d,h1,h2⟩:=h.get (y xs (dE.of (e.kp _ _ ha hn)));exact⟨bp.refl _,d,h1,λB hB=>(h2.b5 (B:=λb=>A b\/B b) λb z=>z.elim .inl (hB b)).mono e (λb z=> .inl (hY b z)) λ_ z=> .inr z⟩
theorem rM {A Y:Addr->Prop} {a:Addr} {xs:List V} {ds:List Dt} {H:Hp} (ha:H a=some (.tup xs)) (hY:∀b,Y b->A b) (h:ao K A H xs ds):Wk K A Y (JY K a) H ds where
 go:=λi H1 hi e=>⟨xs,xs[i]'(by rw[h.length];exact hi),eh.of (e.tp _ _ ha),by simp⟩
 stop:=λH1 e=>⟨xs,eh.of (e.tp _ _ ha),by rw[h.length];exact Ql _⟩
 yld:=λi x H1 H2 hi e y=>by obtain⟨rfl,y⟩:=y;obtain⟨d,h1,h2⟩:=h.get (y xs (eh.of (e.tp _ _ ha)));exact⟨bp.refl _,d,h1,λB hB=>(h2.b5 (B:=λb=>A b\/B b) λb z=>z.elim .inl (hB b)).mono e (λb z=> .inl (hY b z)) λ_ z=> .inr z⟩
theorem zb {A Y:Addr->Prop} {a:Addr} {ns:List Int} {H:Hp} (ha:(Rd H a (.lst (ns.map V.int))/\¬Y a)\/KL K a (ns.map V.int)):Wk K A Y (Jj K a) H (ns.map Dt.int):=by
 have sq:∀H1,aU Y H H1->dE K H1 a (ns.map V.int):=λH1 e=>by
  rcases ha with ⟨h,n⟩ | h
  ·exact .inl (yz e n h)
  ·exact .inr h
 refine⟨λi H1 hi e=>?_,λH1 e=>⟨_,sq H1 e,by simp⟩,λi x H1 H2 hi e y=>?_⟩
 ·rw[Qp] at hi;exact⟨_,.int ns[i],sq H1 e,by simp[hi]⟩
 ·obtain⟨rfl,y⟩:=y;have:=y _ (sq _ e);rw[Qz] at this;obtain⟨m,h1,rfl⟩:=Qv.mp this;exact⟨bp.refl _,.int m,by simp[h1],λ_ _=>RV.dH⟩
theorem rL {A Y:Addr->Prop} {lo:Int} {n:Nat} {H:Hp}:Wk K A Y (Jk lo n) H (a9 lo n) where
 go:=λi H1 hi e=>by unfold a9 at hi;simp at hi;exact hi
 stop:=λH1 e=>by unfold a9;simp only[Qp,List.length_range];exact Ql _
 yld:=λi x H1 H2 hi e y=>by obtain⟨rfl,rfl⟩:=y;unfold a9 at hi;simp at hi;exact⟨bp.refl _,.int (lo + i),by unfold a9;simp[hi],λ_ _=>RV.dH⟩
theorem yB {tg a:Expr} {a':C} (hK:Φ.K=X.K) (ha:PE X a (bN Φ Γ F g.fr a')):PI X tg a (rE Φ Γ F (.seq a')):=qY (Eo ha) λσ H Q q=>by
 obtain⟨o,ρ,S,er,q⟩:=q;unfold e9 at q;rw[ae] at q;refine⟨o,ρ,S,er,ah q λp he q x H1 bg aB=>?_⟩;have zx:uW (.seq a')=lk a':=rfl;cases hd:p.1 with
 | lst ds=>
  rw[hd] at q;have hv:=bg.val;have h0:=bg.dc;have h1:=bg.nL;rw[hd] at hv h0 h1;obtain⟨b,xs,rfl,f1,fn,f2⟩:=hv.lst_inv;refine .inl ⟨b,xs,rfl,dE.of f1,q _ _ ⟨bg.ext,λl=>?_,λl=>?_,λl=>by unfold iS at l;rw[he] at l;simp only[hd,iJ] at l;cases l⟩ aB⟩
  ·rw[<-hK];exact um f1 (λz=>fn (.inr z)) aB.da (fh.aN (h1 (by rw[zx] at l;exact l)) f1)
  ·rw[<-hK];have:=h0 (by rw[zx] at l;exact l);obtain⟨b',vv,e',g1,gn,g2⟩:=this.lst_inv;cases e';exact um g1 gn (λ_ z=>z) g2
 | tup ds=>
  rw[hd] at q;have hv:=bg.val;have h0:=bg.dc;have h1:=bg.nL;rw[hd] at hv h0 h1;obtain⟨b,xs,rfl,f1,f2⟩:=hv.af;refine .inr ⟨b,xs,rfl,eh.of f1,q _ _ ⟨bg.ext,λl=>?_,λl=>?_,λl=>?_⟩ aB⟩
  ·rw[<-hK];exact rM f1 aB.da (fh.au (h1 (by rw[zx] at l;exact l)) f1)
  ·rw[<-hK];exact rM f1 (λ_ z=>z) (fh.au (h0 (by rw[zx] at l;exact l)).one f1)
  ·rw[<-hK];unfold iS at l;rw[he] at l;simp only[hd] at l;exact rM f1 (λ_ z=>z) (fh.au (hv.iJ l:RV Φ.K o.A H1 (.ref b) (.tup ds)).one f1)
 | bc ns=>
  rw[hd] at q;have hv:=bg.val;have h0:=bg.dc;rw[hd] at hv h0;obtain⟨b,rfl,hb⟩:=hv.dD;have JC:dE X.K H1 b (ns.map V.int):=by
   rw[<-hK];rcases hb with hb | hb
   ·exact .inl hb.1
   ·exact .inr hb
  refine .inl ⟨b,_,rfl,JC,q _ _ ⟨bg.ext,λl=>?_,λl=>?_,λl=>by unfold iS at l;rw[he] at l;simp only[hd,iJ] at l;cases l⟩ aB⟩
  ·rw[<-hK];exact zb (hb.imp (λz=>⟨z.1,λw=>z.2 (.inr w)⟩) id)
  ·rw[<-hK];obtain⟨b',e',nF⟩:=(h0 (by rw[zx] at l;exact l)).dD;cases e';exact zb nF
 | _=>rw[hd] at q;exact q.elim
theorem EL {tg a:Expr} {a':C} {p pos:Pos} (hG:Gl X "range") (hm:X.mg "range"=none) (hs:starEach [a] X.env=[(false,eval a X.env)]) (ha:PE X a (bN Φ Γ F g.fr a')):PI X tg (.Call (.Name "range" p) [a] [] pos) (rE Φ Γ F (.rng1 a')):=
 qY (u6 hG hm (bI ha eI (by rw[hs];rfl)) hs) λσ H Q q=>by
 obtain⟨o,ρ,S,er,q⟩:=q;unfold e9 at q;rw[ae] at q;refine⟨o,ρ,S,er,ah q λp _ q x H1 bg aB=>?_⟩;cases hd:p.1 with
 | int j=>rw[hd] at q;obtain⟨g1,q⟩:=aM q;rw[Qf] at g1;have a1:=Qh g1.1;have a2:=Qh g1.2;have hl:lim=1000000:=rfl;have hv:=bg.val;rw[hd] at hv;exact⟨j,by rw[hv.int_inv],by lia,by lia,q _ _ ⟨bg.ext,λ_=>rL,λ_=>rL,λ_=>rL⟩ aB⟩
 | _=>rw[hd] at q;exact q.elim
theorem zc {A Y:Addr->Prop} {b1 b2:Bool} {l1 l2:Addr} {xs ys:List V} {ds es:List Dt} {H:Hp} (h1:H l1=some (Mx.p6 b1 xs)) (h2:H l2=some (Mx.p6 b2 ys)) (n1:b1=false->¬Y l1) (n2:b2=false->¬Y l2) (hY:∀b,Y b->A b) (g1:ao K A H xs ds) (g2:ao K A H ys es):Wk K A Y (Mx.JX b1 b2 l1 l2) H (iH ds es):=by
 have k1:∀H1,aU Y H H1->H1 l1=some (Mx.p6 b1 xs):=λH1 e=>by
  cases b1 with
  | false=>exact e.kp _ _ h1 (n1 rfl)
  | true=>exact e.tp _ _ h1
 have k2:∀H1,aU Y H H1->H1 l2=some (Mx.p6 b2 ys):=λH1 e=>by
  cases b2 with
  | false=>exact e.kp _ _ h2 (n2 rfl)
  | true=>exact e.tp _ _ h2
 have hz:(iH ds es).length=min xs.length ys.length:=by unfold iH;rw[List.length_zipWith,g1.length,g2.length]
 refine⟨λi H1 hi e=>?_,λH1 e=>?_,λi x H1 H2 hi e y=>?_⟩
 ·rw[hz] at hi;exact⟨xs,ys,xs[i]'(by lia),ys[i]'(by lia),k1 H1 e,k2 H1 e,by simp,by simp⟩
 ·exact⟨xs,ys,k1 H1 e,k2 H1 e,by lia⟩
 ·obtain⟨p,x1,y1,rfl,hp,rfl,q⟩:=y;obtain⟨q1,q2⟩:=q xs ys (k1 H1 e) (k2 H1 e);obtain⟨d,a1,a2⟩:=g1.get q1;obtain⟨c,c1,c2⟩:=g2.get q2;have s:=Mx.bX hp (.tup [x1,y1]);refine⟨s,.tup [d,c],by unfold iH;rw[List.getElem?_zipWith,a1,c1],λB hB=>RV.dI aE ?_⟩;have av:∀{v:V} {dd:Dt},RV K A H v dd->RV K B (upd H1 p (.tup [x1,y1])) v dd:=λh=>((h.b5 (B:=λb=>A b\/B b) λb z=>z.elim .inl (hB b)).mono e (λb z=> .inl (hY b z)) λ_ z=> .inr z).same s
  exact ao.cons (av a2) (ao.cons (av c2) ao.nil)
theorem d7 {A B:Addr->Prop} {H:Hp} {x:V} {d:Dt} {ds:List Dt} (h:cZ d=some ds) (hv:RV K A H x d) (h1:fh K B H x d):∃b l xs,x= .ref l/\H l=some (Mx.p6 b xs)/\(b=false->¬A l)/\ao K B H xs ds:=by
 unfold cZ at h;split at h
 ·cases h;obtain⟨a,xs,rfl,f1,fn,f2⟩:=hv.lst_inv;exact⟨false,a,xs,rfl,f1,λ_=>fn,fh.aN h1 f1⟩
 ·cases h;obtain⟨a,xs,rfl,f1,f2⟩:=hv.af;exact⟨true,a,xs,rfl,f1,λz=>(by cases z),fh.au h1 f1⟩
 ·cases h
theorem Iw {es:List Expr} {kk:Nat} {tp:Pos} {a b:Expr} {a' b':C} {p pos:Pos} (hK:Φ.K=X.K) (hG:Gl X "zip") (hm:X.mg "zip"=none) (hs:starEach [a,b] X.env=[(false,eval a X.env),(false,eval b X.env)]) (AA:starEach [b] X.env=[(false,eval b X.env)]) (ha:PE X a (bN Φ Γ F g.fr a')) (hb:PE X b (bN Φ Γ F g.fr b')):
  PI X (.Tuple es kk tp) (.Call (.Name "zip" p) [a,b] [] pos) (rE Φ Γ F (.zip a' b')):=
 qY (Mx.Bd hG hm (bI ha (bI hb eI (by rw[AA];rfl)) (by rw[hs,AA])) hs AA) λσ H Q q=>by
 obtain⟨o,ρ,S,er,q⟩:=q;unfold e9 at q;rw[ae] at q;refine⟨o,ρ,S,er,ah q λp _ q x H1 bg aB=>?_⟩;rw[ae] at q;refine⟨o,ρ,p.2,aB,ah q λp2 _ q y H2 eo2 fk=>?_⟩;have zx:uW (.zip a' b')=max (lk a') (lk b'):=rfl;split at q
 ·rename_i ds es e1 e2;obtain⟨k1,k2,k3⟩:=bg.keep eo2.ext er.gK;obtain⟨c1,l1,xs,rfl,f1,NT,f2⟩:=d7 e1 k1 k1.one;obtain⟨c2,l2,ys,rfl,g1,NW,g2⟩:=d7 e2 eo2.val eo2.val.one;refine⟨c1,c2,l1,l2,xs,ys,rfl,f1,g1,q _ _ ⟨bg.ext.trans eo2.ext,λl=>?_,λl=>?_,λl=>by unfold iS at l;cases l⟩ fk⟩
  ·rw[zx] at l;obtain⟨Gf,Pd,vv,e',C2,_,Kq⟩:=d7 e1 k1 (k3 (by lia));obtain⟨Gg,Pe,JN,FF,C6,_,Kv⟩:=d7 e2 eo2.val (eo2.nL (by lia));cases e';cases FF;have i1:c1=Gf/\xs=vv:=by rw[f1] at C2;cases c1 <;> cases Gf <;> first | (cases C2;exact⟨rfl,rfl⟩) | cases C2
   have i2:c2=Gg/\ys=JN:=by rw[g1] at C6;cases c2 <;> cases Gg <;> first | (cases C6;exact⟨rfl,rfl⟩) | cases C6
   obtain⟨rfl,rfl⟩:=i1;obtain⟨rfl,rfl⟩:=i2;exact zc f1 g1 (λz w=>NT z (.inr w)) (λz w=>NW z (.inr w)) fk.da Kq Kv
  ·rw[zx] at l;obtain⟨Gf,Pd,vv,e',C2,Hw,Kq⟩:=d7 e1 (k2 (by lia)) (k2 (by lia)).one;obtain⟨Gg,Pe,JN,FF,C6,DW,Kv⟩:=d7 e2 (eo2.dc (by lia)) (eo2.dc (by lia)).one;cases e';cases FF;have i1:c1=Gf/\xs=vv:=by rw[f1] at C2;cases c1 <;> cases Gf <;> first | (cases C2;exact⟨rfl,rfl⟩) | cases C2
   have i2:c2=Gg/\ys=JN:=by rw[g1] at C6;cases c2 <;> cases Gg <;> first | (cases C6;exact⟨rfl,rfl⟩) | cases C6
   obtain⟨rfl,rfl⟩:=i1;obtain⟨rfl,rfl⟩:=i2;exact zc f1 g1 Hw DW (λ_ z=>z) Kq Kv
 ·exact q.elim
end
noncomputable def yW:List Nat->vN
 | []=>C7
 | i::is=>wX (dX i) (yW is)
noncomputable def FU (K:Frag):Tg->TG
 | .nm i=>dX i
 | .tp is=>C8 K is.length (yW is)
section
variable {X:Cx} {Φ:Fm} {Γ:Gm} {F:FT} {g:G} {xv:Nat->Value} {CX:jt} {k:Nat} {K:Frag}
theorem fG {x:Str} {i:Nat} (h:eX Γ x=some i):xR (Γ.names.lookup x)=true/\cN x=true/\Γ.N[i]?=some x:=by
 unfold eX at h;split at h
 ·rename_i c;rw[Qf] at c;exact⟨c.1,c.2,jD h⟩
 ·cases h
theorem jO {x:Str} {i:Nat} (h:slot Γ x=some i):y9 (Γ.names.lookup x)=true/\cN x=true/\Γ.N[i]?=some x:=by
 unfold slot at h;split at h
 ·rename_i c;rw[Qf] at c;exact⟨c.1,c.2,jD h⟩
 ·cases h
theorem iy {e:Expr} {i:Nat} (h:o8 Γ e=some i):∃x p,e= .Name x p/\eX Γ x=some i/\plainS Γ i=true:=by
 unfold o8 at h;split at h
 ·rename_i x p;obtain⟨j,h1,h2⟩:=Qc.mp h;split at h2
  ·cases h2;exact⟨x,p,rfl,h1,by assumption⟩
  ·cases h2
 ·cases h
theorem Cj {e:Expr} {i:Nat} (gx:GX g Γ X) (h:o8 Γ e=some i):PG X e (dX i):=by obtain⟨x,p,rfl,h1,_⟩:=iy h;obtain⟨a,b,c⟩:=fG h1;obtain⟨l1,l2⟩:=gx.loc x a;exact Bb (gx.N▸gx.nd) (by rw[gx.N];exact c) l1 l2
theorem Ck (gx:GX g Γ X):∀{es:List Expr} {is:List Nat},iY Γ es=some is->F3 X es (yW is)/\es.length=is.length/\∀e∈es,∃x p,e= .Name x p
 | [],is,h=>by cases h;exact⟨Bc,rfl,λe z=>by cases z⟩
 | e::es,is,h=>by
  unfold iY at h;obtain⟨i,h1,h2⟩:=Qc.mp h;obtain⟨js,h3,rfl⟩:=Qv.mp h2;obtain⟨k1,k2,k3⟩:=Ck gx h3;obtain⟨x,p,ex,_⟩:=iy h1;refine⟨yi (Cj gx h1) k1 (by subst ex;rfl),by simp[k2],λe' z=>?_⟩;rcases Qs.mp z with rfl | z
  ·exact⟨x,p,ex⟩
  ·exact k3 e' z
theorem kn {env:Env}:∀{es:List Expr},(∀e∈es,∃x p,e=Expr.Name x p)->(assignEach es env).length=es.length/\(assignEach es env).findIdx? (·.1)=none
 | [],_=>⟨rfl,rfl⟩
 | e::es,h=>by
  obtain⟨x,p,rfl⟩:=h e Qm;obtain⟨h1,h2⟩:=kn (es:=es) (env:=env) λe' z=>h e' (Qj _ z)
  have q:assignEach (Expr.Name x p::es) env=(false,assign (.Name x p) env)::assignEach es env:=rfl;rw[q];refine⟨by simp[h1],?_⟩;rw[List.findIdx?_cons];simp[h2]
theorem ES {e:Expr} {t:Tg} (gx:GX g Γ X) (h:zY Γ e=some t):PG X e (FU X.K t):=by
 unfold zY at h;split at h
 ·obtain⟨i,h1,rfl⟩:=Qv.mp h;exact Cj gx h1
 ·obtain⟨is,h1,rfl⟩:=Qv.mp h;obtain⟨k1,k2,k3⟩:=Ck gx h1;obtain⟨n1,n2⟩:=kn (env:=X.env) k3;exact En gx.calm k1 (by rw[n1,k2]) n2
 ·cases h
theorem kR {e:Expr} {t:Tg} (h:zY Γ e=some t):∀i∈bJ t,plainS Γ i=true/\∃x,eX Γ x=some i:=by
 have many:∀{es:List Expr} {is:List Nat},iY Γ es=some is->∀i∈is,plainS Γ i=true/\∃x,eX Γ x=some i:=by
  intro es
  induction es with
  | nil=>intro is h i hi;cases h;cases hi
  | cons e es ih=>
   intro is h i hi;unfold iY at h;obtain⟨j,h1,h2⟩:=Qc.mp h;obtain⟨js,h3,rfl⟩:=Qv.mp h2;rcases Qs.mp hi with rfl | hi
   ·obtain⟨x,p,_,k1,k2⟩:=iy h1;exact⟨k2,x,k1⟩
   ·exact ih h3 i hi
 unfold zY at h;split at h
 ·obtain⟨j,h1,rfl⟩:=Qv.mp h;intro i hi;have:i=j:=by simpa [bJ] using hi
  subst this;obtain⟨x,p,_,k1,k2⟩:=iy h1;exact⟨k2,x,k1⟩
 ·obtain⟨is,h1,rfl⟩:=Qv.mp h;exact many h1
 ·cases h
theorem iz {i:Nat} (h:plainS Γ i=true):eV Γ i=false/\Γ.δ≠some i:=by unfold plainS at h;rw[Qf] at h;refine⟨by simpa using h.1,λe=>?_⟩;rw[e] at h;simp at h
theorem ER.set {o:Ow} {ρ:aj} {S:Sx} {σ:L2.St} {H:Hp} {i:Nat} {v:V} {d:Dt} (er:ER Φ Γ o ρ S σ H) (hp:plainS Γ i=true) (h:RV Φ.K o.A H v d):ER Φ Γ o (ρ.set i (some d)) S (σ.set i (some v)) H where
 len:=by rw[List.length_set,List.length_set];exact er.len
 wa:=er.wa
 da:=er.da
 al:=er.al
 val:=λj e he=>by
  by_cases hj:j=i
  ·subst hj;rw[List.getElem?_set] at he;simp only[if_true] at he;split at he
   ·rename_i cH;cases he;refine⟨v,by rw[Q0 (by rw[er.len];exact cH)],?_⟩;rw[(iz hp).1,if_neg (by simp)];exact h
   ·cases he
  ·rw[Qx (Ne.symm hj)] at he;obtain⟨w,h1,h2⟩:=er.val j e he;exact⟨w,by rw[Qx (Ne.symm hj)];exact h1,h2⟩
 inj:=λa b c e f ha hb h1 h2 h3 h4=>by
  have na:a≠i:=λz=>by rw[z,(iz hp).1] at ha;cases ha
  have nb:b≠i:=λz=>by rw[z,(iz hp).1] at hb;cases hb
  rw[Qx (Ne.symm na)] at h1 h3;rw[Qx (Ne.symm nb)] at h2 h4;exact er.inj a b c e f ha hb h1 h2 h3 h4
 dk:=Dk.set er.dk h.nd
 drw:=er.drw
 drn:=er.drn
 drs:=λj a hj ha=>by rw[Qx (λz=>(iz hp).2 (by rw[z];exact hj))];exact er.drs j a hj ha
 dr0:=er.dr0
 ent:=er.ent
theorem uh {o:Ow} {S:Sx} {H:Hp} {Q:L2.St->Hp->Prop}:∀{is:List Nat} {ds:List Dt} {xs:List V} {ρ ρ1:aj} {σ:L2.St},ER Φ Γ o ρ S σ H->(∀i∈is,plainS Γ i=true)->ao Φ.K o.A H xs ds->ji is ds ρ= .ok ρ1->(∀σ1,ER Φ Γ o ρ1 S σ1 H->(∀k,k∉is->σ1[k]?=σ[k]?/\ρ1[k]?=ρ[k]?)->Q σ1 H)->yW is xs σ H Q/\xs.length=is.length
 | [],ds,xs,ρ,ρ1,σ,er,_,hx,h,q=>by
  cases ds with
  | nil=>cases h;rw[hx.nil_inv];exact⟨⟨rfl,q σ er λ_ _=>⟨rfl,rfl⟩⟩,rfl⟩
  | cons=>cases h
 | i::is,ds,xs,ρ,ρ1,σ,er,hp,hx,h,q=>by
  cases ds with
  | nil=>cases h
  | cons d ds=>
   obtain⟨x,r,rfl,h1,h2⟩:=hx.cons_inv;obtain⟨k1,k2⟩:=uh (er.set (hp i Qm) h1) (λj hj=>hp j (Qj _ hj)) h2 h λσ1 aB hk=>q σ1 aB λk zw=>by
    have n1:k≠i:=λz=>zw (by rw[z];exact Qm)
    obtain⟨a1,a2⟩:=hk k λz=>zw (Qj _ z)
    rw[Qx (Ne.symm n1)] at a1 a2;exact⟨a1,a2⟩
   exact⟨⟨x,r,rfl,k1⟩,by simp[k2]⟩
theorem yV {o:Ow} {S:Sx} {H:Hp} {Q:L2.St->Hp->Prop} {t:Tg} {d:Dt} {x:V} {ρ ρ1:aj} {σ:L2.St} (er:ER Φ Γ o ρ S σ H) (hp:∀i∈bJ t,plainS Γ i=true) (hx:RV Φ.K o.A H x d) (h:du t d ρ= .ok ρ1) (q:∀σ1,ER Φ Γ o ρ1 S σ1 H->(∀k,k∉bJ t->σ1[k]?=σ[k]?/\ρ1[k]?=ρ[k]?)->Q σ1 H):FU Φ.K t x σ H Q:=by
 cases t with
 | nm i=>
  cases h;exact q _ (er.set (hp i (by simp[bJ])) hx) λk hk=>by
   have n1:k≠i:=λz=>hk (by simp[bJ,z])
   rw[Qx (Ne.symm n1),Qx (Ne.symm n1)];exact⟨rfl,rfl⟩
 | tp is=>
  unfold du at h;cases d with
  | tup ds=>obtain⟨a,xs,rfl,h1,h2⟩:=hx.af;obtain⟨k1,k2⟩:=uh er hp h2 h q;exact⟨a,xs,rfl,eh.of h1,k2,k1⟩
  | _=>cases h
theorem pC:∀(is:List Nat) (ds:List Dt) (ρ:aj) (k:Nat),ji is ds ρ≠ .ex k
 | [],[],_,_=>λz=>by cases z
 | [],_::_,_,_=>λz=>by cases z
 | _::_,[],_,_=>λz=>by cases z
 | _::is,_::ds,ρ,k=>pC is ds _ k
theorem pB (t:Tg) (d:Dt) (ρ:aj):∀k,du t d ρ≠ .ex k:=by
 intro k;cases t with
 | nm i=>intro z;cases z
 | tp is=>
  cases d with
  | tup ds=>exact pC is ds ρ k
  | _=>intro z;cases z
theorem oY {Ek:Nat->Prop} {α:Type} {r:R α} {P:α->Prop} (pZ:∀k,r≠ .ex k) (h:mR Ek r P):∃d,r= .ok d/\P d:=by
 cases r with
 | ok a=>exact⟨a,rfl,h⟩
 | ex k=>exact absurd rfl (pZ k)
 | bad=>exact h.elim
theorem wc {sc:Scope} (gx:GX g Γ X) (hk:sc.kind= .function) (hb:zT sc.names Γ.names (bu Γ sc).1.N Γ.N (bu Γ sc).2=true):fu X sc (bu Γ sc).1.N (bu Γ sc).2:=by
 unfold zT at hb;rw[Qf,Qf] at hb;obtain⟨⟨h1,h2⟩,h3⟩:=hb;rw[QQ] at h1 h3;refine⟨hk,λy hy=>?_,λy hy e=>?_,λj i hj=>?_,by simpa using h2⟩
 ·have:=h1 y hy;rw[Qf] at this;exact QD this.1
 ·have:=h1 y hy;rw[Qf,e] at this;have h:=this.2;simp at h;exact gx.fre y.1 h
 ·have cH:j < (bu Γ sc).2.length:=(Qi.mp hj).1;have:=h3 j (Q1.mpr cH);rw[hj] at this;simp only at this;cases hx:(bu Γ sc).1.N[j]? with
  | none=>rw[hx] at this;cases this
  | some x=>rw[hx] at this;simp only[Qf] at this;exact⟨x,rfl,by rw[gx.N];exact QD this.1,QD this.2⟩
theorem mF {sc:Scope} {C:Addr} {s:Shared} {H:Hp} {fp:List Addr} {xe:Value->Shared->Prop} (gx:GX g Γ X) (B:fu X sc (bu Γ sc).1.N (bu Γ sc).2) (pY:(bu Γ sc).1.N.Nodup):GX g (bu Γ sc).1 (f6 X sc (bu Γ sc).1.N C s H fp xe) where
 N:=rfl
 nd:=pY
 vis:=λx h=>by
  have hn:(bu Γ sc).1.names=sc.names:=rfl;rw[hn] at h;cases hl:sc.names.lookup x with
  | none=>rw[hl] at h;cases h
  | some kk=>
   have q:=aS (env:=X.env) hl;have q':(f6 X sc (bu Γ sc).1.N C s H fp xe).env.scope.names.lookup x=_:=q;by_cases hc:(kk==NameKind.free&&X.env.scope.kind== .function&&X.env.kindOf x==some .cell)=true
   ·rw[if_pos hc] at q';exact .inr (.inl q')
   ·rw[if_neg hc] at q';rw[hl] at h;cases kk with
    | «local»=>exact .inl q'
    | cell=>exact .inr (.inl q')
    | free=>exact .inr (.inr q')
    | globalExplicit=>cases h
    | globalImplicit=>cases h
 loc:=λx h=>by
  have hn:(bu Γ sc).1.names=sc.names:=rfl;rw[hn] at h;cases hl:sc.names.lookup x with
  | none=>rw[hl] at h;cases h
  | some kk=>
   have q:=aS (env:=X.env) hl;have q':(f6 X sc (bu Γ sc).1.N C s H fp xe).env.scope.names.lookup x=_:=q;rw[hl] at h;cases kk with
   | «local»=>rw[if_neg (by simp)] at q';exact⟨.inl q',.inr q'⟩
   | cell=>rw[if_neg (by simp)] at q';exact⟨.inr q',.inl (by show (sc.names.lookup x==some .cell)=true;rw[hl];rfl)⟩
   | free=>cases h
   | globalExplicit=>cases h
   | globalImplicit=>cases h
 gl:=λx h=>by
  have hn:(bu Γ sc).1.names=sc.names:=rfl;rw[hn] at h;cases hl:sc.names.lookup x with
  | none=>rw[hl] at h;cases h
  | some kk=>
   have q:=aS (env:=X.env) hl;have q':(f6 X sc (bu Γ sc).1.N C s H fp xe).env.scope.names.lookup x=_:=q;rw[hl] at h;cases kk with
   | globalImplicit=>rw[if_neg (by simp)] at q';exact q'
   | «local»=>cases h
   | cell=>cases h
   | free=>cases h
   | globalExplicit=>cases h
 fre:=λx h=>by
  have hn:(bu Γ sc).1.names=sc.names:=rfl;rw[hn] at h;rcases h with hl | hl
  ·have q:=aS (env:=X.env) hl;have q':(f6 X sc (bu Γ sc).1.N C s H fp xe).env.scope.names.lookup x=_:=q;rw[if_neg (by simp)] at q';exact .inl q'
  ·have q:=aS (env:=X.env) hl;have q':(f6 X sc (bu Γ sc).1.N C s H fp xe).env.scope.names.lookup x=_:=q;by_cases hc:(NameKind.free==NameKind.free&&X.env.scope.kind== .function&&X.env.kindOf x==some .cell)=true
   ·rw[if_pos hc] at q';exact .inl q'
   ·rw[if_neg hc] at q';exact .inr q'
 calm:=gx.calm
 un:=gx.un
 con:=gx.con
 bl:=gx.bl
end
theorem join_some {α:Type} {o:Option (Option α)} {a:α} (h:o.join=some a):o=some (some a):=by
 cases o with
 | none=>cases h
 | some x=>cases x with
  | none=>cases h
  | some y=>simp at h;rw[h]
theorem fw {cap:List (Option Nat)} {ρ:aj} {j:Nat} {d:Dt} (h:(jl cap ρ)[j]?=some (some d)):∃i,cap[j]?=some (some i)/\ρ[i]?=some (some d):=by
 unfold jl at h;rw[Qz] at h;cases hc:cap[j]? with
 | none=>rw[hc] at h;cases h
 | some o=>
  rw[hc] at h;cases o with
  | none=>cases h
  | some i=>refine⟨i,rfl,join_some ?_⟩;simpa using h
theorem dQ {cap:List (Option Nat)} {σ:L2.St} {i j:Nat} {v:V} (hc:cap[j]?=some (some i)) (h:σ[i]?=some (some v)):(cW cap σ)[j]?=some (some v):=by unfold cW;rw[Qz,hc];simp[h]
theorem sT {δ:Option Nat}:∀{cap:List (Option Nat)} {j:Nat},zA δ cap=some j->∃i,δ=some i/\cap[j]?=some (some i)
 | [],j,h=>by simp[zA] at h
 | o::r,j,h=>by
  unfold zA at h;split at h
  ·rename_i c;rw[Qf] at c;cases h;cases δ with
   | none=>simp at c
   | some i=>exact⟨i,rfl,by simp[QD c.2]⟩
  ·obtain⟨k,h1,rfl⟩:=Qv.mp h;obtain⟨i,h2,h3⟩:=sT h1;exact⟨i,h2,by simpa using h3⟩
section
variable {X:Cx} {Φ:Fm} {Γ:Gm} {F:FT} {g:G} {xv:Nat->Value} {CX:jt} {k:Nat} {K:Frag}
noncomputable def Ow.plus (o:Ow) (D:Addr):Ow:=⟨o.W,λb=>o.A b\/b=D,o.dr⟩
theorem jC {sc:Scope} {i j:Nat} (hc:(bu Γ sc).2[j]?=some (some i)):eV (bu Γ sc).1 j=eV Γ i:=by have e:(bu Γ sc).1.M=CO (bu Γ sc).2 Γ.M:=rfl;unfold eV;rw[e];unfold CO;rw[Qz,hc];simp
theorem oS {i:Nat}:∀{cap:List (Option Nat)} {j:Nat},cap[j]?=some (some i)->∃j',zA (some i) cap=some j'/\cap[j']?=some (some i)
 | [],j,h=>by cases h
 | o::r,j,h=>by
  unfold zA;by_cases e:o=some i
  ·refine⟨0,?_,by rw[e];rfl⟩;rw[e];simp
  ·rw[if_neg (by simp[e])];cases j with
   | zero=>cases h;exact absurd rfl e
   | succ j=>obtain⟨j',h1,h2⟩:=oS (cap:=r) (j:=j) h;exact⟨j' + 1,by rw[h1];rfl,h2⟩
theorem ER.bu {sc:Scope} {o:Ow} {ρ:aj} {S:Sx} {σ:L2.St} {H:Hp} {D:Addr} (er:ER Φ Γ o ρ S σ H) (B:fu X sc (bu Γ sc).1.N (bu Γ sc).2) (pY:(Rx.bu Γ sc).1.N.Nodup) (hD:H D=none):
  ER Φ (Rx.bu Γ sc).1 (o.plus D) (jl (Rx.bu Γ sc).2 ρ) S (cW (Rx.bu Γ sc).2 σ) (upd H D (.lst [])):=by
 have s:=Mx.bX hD (.lst []);have av:∀b,(o.A b\/b=D)->o.A b\/H b=none:=λb z=>z.elim .inl λe=> .inr (by rw[e];exact hD)
 refine⟨?_,λa h=> .inl (er.wa a h),λa h=> .inl (er.da a h),λa h=>?_,λj d h=>?_,λj ks vs h=>?_,λj j' a d e hm hm' h1 h2 h3 h4=>?_,λa h=>?_,er.drn,λj a hj ha=>?_,er.dr0,er.ent.trans (aU.of_same s)⟩
 ·unfold cW jl;rw[Qp,Qp]
 ·rcases h with h | h
  ·obtain⟨x,hx⟩:=er.al a h;exact⟨x,s _ _ hx⟩
  ·subst h;exact⟨_,aE⟩
 ·obtain⟨i,hc,hr⟩:=fw h;obtain⟨v,h1,h2⟩:=er.val i d hr;refine⟨v,dQ hc h1,?_⟩;rw[jC hc];by_cases hm:eV Γ i=true
  ·rw[if_pos hm] at h2 ⊢;cases d with
   | lst ds=>obtain⟨a,xs,e1,e2,e3,e4,e5,e6,e7⟩:=h2;exact⟨a,xs,e1,s _ _ e2,.inl e3,e4,e5,e6,(e7.b5 av).same s⟩
   | fL=>exact h2.elim
   | _=>exact RV.same (RV.b5 av h2) s
  ·rw[if_neg hm] at h2 ⊢;exact(h2.b5 av).same s
 ·obtain⟨i,hc,hr⟩:=fw h;have hk:=er.dk i ks vs hr;obtain⟨j',k1,k2⟩:=oS hc;obtain⟨x,n1,n2,_⟩:=B.uz j i hc;obtain⟨x',Hw,DW,_⟩:=B.uz j' i k2;rw[n2] at DW;cases DW;show zA Γ.κ (Rx.bu Γ sc).2=some j;rw[hk,k1,iw pY n1 Hw]
 ·obtain⟨i,hc,hr⟩:=fw h1;obtain⟨i',k9,eU⟩:=fw h2;rw[jC hc] at hm;rw[jC k9] at hm';obtain⟨v,k1,_⟩:=er.val i _ hr;obtain⟨v',Nh,_⟩:=er.val i' _ eU;rw[dQ hc k1] at h3;rw[dQ k9 Nh] at h4;cases h3;cases h4;have:=er.inj i i' a d e hm hm' hr eU k1 Nh;subst this;obtain⟨x,n1,n2,_⟩:=B.uz j i hc;obtain⟨x',Hw,DW,_⟩:=B.uz j' i k9;rw[n2] at DW;cases DW;exact iw pY n1 Hw
 ·obtain⟨ns,e1,e2⟩:=er.drw a h;exact⟨ns,e1,s _ _ e2⟩
 ·obtain⟨i,h1,h2⟩:=sT (show zA Γ.δ (Rx.bu Γ sc).2=some j from hj);exact dQ h2 (er.drs i a h1 ha)
theorem wu {sc:Scope} {x:Str} {i:Nat} (B:fu X sc (bu Γ sc).1.N (bu Γ sc).2) (h:eX (bu Γ sc).1 x=some i):(bu Γ sc).2[i]?=some none:=by
 obtain⟨a,b,c⟩:=fG h;have cH:i < (bu Γ sc).2.length:=by rw[B.len];exact(Qi.mp c).1
 cases hc:(bu Γ sc).2[i]? with
 | none=>rw[List.getElem?_eq_none_iff] at hc;lia
 | some o=>
  cases o with
  | none=>rfl
  | some j=>obtain⟨y,n1,_,n3⟩:=B.uz i j hc;rw[c] at n1;cases n1;have hn:(bu Γ sc).1.names=sc.names:=rfl;rw[hn,n3] at a;cases a
theorem qp {cap:List (Option Nat)} {σ:L2.St} {i:Nat} (h:cap[i]?=some none):(cW cap σ)[i]?=some none:=by unfold cW;rw[Qz,h];rfl
theorem xg {σ0:L2.St} {t:Tg} {K:Frag} (h:∀i∈bJ t,σ0[i]?=some none):GL σ0 (FU K t):=by
 have many:∀{is:List Nat},(∀i∈is,σ0[i]?=some none)->FY σ0 (yW is):=by
  intro is
  induction is with
  | nil=>intro _;exact An
  | cons i is ih=>intro hs;exact xh (hs i Qm) (ih λj hj=>hs j (Qj _ hj))
 cases t with
 | nm i=>exact Am (h i (by simp[bJ]))
 | tp is=>exact Da (many h)
theorem BA {sc:Scope} {e:Expr} {t:Tg} {σ:L2.St} (B:fu X sc (bu Γ sc).1.N (bu Γ sc).2) (h:zY (bu Γ sc).1 e=some t):∀i∈bJ t,(cW (bu Γ sc).2 σ)[i]?=some none:=λi hi=>by obtain⟨_,x,hx⟩:=kR h i hi;exact qp (wu B hx)
noncomputable def Cw (Γ:Gm) (ρ:aj) (σ:L2.St) (D:Addr):Prop:=∀(j:Nat) (d:List Dt),eV Γ j=true->ρ[j]?=some (some (.lst d))->σ[j]?≠some (some (.ref D))
theorem uk {H:Hp} {D:Addr} {acc fZ:List V} (hD:H D=some (.lst acc)):aU (λb=>b=D) H (upd H D (.lst fZ)):=⟨λb o h n=>by rw[aG n];exact h,Mx.kS hD⟩
theorem ER.emit {o:Ow} {ρ:aj} {S:Sx} {σ:L2.St} {H:Hp} {D:Addr} {acc fZ:List V} (er:ER Φ Γ o ρ S σ H) (hD:H D=some (.lst acc)) (hn:Cw Γ ρ σ D) (oD:o.A D) (nd:o.dr≠some D) (h0:∀x,Φ.H0 D=some x->Φ.d0=some D):ER Φ Γ o ρ S σ (upd H D (.lst fZ)):=by
 have up:aU (λb=>b=D) H (upd H D (.lst fZ)):=uk hD;have uA:∀b,b=D->o.A b:=λb z=>by rw[z];exact oD
 refine⟨er.len,er.wa,er.da,λa ha=>?_,λj dd h=>?_,er.dk,er.inj,λa ha=>?_,er.drn,er.drs,er.dr0,?_⟩
 ·obtain⟨x,hx⟩:=er.al a ha;exact up.al hx λz=>⟨_,by rw[z];exact aE⟩
 ·obtain⟨w,h1,h2⟩:=er.val j dd h;refine⟨w,h1,?_⟩;by_cases hm:eV Γ j=true
  ·rw[if_pos hm] at h2 ⊢;cases dd with
   | lst ds=>
    obtain⟨a,xs,e1,e2,e3,e4,e5,e6,e7⟩:=h2;have aD:a≠D:=λz=>hn j ds hm h (by rw[h1,e1,z])
    exact⟨a,xs,e1,up.kp _ _ e2 aD,e3,e4,e5,e6,e7.mono up uA λ_ z=>z⟩
   | fL=>exact h2.elim
   | _=>exact RV.mono up uA (λ_ z=>z) h2
  ·rw[if_neg hm] at h2 ⊢;exact h2.mono up uA λ_ z=>z
 ·obtain⟨ns,e1,e2⟩:=er.drw a ha;exact⟨ns,e1,up.kp _ _ e2 (λz=>nd (by rw[<-z];exact ha))⟩
 ·refine⟨λb x h n=>up.kp _ _ (er.ent.kp b x h n) λz=>?_,λb xs h=>up.tp _ _ (er.ent.tp b xs h)⟩;subst z;exact n (h0 x h)
theorem Wk.less {A Y Y':Addr->Prop} {J:It} {H:Hp} {ds:List Dt} (w:Wk K A Y J H ds) (h:∀b,Y' b->Y b):Wk K A Y' J H ds:=⟨λi H1 hi e=>w.go i H1 hi (e.mono h),λH1 e=>w.stop H1 (e.mono h),λi x H1 H2 hi e y=>w.yld i x H1 H2 hi (e.mono h) y⟩
theorem IO.PD {Φ:Fm} {Γ:Gm} {o:Ow} {ρ:aj} {S:Sx} {σ:L2.St} {it:nN} {nl:Bool} {H H1:Hp} {ds:List Dt} {J:It} (io:IO Φ.K o it nl H ds J H1) (er:ER Φ Γ o ρ S σ H1) (h:(decide (uW it<=1)||nl)=true):Wk Φ.K o.A o.d J H1 ds:=by
 rcases Bool.or_eq_true_iff.mp h with h | h
 ·exact io.w1 (Qh h)
 ·exact(io.w2 h).less er.da
theorem Wk.plus {A Y:Addr->Prop} {J:It} {H:Hp} {ds:List Dt} {D:Addr} (w:Wk K A Y J H ds) (hD:H D=none):Wk K (λb=>A b\/b=D) (λb=>Y b\/b=D) J (upd H D (.lst [])) ds:=by
 have ex:∀H1,aU (λb=>Y b\/b=D) (upd H D (.lst [])) H1->aU Y H H1:=λH1 e=>⟨λb o h n=>by
   have nb:b≠D:=λz=>by rw[z,hD] at h;cases h
   exact e.kp b o (by rw[aG nb];exact h) λz=>z.elim n nb,λb xs h=>by
   have nb:b≠D:=λz=>by rw[z,hD] at h;cases h
   exact e.tp b xs (by rw[aG nb];exact h)⟩
 refine⟨λi H1 hi e=>w.go i H1 hi (ex H1 e),λH1 e=>w.stop H1 (ex H1 e),λi x H1 H2 hi e y=>?_⟩;obtain⟨s,d,hd,hv⟩:=w.yld i x H1 H2 hi (ex H1 e) y;refine⟨s,d,hd,λB hB=>hv B λb hb=>?_⟩;rcases hB b hb with (z | z) | z
 ·exact .inl z
 ·exact .inr (by rw[z];exact hD)
 ·by_cases nb:b=D
  ·exact .inr (by rw[nb];exact hD)
  ·rw[aG nb] at z;exact .inr z
structure zG (Φ:Fm) (Γ:Gm) (o:Ow) (D:Addr) (ρ:aj) (σ:L2.St) (S:Sx) (acc:List V) (es:List Dt) (H:Hp):Prop where
 at':H D=some (.lst acc)
 rv:ao Φ.K o.A H acc es
 er:ER Φ Γ o ρ S σ H
structure Jg (Φ:Fm) (o:Ow) (D:Addr):Prop where
 oD:o.A D
 nd:o.dr≠some D
 h0:∀x,Φ.H0 D=some x->Φ.d0=some D
noncomputable def Yd (o:Ow) (D:Addr):Addr->Prop:=λb=>o.d b\/b=D
theorem ER.back {o:Ow} {ρ ρ':aj} {S S':Sx} {σ σ':L2.St} {H H':Hp} {D:Addr} (fx:Jg Φ o D) (hn:Cw Γ ρ σ D) (er:ER Φ Γ o ρ S σ H) (CZ:ER Φ Γ o ρ' S' σ' H') (e:aU (Yd o D) H H') (PV:∃acc,H D=some (.lst acc)):ER Φ Γ o ρ S' σ H':=by
 have uA:∀b,Yd o D b->o.A b:=λb z=>z.elim (er.da b) λq=>by rw[q];exact fx.oD
 refine⟨er.len,er.wa,er.da,CZ.al,λj dd h=>?_,er.dk,er.inj,CZ.drw,CZ.drn,er.drs,er.dr0,CZ.ent⟩;obtain⟨w,h1,h2⟩:=er.val j dd h;refine⟨w,h1,?_⟩;by_cases hm:eV Γ j=true
 ·rw[if_pos hm] at h2 ⊢;cases dd with
  | lst ds=>
   obtain⟨a,xs,e1,e2,e3,e4,e5,e6,e7⟩:=h2;have aD:a≠D:=λz=>hn j ds hm h (by rw[h1,e1,z])
   exact⟨a,xs,e1,e.kp _ _ e2 (λz=>z.elim e5 aD),e3,e4,e5,e6,e7.mono e uA λ_ z=>z⟩
  | fL=>exact h2.elim
  | _=>exact RV.mono e uA (λ_ z=>z) h2
 ·rw[if_neg hm] at h2 ⊢;exact h2.mono e uA λ_ z=>z
theorem Fg {tg:Tg} {ts:Cs} {o:Ow} {D:Addr} {ρ:aj} {σ:L2.St} {J:It} {ds:List Dt} {H1:Hp} {tb:TB} {fb:aj->Sx->R (List Dt×Sx)} {m a0:Nat} (fx:Jg Φ o D) (hp:∀i∈bJ tg,plainS Γ i=true) (wk:Wk Φ.K o.A (Yd o D) J H1 ds) (hn:Cw Γ ρ σ D)
  (hb:∀(ρ1:aj) (σ1:L2.St) (S:Sx) (acc:List V) (es:List Dt) (H2:Hp) (P:List Dt×Sx->Prop),Cw Γ ρ1 σ1 D->(∀k,k∉bJ tg->σ1[k]?=σ[k]?/\ρ1[k]?=ρ[k]?)->zG Φ Γ o D ρ1 σ1 S acc es H2->aU (Yd o D) H1 H2->acc.length + m<=a0 + ds.length * m->0 < ds.length->mR Φ.Ek (fb ρ1 S) P->
   ∀Q:Hp->Prop,(∀H5 r jT,P r->zG Φ Γ o D ρ1 σ1 r.2 jT (es++r.1) H5->aU (Yd o D) H2 H5->jT.length<=acc.length + m->Q H5)->tb σ1 H2 Q)
  {S:Sx} {acc:List V} {es:List Dt} {P:List Dt×Sx->Prop} (c:zG Φ Γ o D ρ σ S acc es H1) (ha:acc.length<=a0) (q:mR Φ.Ek (bh (bB tg (cC F ts) fb ρ) ds S) P) {Fn:Hp->Prop}
  (fin:∀H5 r jT,P r->zG Φ Γ o D ρ σ r.2 jT (es++r.1) H5->aU (Yd o D) H1 H5->jT.length<=a0 + ds.length * m->Fn H5):rN J (FU Φ.K tg) (ug Φ Γ F ts) tb σ Fn H1:=by
 refine⟨λi mm H2=>mm=ds.length - i/\i<=ds.length/\∃S2 nP zo,zG Φ Γ o D ρ σ S2 nP (es++zo) H2/\aU (Yd o D) H1 H2/\nP.length<=a0 + i * m/\mR Φ.Ek (bh (bB tg (cC F ts) fb ρ) (ds.drop i) S2) λr=>P (zo++r.1,r.2),
  ⟨_,rfl,Nat.zero_le _,S,acc,[],by rw[QU];exact c,aU.refl,by lia,q⟩,?_⟩
 rintro i mm H2 ⟨rfl,hi,S2,nP,zo,c2,zp,fB,q⟩;by_cases cH:i < ds.length
 ·refine .inr ⟨wk.go i H2 cH zp,λx H3 y=>?_⟩;obtain⟨s3,d,hd,hx⟩:=wk.yld i x H2 H3 cH zp y;have nI:=hx o.A λb z=> .inl z
  have MK:=c2.er.grow s3;have Kl:ds.drop i=d::ds.drop (i + 1):=by rw[List.drop_eq_getElem_cons cH];congr 1;exact(Qi.mp hd).2
  rw[Kl] at q;unfold bh at q;rw[ae] at q;unfold bB at q;rw[ae] at q;obtain⟨ρ1,hρ,q⟩:=oY (pB _ _ _) q;refine yV MK hp nI hρ λσ1 Kp hk=>?_
  rw[ae] at q;refine⟨o,ρ1,S2,Kp,ah q λb _ q H4 e4 Jt=>?_⟩;have MF:aU (Yd o D) H3 H4:=e4.mono λb z=> .inl z
  have Ph:Cw Γ ρ1 σ1 D:=λj dd hm h1 h2=>by
   have nj:j∉bJ tg:=λz=>by rw[(iz (hp j z)).1] at hm;cases hm
   obtain⟨k1,k2⟩:=hk j nj;rw[k1] at h2;rw[k2] at h1;exact hn j dd hm h1 h2
  have uA:∀b,Yd o D b->o.A b:=λb z=>z.elim (MK.da b) λq=>by rw[q];exact fx.oD
  have GI:H4 D=some (.lst nP):=e4.kp _ _ (s3 _ _ c2.at') fx.nd;have Nb:ao Φ.K o.A H4 nP (es++zo):=(c2.rv.same s3).mono MF uA λ_ z=>z
  have GB:aU (Yd o D) H2 H4:=(aU.of_same s3).trans MF;have hmul:ds.length * m=(ds.length - (i + 1)) * m + (i * m + m):=by
   rw[<-Nat.succ_mul i m,<-Nat.add_mul];congr 1
   lia
  have M6:(i + 1) * m=i * m + m:=Nat.succ_mul i m;have hz:0<=(ds.length - (i + 1)) * m:=Nat.zero_le _;cases nF:b.1 with
  | false=>rw[nF] at q;refine Hi ?_;refine⟨ds.length - (i + 1),by lia,rfl,cH,b.2,nP,zo,⟨GI,Nb,c2.er.back fx hn Jt GB ⟨_,c2.at'⟩⟩,zp.trans GB,by lia,?_⟩;simp only[Bool.false_eq_true,if_false] at q;have q:mR Φ.Ek ((bh (bB tg (cC F ts) fb ρ) (ds.drop (i + 1)) b.2).bind λq=>R.ok (([]:List Dt)++q.1,q.2)) _:=q;rw[ae] at q;exact ah q λr _ q=>q
  | true=>
   rw[nF] at q;refine Hj ?_;simp only[if_true] at q;refine hb ρ1 σ1 b.2 nP (es++zo) H4 _ Ph hk ⟨GI,Nb,Jt⟩ (zp.trans GB) (by lia) (by lia) q _ λH5 r jT q c5 e5 l5=>?_
   rw[ae] at q;refine⟨ds.length - (i + 1),by lia,rfl,cH,r.2,jT,zo++r.1,⟨c5.at',by rw[<-Qu];exact c5.rv,c2.er.back fx hn c5.er (GB.trans e5) ⟨_,c2.at'⟩⟩,(zp.trans GB).trans e5,by lia,ah q λr' _ q=>?_⟩;have q:P (zo++(r.1++r'.1),r'.2):=q;rw[Qu];exact q
 ·have e:i=ds.length:=by lia
  subst e;refine .inl ⟨wk.stop H2 zp,?_⟩;rw[List.drop_length] at q;have q:P (zo++[],S2):=q;rw[QU] at q;exact fin H2 (zo,S2) nP q c2 zp fB
theorem CY {o:Ow} {D:Addr} {c:C} {ρ:aj} {σ:L2.St} {S:Sx} {acc:List V} {es:List Dt} {H:Hp} {P:List Dt×Sx->Prop} (fx:Jg Φ o D) (hn:Cw Γ ρ σ D) (cs:zG Φ Γ o D ρ σ S acc es H) (hl:acc.length < sizeLine)
  (q:mR Φ.Ek ((ev F c ρ S).bind λy=>ag (bR c y.1) (.ok ([y.1],y.2))) P) (Q:Hp->Prop) (fin:∀H5 r jT,P r->zG Φ Γ o D ρ σ r.2 jT (es++r.1) H5->aU (Yd o D) H H5->jT.length<=acc.length + 1->Q H5):yS D (bN Φ Γ F g.fr c) σ H Q:=by
 rw[ae] at q;refine⟨o,ρ,S,cs.er,ah q λy _ q v H5 eo5 er6=>?_⟩;obtain⟨gs,q⟩:=aM q;have e5:aU (Yd o D) H H5:=eo5.ext.mono λb z=> .inl z
 have KF:H5 D=some (.lst acc):=eo5.ext.kp _ _ cs.at' fx.nd;have uA:∀b,Yd o D b->o.A b:=λb z=>z.elim (cs.er.da b) λq=>by rw[q];exact fx.oD
 have hv:RV Φ.K o.A H5 v y.1:=by
  unfold bR at gs;rw[QV] at gs;rcases gs with gs | gs
  ·exact eo5.dc (Qh gs)
  ·exact eo5.val.iJ gs
 have up:aU (λb=>b=D) H5 (upd H5 D (.lst (acc++[v]))):=uk KF;refine⟨acc,KF,hl,fin _ ([y.1],y.2) (acc++[v]) q ⟨aE,?_,er6.emit KF hn fx.oD fx.nd fx.h0⟩ (e5.trans (up.mono λb z=> .inr z)) (by simp)⟩;exact((cs.rv.mono e5 uA λ_ z=>z).append (ao.cons hv ao.nil)).mono up (λb z=>by rw[z];exact fx.oD) λ_ z=>z
theorem BF:2 * lim < sizeLine:=by rw[sizeLine_eq];decide
theorem uw {sc:Scope} {o:Ow} {ρ:aj} {S:Sx} {σ:L2.St} {H:Hp} {D:Addr} (er:ER Φ Γ o ρ S σ H) (B:fu X sc (bu Γ sc).1.N (bu Γ sc).2) (pY:(Rx.bu Γ sc).1.N.Nodup) (hD:H D=none):
  Jg Φ (o.plus D) D/\Cw (bu Γ sc).1 (jl (bu Γ sc).2 ρ) (cW (bu Γ sc).2 σ) D/\zG Φ (bu Γ sc).1 (o.plus D) D (jl (bu Γ sc).2 ρ) (cW (bu Γ sc).2 σ) S [] [] (upd H D (.lst [])):=by
 refine⟨⟨.inr rfl,λz=>?_,λx hx=>?_⟩,λj d hm h1 h2=>?_,⟨aE,ao.nil,er.bu B pY hD⟩⟩
 ·obtain⟨y,hy⟩:=er.al D (er.da D z);rw[hD] at hy;cases hy
 ·by_cases hz:Φ.d0=some D
  ·exact hz
  ·have:=er.ent.kp D x hx hz;rw[hD] at this;cases this
 ·obtain⟨ii,hc,OX⟩:=fw h1;obtain⟨w',k1,k2⟩:=er.val ii _ OX;rw[<-jC hc,if_pos hm] at k2;obtain⟨a',vv,Kj,FF,_⟩:=k2;rw[dQ hc k1] at h2;cases h2;cases Kj;rw[hD] at FF;cases FF
theorem zU {sc:Scope} {o:Ow} {ρ:aj} {S S2:Sx} {σ:L2.St} {H H1 H2:Hp} {D:Addr} {acc:List V} {ds:List Dt} {c:C} (hc:lk c=0) (io:aU o.d H H1) (aB:ER Φ Γ o ρ S σ H1) (hD:H1 D=none) {ρ2:aj} {σ2:L2.St} (cs:zG Φ (bu Γ sc).1 (o.plus D) D ρ2 σ2 S2 acc ds H2) (ex:aU (Yd (o.plus D) D) (upd H1 D (.lst [])) H2):
  EO Φ.K g.fr o c H (.lst ds) (.ref D) H2/\ER Φ Γ o ρ S2 σ H2:=by
 have zp:aU o.d H1 H2:=⟨λb x h n=>by
   have nb:b≠D:=λz=>by rw[z,hD] at h;cases h
   exact ex.kp b x (by rw[aG nb];exact h) λz=>z.elim n nb,λb xs h=>by
   have nb:b≠D:=λz=>by rw[z,hD] at h;cases h
   exact ex.tp b xs (by rw[aG nb];exact h)⟩
 have nA:¬o.A D:=λz=>by obtain⟨y,hy⟩:=aB.al D z;rw[hD] at hy;cases hy
 have dn:H D=none:=aB.d4 io hD;have v0:RV Φ.K o.A H2 (.ref D) (.lst ds):=RV.dm cs.at' nA (cs.rv.weak λb z=> .inl z);refine⟨⟨io.trans zp,v0.weak aB.gK,λ_=>v0,λ_=>v0.one,λ_ vy ed=>?_⟩,aB.step zp (λa ha=>cs.er.drw a ha) cs.er.drn⟩;cases ed;exact⟨D,acc,rfl,dn,cs.at',cs.rv.weak λb z=>z.elim (λz=> .inl (aB.gK b z)) .inr,λ_=>cs.rv⟩
theorem yA {sc:Scope} {tg:Expr} {it:nN} {t:Tg} {ts:Cs} {c:C} (hK:Φ.K=X.K) (B:fu X sc (bu Γ sc).1.N (bu Γ sc).2) (pY:(bu Γ sc).1.N.Nodup) (Nd:zY (bu Γ sc).1 tg=some t) {σ:L2.St} {H:Hp} {Q:VK}
  (q:bN Φ Γ F g.fr (.comp (bu Γ sc).2 it t ts c) σ H Q):rD (bu Γ sc).2 (rE Φ Γ F it) (FU X.K t) (ug Φ (bu Γ sc).1 F ts) (λD=>yS D (bN Φ (bu Γ sc).1 F g.fr c)) σ H Q:=by
 obtain⟨o,ρ,S,er,q⟩:=q;unfold ev at q;rw[ae] at q;refine⟨o,ρ,S,er,ah q λp _ q J H1 io aB D hD=>⟨xg (BA B Nd),?_⟩⟩;obtain⟨g1,q⟩:=aM q;rw[Qf] at g1;have iV:=Qh g1.1;have wk:=(io.PD aB g1.2).plus hD;rw[ae] at q;have gM:=BF;obtain⟨fx,hn,cs⟩:=uw (X:=X) aB B pY hD;rw[<-hK];refine Fg (m:=1) (a0:=0) fx (λi hi=>(kR Nd i hi).1) wk hn (λρ1 σ1 S1 acc es H2 P n1 hk c1 e1 hl _ q Q fin=>CY fx n1 c1 (by lia) q Q fin) cs (Nat.zero_le _) q λH5 r jT q c5 e5 l5=>?_
 obtain⟨k1,k2⟩:=zU (g:=g) (c:= .comp (bu Γ sc).2 it t ts c) rfl io.ext aB hD c5 e5;exact q _ _ k1 k2
end
section
variable {X:Cx} {Φ:Fm} {Γ:Gm} {F:FT} {g:G} {o:Ow} {ρ:aj} {S:Sx} {σ:L2.St} {H:Hp}
noncomputable def Pt (W:V->Hp->Prop) (r:V->List V->Hp->VK->Prop) (to:TE) (t:TA):TE:=λσ H Q=>to σ H λx H1=>W x H1/\t σ H1 λvs H2=>r x vs H2 Q
theorem Eg {W:V->Hp->Prop} {oe e:Expr} {es:List Expr} {to:TE} {t:TA} {name:Str} {apos cA:Pos} {id:String} {r:V->List V->Hp->VK->Prop} (hW:∀{pins:List (Addr×Obj)} {s:Shared} {σ:L2.St} {H:Hp} {x:V},Inv X pins σ H s->W x H->∃p,x= .ref p/\s.TypeIs (.ref p) "dict"/\∀a,Value.ref p= .ref a->∃ob,s.heap.get? a=some ob/\ob.dict=none) (slot:Slot "dict" name id) (Hb:typeOf (.builtin id)=pure (.type "method_descriptor")) (hm:Jl X id r) (ho:PE X oe to) (ha:PA X (e::es) t)
  (gY:attributeBase oe name X.env (eval oe X.env)=eval oe X.env)
  (Df:((backTo cA (starEach (e::es) X.env)).all (λx=> !x.1)&&(backToKw cA (keywordEach [] X.env)).all (λx=>x.1.isSome)
   &&decide ((e::es).length + ([]:List Keyword).length + (if ([]:List Keyword).isEmpty then 0 else 1) < 30))=true)
  (j8:(apos.endLine==cA.line)=true) (hs:starEach (e::es) X.env=(false,eval e X.env)::starEach es X.env) (qE:(backTo cA (starEach es X.env)).any (·.1)=false):
  PE X (.Call (.Attribute oe name apos) (e::es) [] cA) (Pt W r to t):=by
 intro pins s σ H Q I h;refine wpAny_Call_method_late gY Df j8 rfl (bO (ho pins s σ H _ I h) λv s1 ⟨x,H1,I1,r1,ty,q1⟩=>?_);obtain⟨p,rfl,h1,h2⟩:=hW I1 ty;cases r1;refine⟨"dict",id,PySem.F.plainAttrs_dict,slot,Hb,h1,h2,?_⟩;have hA:=ha cA pins s1 σ H1 _ I1 q1;rw[hs] at hA ⊢;refine Calls.callWith_builtin (by show (false||(backTo cA (starEach es X.env)).any (·.1))=false;rw[qE] <;> rfl) (Calls.evalArgs_plain ?_);exact bO hA λus s2 ⟨vs,H2,I2,r2,q2⟩=>hm pins s2 σ H2 (.ref p) vs _ us Q I2 rfl r2 q2
theorem qT (y:Str) {K:Frag} {A:Addr->Prop} {H:Hp}:∀{ks:List Str} {vs:List Dt} {bq:List (Key×V)},bq.map (·.1)=ks.map Sum.inr->ao K A H (bq.map (·.2)) vs->
  (Mx.BB y bq=none/\A4 y ks vs=none)\/∃v e,Mx.BB y bq=some v/\A4 y ks vs=some e/\RV K A H v e
 | [],vs,bq,h,r=>by
  cases bq with
  | nil=>exact .inl ⟨rfl,by unfold A4;rfl⟩
  | cons=>cases h
 | k::ks,vs,[],h,r=>by cases h
 | k::ks,vs,p::bq,h,r=>by
  rw[QY,QY] at h;injection h with h1 h2;obtain⟨e,er,rfl,r1,r2⟩:=r.lE;unfold Mx.BB A4;by_cases z:k=y
  ·rw[if_pos (h1.trans (congrArg _ z)),if_pos z];exact .inr ⟨_,_,rfl,rfl,r1⟩
  ·rw[if_neg λw=>z (Sum.inr.inj (h1.symm.trans w)),if_neg z];exact qT y h2 r2
theorem Ii {oe k e:Expr} {o' k' e':C} {apos pos:Pos} (hK:Φ.K=X.K) (ho:PE X oe (bN Φ Γ F g.fr o')) (hk:PE X k (bN Φ Γ F g.fr k')) (he:PE X e (bN Φ Γ F g.fr e')) (gY:attributeBase oe ("get":Str) X.env (eval oe X.env)=eval oe X.env)
  (hs:starEach [k,e] X.env=[(false,eval k X.env),(false,eval e X.env)]) (qG:starEach [e] X.env=[(false,eval e X.env)]) (j8:(apos.endLine==pos.line)=true):
  PE X (.Call (.Attribute oe "get" apos) [k,e] [] pos) (bN Φ Γ F g.fr (.gtO o' k' e')):=by
 refine bt (Eg (W:=λx H=>∃p bq,x= .ref p/\H p=some (.dK bq)) (λI h=>by obtain⟨p,bq,e,hp⟩:=h;exact⟨p,e,Mx.D0 I hp⟩) PySem.F.slot_dict_get PySem.F.type_dict_get Mx.AX ho (bI hk (bI he eI (by rw[qG];rfl)) (by rw[hs,qG])) gY (by rw[hs];rfl) j8 (by rw[hs,qG]) (by rw[qG];rfl)) λσ H Q q=>?_
 obtain⟨o,ρ,S,er,q⟩:=q;unfold ev at q;rw[ae] at q;refine⟨o,ρ,S,er,ah q λz hz q x0 H0 eo0 MJ=>?_⟩;obtain⟨gd,q⟩:=aM q;rw[ae] at q;obtain⟨z1,z2⟩:=z;cases z1 with
 | obj ks vs=>
  obtain⟨a,bq,rfl,h1,h2,h3,h4⟩:=eo0.val.eE;refine⟨⟨a,bq,rfl,h1⟩,o,ρ,z2,MJ,ah q λp hp q x H1 bg aB=>?_⟩;rw[ae] at q;refine⟨o,ρ,p.2,aB,ah q λp2 fq q v H2 eo2 fk=>?_⟩;rw[ae] at q;have ee:=bg.ext.trans eo2.ext;have hd:∀b,o.d b->o.wd b:=λb z=> .inr z
  unfold xZ at q;dsimp only at q;cases hk:p.1 with
  | str y=>
   rw[hk] at q;dsimp only at q;have hx:=bg.val;rw[hk] at hx;have:=hx.str_inv;subst this;refine⟨a,bq,y,v,rfl,rfl,ee.kp _ _ h1 λz=>h2 (hd _ z),?_⟩;have w0:lk o'=0->ao Φ.K o.A H2 (bq.map (·.2)) vs:=λl=>by obtain⟨a',Pc,e,f1,f2,f3,f4⟩:=(eo0.dc l).eE;cases e;rw[h1] at f1;cases f1;exact f4.mono ee MJ.da λ_ z=>z
   have w1:ao Φ.K o.wd H2 (bq.map (·.2)) vs:=h4.mono ee hd λ_ z=>z
   rcases qT y h3 w1 with ⟨g1,g2⟩ | ⟨u,d,g1,g2,g3⟩
   ·rw[g1];rw[g2] at q;refine q v H2 ⟨eo0.ext.trans ee,eo2.val,λl=>eo2.dc ?_,λl=>eo2.nL ?_,λf=>by simp[fresh] at f⟩ fk
    ·rw[lk] at l;split at l
     ·exact l
     ·cases l
    ·rw[lk] at l;split at l
     ·exact l
     ·lia
   ·rw[g1];rw[g2] at q;have w2:lk o'=0->RV Φ.K o.A H2 u d:=λl=>by
     rcases qT y h3 (w0 l) with ⟨k1,k2⟩ | ⟨u',d',k1,k2,k3⟩
     ·rw[g1] at k1;cases k1
     ·rw[g1] at k1;cases k1;rw[g2] at k2;cases k2;exact k3
    have z0:lk (.gtO o' k' e')<=1->lk o'=0:=λl=>by
     rw[lk] at l;split at l
     ·assumption
     ·lia
    exact q u H2 ⟨eo0.ext.trans ee,g3,λl=>w2 (z0 (by lia)),λl=>(w2 (z0 l)).one,λf=>by simp[fresh] at f⟩ fk
  | _=>rw[hk] at q;exact q.elim
 | _=>cases gd
end
noncomputable def oN:Expr->Bool
 | .Starred ..=>false
 | .Slice ..=>false
 | .Set ..=>false
 | .Call (.Name _ _) [] _ _=>false
 | _=>true
theorem bZ {e:Expr} (h:oN e=true) (es:List Expr) (env:Env):starEach (e::es) env=(false,eval e env)::starEach es env:=by cases e <;> first | rfl | (simp[oN] at h)
theorem GZ {e:Expr} (h:oN e=true):lZ e:=by intro o i;cases e <;> first | rfl | (simp[oN] at h)
theorem Ar {e:Expr} (h:oN e=true) (op:CmpOp):behindInMarks op e=false:=by cases e <;> first | rfl | (simp[oN] at h)
theorem qB {e:Expr} (h:oN e=true) (env:Env):∀x,foldedSetIterable e env x=pure x:=by intro x;cases e <;> first | rfl | (simp[oN] at h)
theorem Aq {e:Expr} (h:oN e=true) (f:Str) (env:Env) (w:Sem Value):attributeBase e f env w=w:=by
 cases e with
 | Call fn args kws pos=>
  cases args with
  | nil=>cases fn <;> first | rfl | (simp[oN] at h)
  | cons a as=>cases fn <;> rfl
 | _=>rfl
theorem cO {X:Cx} {Φ:Fm} {Γ:Gm} {F:FT} {e:Expr} {c:C} (h:∀ρ S,cX F c ρ S= .bad):PT X e (eJ Φ Γ F c):=λpins s σ H Q I q=>by obtain⟨o,ρ,S,er,q⟩:=q;rw[h] at q;exact q.elim
section
variable {g:G} {xv:Nat->Value} {CX:jt} {k:Nat} {F:FT}
structure NI (g:G) (F:FT) (n:Nat) (Γ:Gm) (X:Cx) (Φ:Fm):Prop where
 e:∀e c,cE n g Γ e=some c->PE X e (bN Φ Γ F g.fr c)/\PT X e (eJ Φ Γ F c)/\oN e=true
 es:∀es cs,wg n g Γ es=some cs->PA X es (ll Φ Γ F cs)/\cs.len=es.length/\∀e∈es,oN e=true
 ts:∀es cs,Gj n g Γ es=some cs->CC X es (ug Φ Γ F cs)
 b:∀o es c pos,cB n g Γ o es=some c->PE X (.BoolOp o es pos) (bN Φ Γ F g.fr c)/\PW X (.BoolOp o es pos) (eJ Φ Γ F c)
 i:∀tg e it,cI n g Γ tg e=some it->PI X tg e (rE Φ Γ F it)/\oN e=true
 c:∀f a as c p pos,rY n g Γ f a as=some c->PE X (.Call (.Name f p) (a::as) [] pos) (bN Φ Γ F g.fr c)/\PT X (.Call (.Name f p) (a::as) [] pos) (eJ Φ Γ F c)
theorem nR {es:List Expr} {env:Env} {pos:Pos} (h:∀e∈es,oN e=true):(backTo pos (starEach es env)).any (·.1)=false:=by
 induction es with
 | nil=>rfl
 | cons e es ih=>rw[bZ (h e Qm)];show (false||(backTo pos (starEach es env)).any (·.1))=false;rw[ih λe' z=>h e' (Qj _ z)];rfl
theorem ko {x y:Str} (h:(x==y)=false):x≠y:=λe=>by subst e;rw[beq_self_eq_true] at h;cases h
theorem bC {x:Str} (h:cN x=true):(x==("__debug__":Str))=false/\(x==("__classdict__":Str))=false/\x≠"__name__":=by unfold cN at h;rw[Qf,Qf] at h;have h1:=h.1.1;have h2:=h.1.2;have h3:=h.2;rw[Bool.not_eq_true'] at h1 h2 h3;exact⟨h1,h2,ko h3⟩
noncomputable def Mt:C->Bool
 | .nt _ | .and .. | .or .. | .cmp .. | .ch .. | .var _ | .mvr _ | .call .. | .callD .. | .bi .. | .idx ..=>true
 | _=>false
theorem bE {F:FT} {c:C} {ρ:aj} {S:Sx} (h:Mt c=false):cX F c ρ S= .bad:=by cases c <;> first | rfl | cases h
theorem boot_dict:bootBuiltins "dict"=some (.type "dict"):=by decide +kernel
theorem v9:∀t∈v8,EB t.2.2=true/\bootBuiltins t.1=some (FE t.2.2):=by
 intro t ht;simp only[v8,Qs,Qt,or_false] at ht;rcases ht with rfl | rfl | rfl | rfl | rfl | rfl | rfl
 ·exact⟨rfl,PySem.boot_len⟩
 ·exact⟨rfl,PyProof.Rows.boot_min⟩
 ·exact⟨rfl,PyProof.Rows.boot_sum⟩
 ·exact⟨rfl,PyProof.Rows.boot_sorted⟩
 ·exact⟨rfl,PyProof.Rows.boot_tuple⟩
 ·exact⟨rfl,PyProof.Rows.boot_list⟩
 ·exact⟨rfl,boot_dict⟩
theorem zR {x:Str} {n:Nat} {b:BI} (h:ql x n=some b):EB b=true/\bootBuiltins x=some (FE b):=by unfold ql at h;obtain⟨t,h1,rfl⟩:=Qv.mp h;have hm:=List.mem_of_find?_eq_some h1;have hp:=List.find?_some h1;rw[Qf] at hp;rw[<-QD hp.1];exact v9 t hm
theorem CL {b:BI} (h:EB b=true):(∃id,FE b= .builtin id)\/∃T,FE b= .type T:=by cases b <;> first | exact .inl ⟨_,rfl⟩ | exact .inr ⟨_,rfl⟩ | cases h
theorem iP {x:Str} (h:g.bls.contains x=true):x∈g.bls:=by simpa using h
theorem Mb {X:Cx} {Φ:Fm} {Γ:Gm} {x:Str} {n:Nat} {b:BI} {a:Expr} {as:List Expr} {cs:Cs} {p pos:Pos} (hK:Φ.K=X.K) (gx:GX g Γ X) (hG:Gl X x) (hm:X.mg x=none) (hx:cN x=true) (hb:ql x n=some b) (hs:starEach (a::as) X.env=(false,eval a X.env)::starEach as X.env) (lJ:(backTo pos (starEach as X.env)).any (·.1)=false)
  (ha:PA X (a::as) (ll Φ Γ F cs)):PE X (.Call (.Name x p) (a::as) [] pos) (bN Φ Γ F g.fr (.bi b cs)):=by
 obtain⟨h1,h2⟩:=zR hb;obtain⟨n1,n2,n3⟩:=bC hx;have hc:=zS (X:=X) b h1 gx.calm gx.un;rcases CL h1 with ⟨id,e⟩ | ⟨T,e⟩
 ·rw[e] at h2 hc;exact bt (kC hc hG hm h2 ha n3 n1 hs lJ) λσ H Q q=>wN hK q
 ·rw[e] at h2 hc;exact bt (u5 hc hG hm h2 ha n3 n1 hs lJ) λσ H Q q=>wN hK q
theorem xE {X:Cx} {Φ:Fm} {sc:Scope} {N':List Str} {C:Addr} {s:Shared} {H:Hp} {fp:List Addr} (hX:HX g xv CX k F Φ X):HX g xv CX k F Φ (f6 X sc N' C s H fp (BJ X sc N' (jQ Φ xv) C s H fp)) where
 K:=hX.K
 P:=hX.P
 w:=hX.w
 fx:=hX.fx
 room:=hX.room
 cx:=hX.cx
 st:=ub hX.st
 xgx:=λe s' h=>Fu h
 xk:=hX.xk
theorem iD (n:Nat):∀(Γ:Gm) (X:Cx) (Φ:Fm),GX g Γ X->HX g xv CX k F Φ X->NI g F n Γ X Φ:=by
 induction n with
 | zero=>intro Γ X Φ gx hX;exact⟨λe c h=>by simp[cE] at h,λe c h=>by simp[wg] at h,λe c h=>by simp[Gj] at h,λo e c p h=>by simp[cB] at h,λo e c h=>by simp[cI] at h,λf a as c p q h=>by simp[rY] at h⟩
 | succ n ih=>
  intro Γ X Φ gx hX;have I:=ih Γ X Φ gx hX;have hK:=hX.K;have hu:=gx.un;refine⟨λe c h=>?_,λes cs h=>?_,λes cs h=>?_,λo es c pos h=>?_,λtg e it h=>?_,λf a as c p pos h=>?_⟩
  ·
   unfold cE at h;split at h
   ·split at h
    ·cases h;exact⟨pA rfl Eh,cO λρ S=>bE rfl,rfl⟩
    ·cases h;exact⟨pA rfl Ej,cO λρ S=>bE rfl,rfl⟩
    ·cases h;exact⟨pA rfl Ca,cO λρ S=>bE rfl,rfl⟩
    ·cases h;exact⟨pA rfl Ei,cO λρ S=>bE rfl,rfl⟩
    ·cases h
   ·
    rename_i x p;split at h
    ·rename_i i hi;obtain⟨v1,v2,v3⟩:=jO hi;obtain⟨n1,n2,n3⟩:=bC v2;have hv:PE X (.Name x p) (jq i):=qX (by rw[gx.N];exact v3) (gx.vis x v1) n1 n2;split at h
     ·cases h
     rename_i hδκ;split at h
     ·rename_i hm;cases h;have:=Im (Φ:=Φ) (F:=F) (fr:=g.fr) hv hm λz=>hδκ (by simp[z])
      exact⟨this,jL hK this (λ_=>rfl) (λρ S=>by rw[cX,ev];cases dG ρ i <;> rfl),rfl⟩
     ·rename_i hm;cases h;have:=Iv (Φ:=Φ) (F:=F) (fr:=g.fr) hv (by simpa using hm);exact⟨this,jL hK this (λ_=>rfl) (λρ S=>by rw[cX,ev];cases dG ρ i <;> rfl),rfl⟩
    ·split at h
     ·rename_i hg;rw[Qf] at hg;obtain⟨d,h1,rfl⟩:=Qv.mp h;obtain⟨u,k1,k2,k3⟩:=gx.con x d h1;exact⟨pA k1 (tG (gx.gl x hg.1) k2 k3 (bC hg.2).1),cO λρ S=>bE rfl,rfl⟩
     ·cases h
   ·obtain⟨a',h1,h⟩:=Qc.mp h;obtain⟨b',h2,h⟩:=Qc.mp h;cases h;exact⟨Ig hK (I.e _ _ h1).1 (I.e _ _ h2).1,cO λρ S=>bE rfl,rfl⟩
   ·obtain⟨a',h1,h9⟩:=Qc.mp h;clear h;split at h9
    ·cases h9;exact⟨Io (I.e _ _ h1).1,cO λρ S=>bE rfl,rfl⟩
    ·cases h9;exact⟨Mc (I.e _ _ h1).1,Iq (I.e _ _ h1).2.1,rfl⟩
    ·cases h9
   ·obtain⟨k1,k2⟩:=I.b _ _ _ _ h;exact⟨k1,k2.pt,rfl⟩
   ·split at h
    ·obtain⟨a',h1,h⟩:=Qc.mp h;obtain⟨b',h2,h⟩:=Qc.mp h;cases h;have hm:=Ar (I.e _ _ h2).2.2;exact⟨Ih hK hu (hm _) (I.e _ _ h1).1 (I.e _ _ h2).1,EJ hK hu (hm _) (I.e _ _ h1).1 (I.e _ _ h2).1,rfl⟩
    ·cases h
   ·split at h
    ·obtain⟨a',h1,h⟩:=Qc.mp h;obtain⟨b',h2,h⟩:=Qc.mp h;cases h;exact⟨EN hK (I.e _ _ h1).1 (I.e _ _ h2).1,cO λρ S=>bE rfl,rfl⟩
    ·obtain⟨a',h1,h⟩:=Qc.mp h;obtain⟨b',h2,h⟩:=Qc.mp h;cases h;exact⟨EM hK (I.e _ _ h1).1 (I.e _ _ h2).1,cO λρ S=>bE rfl,rfl⟩
    ·obtain⟨a',h1,h⟩:=Qc.mp h;obtain⟨b',h2,h⟩:=Qc.mp h;cases h;have k1:=λpos=>Ij (pos:=pos) hK (GZ (I.e _ _ h2).2.2) (I.e _ _ h1).1 (I.e _ _ h2).1
     refine⟨k1 _,jL hK (k1 _) (λ_=>rfl) (λρ S=>?_),rfl⟩;rw[cX,ev];cases ev F a' ρ S with
     | ok x=>
      simp only[R.ai];cases ev F b' ρ x.2 with
      | ok y=>simp only[R.ai];cases cc x.1 y.1 <;> rfl
      | ex k=>rfl
      | bad=>rfl
     | ex k=>rfl
     | bad=>rfl
   ·obtain⟨gj,h1,h⟩:=Qc.mp h;cases h;exact⟨Iu (I.es _ _ h1).1,cO λρ S=>bE rfl,rfl⟩
   ·obtain⟨gj,h1,h⟩:=Qc.mp h;cases h;exact⟨Il (I.es _ _ h1).1,cO λρ S=>bE rfl,rfl⟩
   ·split at h
    ·obtain⟨k1,k2⟩:=I.c _ _ _ _ _ _ h;exact⟨k1,k2,rfl⟩
    ·
     split at h
     ·rename_i hm;rw[Qf] at hm;have em:=QD hm.1;subst em;have NX:∀{oe a b:Expr} {ap pos:Pos} {c:C},(ap.endLine==pos.line)=true->((cE n g Γ oe).bind λo'=>(cE n g Γ a).bind λa'=>(cE n g Γ b).bind λb'=>some (C.gtO o' a' b'))=some c->PE X (.Call (.Attribute oe "get" ap) [a,b] [] pos) (bN Φ Γ F g.fr c)/\PT X (.Call (.Attribute oe "get" ap) [a,b] [] pos) (eJ Φ Γ F c)/\oN (.Call (.Attribute oe "get" ap) [a,b] [] pos)=true:=λ {oe a b ap pos c} hl h=>by obtain⟨o',h0,h⟩:=Qc.mp h;obtain⟨a',h1,h⟩:=Qc.mp h;obtain⟨b',h2,h⟩:=Qc.mp h;cases h;have e2:=bZ (I.e _ _ h2).2.2 [] X.env;exact⟨Ii hK (I.e _ _ h0).1 (I.e _ _ h1).1 (I.e _ _ h2).1 (Aq (I.e _ _ h0).2.2 _ _ _) (by rw[bZ (I.e _ _ h1).2.2,e2];rfl) e2 hl,cO λρ S=>bE rfl,rfl⟩
      exact NX hm.2 h
     ·cases h
    ·cases h
   ·
    rename_i elt gens sc pos;split at h
    ·rename_i hk;split at h
     ·rename_i tg it ifs;obtain⟨gz,h1,h⟩:=Qc.mp h;obtain⟨yU,h2,h⟩:=Qc.mp h;obtain⟨zC,h3,h⟩:=Qc.mp h;obtain⟨e',h4,h⟩:=Qc.mp h;split at h
      ·rename_i hb;cases h;rw[Qf] at hb;have Dg:sc.kind= .function:=QD hk;have B:=wc gx Dg hb.1;have pY:(bu Γ sc).1.N.Nodup:=Qh hb.2;have J:=λC s H fp=>ih (bu Γ sc).1 (f6 X sc (bu Γ sc).1.N C s H fp (BJ X sc (bu Γ sc).1.N (jQ Φ xv) C s H fp)) Φ (mF gx B pY) (xE hX)
       refine⟨bt (yd (xb:=BJ X sc (bu Γ sc).1.N (jQ Φ xv)) (body:=λacc env=>j3 elt acc env) gx.calm B (uo hX.st hX.xgx) (I.i _ _ _ h1).1 (λqI acc env=>pN ..) (λC s H fp=>ES (mF gx B pY) h2) (λC s H fp=>(J C s H fp).ts _ _ h3) (λC s H fp D=>tD ((J C s H fp).e _ _ h4).1) (qB (I.i _ _ _ h1).2 _)) λσ H Q q=>yA hK B pY h2 q,cO λρ S=>bE rfl,rfl⟩
      ·cases h
     ·cases h
    ·cases h
   ·cases h
  ·
   unfold wg at h;split at h
   ·cases h;exact⟨Ip,rfl,λe z=>by cases z⟩
   ·obtain⟨e',h1,h⟩:=Qc.mp h;obtain⟨gj,h2,h⟩:=Qc.mp h;cases h;obtain⟨k1,k2,k3⟩:=I.es _ _ h2;refine⟨EK (bZ (I.e _ _ h1).2.2 _ _) (I.e _ _ h1).1 k1,by simp[Cs.len,k2],λe z=>?_⟩;rcases Qs.mp z with rfl | z
    ·exact(I.e _ _ h1).2.2
    ·exact k3 e z
  ·
   unfold Gj at h;split at h
   ·cases h;exact λpins s σ H Q I q=>Bm pins s σ H Q I (by obtain⟨o,ρ,S,er,q⟩:=q;rw[cC] at q;exact q _ aU.refl er)
   ·obtain⟨e',h1,h⟩:=Qc.mp h;cases h;refine λpins s σ H Q I' q=>Bn (I.e _ _ h1).2.1 pins s σ H Q I' ?_
    obtain⟨o,ρ,S,er,q⟩:=q;rw[cC] at q;exact⟨o,ρ,S,er,q⟩
   ·cases h
  ·
   unfold cB at h;split at h
   ·rename_i e;have k1:=(I.e _ _ h).1;have k2:=(I.e _ _ h).2.1;refine⟨yh k1,?_⟩;cases o with
    | And=>exact Bo k2
    | Or=>exact Ey k2
   ·rename_i e es pZ;obtain⟨e',h1,h⟩:=Qc.mp h;obtain⟨gj,h2,h⟩:=Qc.mp h;cases h;cases es with
    | nil=>exact(pZ rfl).elim
    | cons b rest=>
     obtain⟨k1,k2⟩:=I.b o _ _ pos h2;cases o with
     | And=>exact⟨Ie (I.e _ _ h1).1 k1,EI (I.e _ _ h1).2.1 k2⟩
     | Or=>exact⟨Md (I.e _ _ h1).1 k1,Ir (I.e _ _ h1).2.1 k2⟩
   ·cases h
  ·
   unfold cI at h;split at h
   ·rename_i f p a q;split at h
    ·rename_i hf;have ef:=QD hf;subst ef;split at h
     ·rename_i hg;rw[Qf] at hg;obtain⟨a',h1,h⟩:=Qc.mp h;cases h;exact⟨EL (gx.gl _ hg.1) (gx.bl _ (iP hg.2)) (bZ (I.e _ _ h1).2.2 [] _) (I.e _ _ h1).1,rfl⟩
     ·cases h
    ·obtain⟨c,h1,h⟩:=Qc.mp h;cases h;exact⟨yB hK (I.e _ _ h1).1,rfl⟩
   ·rename_i f p a b q;split at h
    ·rename_i hf;have ef:=QD hf;subst ef;split at h
     ·cases h
     ·cases h
    split at h
    ·rename_i hf;have ef:=QD hf;subst ef;split at h
     ·split at h
      ·rename_i hg;rw[Qf] at hg;obtain⟨a',h1,h⟩:=Qc.mp h;obtain⟨b',h2,h⟩:=Qc.mp h;cases h;have e2:=bZ (I.e _ _ h2).2.2 [] X.env;exact⟨Iw hK (gx.gl _ hg.1) (gx.bl _ (iP hg.2)) (by rw[bZ (I.e _ _ h1).2.2,e2];rfl) e2 (I.e _ _ h1).1 (I.e _ _ h2).1,rfl⟩
      ·cases h
     ·cases h
    ·obtain⟨c,h1,h⟩:=Qc.mp h;cases h;exact⟨yB hK (I.e _ _ h1).1,rfl⟩
   ·obtain⟨c,h1,h⟩:=Qc.mp h;cases h;exact⟨yB hK (I.e _ _ h1).1,(I.e _ _ h1).2.2⟩
  ·
   have tr:∀{c:C},(∀ρ S,cX F c ρ S=(ev F c ρ S).bind λx=>(dy x.1).bind λb=> .ok (b,x.2))->PE X (.Call (.Name f p) (a::as) [] pos) (bN Φ Γ F g.fr c)->PE X (.Call (.Name f p) (a::as) [] pos) (bN Φ Γ F g.fr c)/\PT X (.Call (.Name f p) (a::as) [] pos) (eJ Φ Γ F c):=λhe h=>⟨h,jL hK h (λ_=>rfl) he⟩
   have MH:∀(b:BI) (cs:Cs) ρ S,cX F (.bi b cs) ρ S=(ev F (.bi b cs) ρ S).bind λx=>(dy x.1).bind λb=> .ok (b,x.2):=λb cs ρ S=>by
    rw[cX,ev];cases gL F cs ρ S with
    | ok x=>simp only[R.ai];cases ei b x.1 <;> rfl
    | ex k=>rfl
    | bad=>rfl
   have NP:∀(f:Nat) (cs:Cs) (ds:List Dt) ρ S,cX F (.call f cs ds) ρ S=(ev F (.call f cs ds) ρ S).bind λx=>(dy x.1).bind λb=> .ok (b,x.2):=λf cs ds ρ S=>by
    rw[cX,ev];cases gL F cs ρ S with
    | ok x=>simp only[R.ai];cases F f (x.1++ds) none <;> rfl
    | ex k=>rfl
    | bad=>rfl
   have PL:∀(f:Nat) (cs:Cs) ρ S,cX F (.callD f cs) ρ S=(ev F (.callD f cs) ρ S).bind λx=>(dy x.1).bind λb=> .ok (b,x.2):=λf cs ρ S=>by
    rw[cX,ev];cases S.isSome with
    | false=>rfl
    | true=>
     simp only[guard_true];cases gL F cs ρ S with
     | ok x=>
      simp only[R.ai];cases x.2 with
      | none=>rfl
      | some s=>rfl
     | ex k=>rfl
     | bad=>rfl
   unfold rY at h;split at h
   ·rename_i hg;rw[Qf] at hg;have KH:=gx.gl f hg.1;obtain⟨n1,n2,n3⟩:=bC hg.2;split at h
    ·rename_i kk np fy ba xt;split at h
     ·
      rename_i hdp;have:ba=true:=hdp;subst this;split at h
      ·rename_i y yp;split at h
       ·rename_i i hi;split at h
        ·cases h
        ·cases h
       ·cases h
      ·cases h
     ·rename_i hdp;have:ba=false:=by simpa using hdp
      subst this;split at h
      ·rename_i hn;rw[Qf] at hn;have a1:=Qh hn.1;have a2:=Qh hn.2;obtain⟨es,h1,h⟩:=Qc.mp h;cases h;obtain⟨k1,k2,k3⟩:=I.es _ _ h1;refine tr (NP _ _ _) (s_call hX KH n1 xt (Nat.sub_le _ _) ?_ (bZ (k3 a Qm) _ _) (nR λe z=>k3 e (Qj _ z)) k1);rw[k2,List.length_drop,Qy]
       lia
      ·cases h
    ·split at h
     ·rename_i hbl;have hm:=gx.bl f (iP hbl);split at h
      ·cases h
      split at h
      ·rename_i hisi;have ef:=QD hisi;subst ef;split at h
       ·rename_i t tp hnl;split at h
        ·rename_i hg2;rw[Qf] at hg2;obtain⟨T,h1,h⟩:=Qc.mp h;obtain⟨a',h2,h⟩:=Qc.mp h;cases h;have tn:t≠"__name__"/\(t==("__debug__":Str))=false:=by
          unfold rJ at h1;split at h1
          ·rename_i e;rw[QD e];exact⟨by decide,by decide⟩
          split at h1
          ·rename_i e;rw[QD e];exact⟨by decide,by decide⟩
          split at h1
          ·rename_i e;rw[QD e];exact⟨by decide,by decide⟩
          split at h1
          ·rename_i e;rw[QD e];exact⟨by decide,by decide⟩
          split at h1
          ·rename_i e;rw[QD e];exact⟨by decide,by decide⟩
          ·cases h1
         exact tr (MH _ _) (Ik hK KH hm (gx.gl t hg2.1) (gx.bl t (iP hg2.2)) h1 tn.1 tn.2 (bZ (I.e _ _ h2).2.2 _ _) (I.e _ _ h2).1)
        ·cases h
       ·cases h
      ·have regular:∀{c:C},((ql f (as.length + 1)).bind λi=>(wg n g Γ (a::as)).bind λes=>some (C.bi i es))=some c->PE X (.Call (.Name f p) (a::as) [] pos) (bN Φ Γ F g.fr c)/\PT X (.Call (.Name f p) (a::as) [] pos) (eJ Φ Γ F c):=λ {c} h=>by obtain⟨b,h1,h⟩:=Qc.mp h;obtain⟨es,h2,h⟩:=Qc.mp h;cases h;obtain⟨k1,k2,k3⟩:=I.es _ _ h2;exact tr (MH _ _) (Mb hK gx KH hm hg.2 h1 (bZ (k3 a Qm) _ _) (nR λe z=>k3 e (Qj _ z)) k1)
       split at h
       ·rename_i r rp b rq;split at h
        ·cases h
        split at h
        ·cases h
        ·exact regular h
       ·rename_i r rp b c rq zz;split at h
        ·cases h
        ·exact regular h
       ·exact regular h
     ·cases h
   ·cases h
end
structure OI (Φ:Fm) (W:Addr->Prop) (o:Ow):Prop where
 w:o.W=W
 d:∀a,Φ.d0=some a->o.dr=some a
structure SO (Φ:Fm) (Γ:Gm) (W:Addr->Prop) (o:Ow) (H:Hp) (ρ':aj) (S':Sx) (σ':L2.St) (H':Hp):Prop where
 ex:∃o',OI Φ W o'/\ER Φ Γ o' ρ' S' σ' H'/\∀b,o'.A b->o.A b\/H b=none
 ext:aU o.A H H'
 al:∀b x,H b=some x->∃y,H' b=some y
structure RO (Φ:Fm) (W:Addr->Prop) (fF:Bool) (d:Dt) (S':Sx) (v:V) (H':Hp):Prop where
 val:RV Φ.K W H' v d
 ent:aU (λb=>Φ.d0=some b) Φ.H0 H'
 drw:∀a,Φ.d0=some a->∃ns:List Int,S'=some ns/\H' a=some (.lst (ns.map V.int))
 ec:fF=true->∀ds,d= .lst ds->∃a xs,v= .ref a/\Φ.H0 a=none/\H' a=some (.lst xs)/\ao Φ.K (λb=>W b\/b=a) H' xs ds
noncomputable def cm (Φ:Fm) (Γ:Gm) (W:Addr->Prop) (fF:Bool) (o:Ow) (H:Hp) (D:Ends) (p:Fl×aj×Sx):Prop:=match p.1 with
 | .next=>∀σ' H',SO Φ Γ W o H p.2.1 p.2.2 σ' H'->D.nx σ' H'
 | .brk=>∀σ' H',SO Φ Γ W o H p.2.1 p.2.2 σ' H'->D.bk σ' H'
 | .cnt=>∀σ' H',SO Φ Γ W o H p.2.1 p.2.2 σ' H'->D.ct σ' H'
 | .ret d=>∀v H',RO Φ W fF d p.2.2 v H'->D.rt v H'
inductive jk (Φ:Fm) (Γ:Gm) (F:FT) (W:Addr->Prop) (fF:Bool) (t:T) (D:Ends) (σ:L2.St) (H:Hp):Prop
 | mk (o:Ow) (ρ:aj) (S:Sx) (i:OI Φ W o) (e:ER Φ Γ o ρ S σ H) (m:mR Φ.Ek (ex F t ρ S) (cm Φ Γ W fF o H D)):jk Φ Γ F W fF t D σ H
inductive jr (Φ:Fm) (Γ:Gm) (F:FT) (W:Addr->Prop) (fF:Bool) (t:Ts) (D:Ends) (σ:L2.St) (H:Hp):Prop
 | mk (o:Ow) (ρ:aj) (S:Sx) (i:OI Φ W o) (e:ER Φ Γ o ρ S σ H) (m:mR Φ.Ek (aP F t ρ S) (cm Φ Γ W fF o H D)):jr Φ Γ F W fF t D σ H
theorem bD {X:Cx} {e:Stmt} {t t':TS} (h:PS X e t) (hi:∀D σ H,t' D σ H->t D σ H):PS X e t':=λpins s σ H D I q=>h pins s σ H D I (hi D σ H q)
theorem tN {X:Cx} {e:List Stmt} {t t':TS} (h:nO X e t) (hi:∀D σ H,t' D σ H->t D σ H):nO X e t':=λpins s σ H D I q=>h pins s σ H D I (hi D σ H q)
section
variable {X:Cx} {Φ:Fm} {Γ:Gm} {F:FT} {g:G} {W:Addr->Prop} {fF:Bool} {o:Ow} {ρ:aj} {S:Sx} {σ:L2.St} {H H':Hp}
theorem ER.dA (er:ER Φ Γ o ρ S σ H) {H1:Hp} (e:aU o.d H H1):aU o.A H H1:=e.mono er.da
theorem ER.Ac {S1:Sx} {ρ1:aj} {σ1:L2.St} {H1:Hp} (aB:ER Φ Γ o ρ1 S1 σ1 H1) (e:aU o.d H H1):∀b x,H b=some x->∃y,H1 b=some y:=λb x h=>e.al h λz=>aB.al b (aB.da b z)
theorem SO.gH {S':Sx} {ρ':aj} {σ':L2.St} (oi:OI Φ W o) (er:ER Φ Γ o ρ' S' σ' H') (e:aU o.d H H'):SO Φ Γ W o H ρ' S' σ' H':=⟨⟨o,oi,er,λb z=> .inl z⟩,e.mono er.da,er.Ac e⟩
theorem SO.go {o':Ow} {H1 H2:Hp} {ρ2:aj} {S2:Sx} {σ2:L2.St} (e:aU o.A H H1) (hA:∀b,o'.A b->o.A b\/H b=none) (BY:∀b x,H b=some x->∃y,H1 b=some y) (h:SO Φ Γ W o' H1 ρ2 S2 σ2 H2):SO Φ Γ W o H ρ2 S2 σ2 H2:=by
 obtain⟨⟨o2,JI,fk,GG⟩,e2,a2⟩:=h;refine⟨⟨o2,JI,fk,λb z=>?_⟩,⟨λb x h n=>?_,λb xs h=>e2.tp _ _ (e.tp _ _ h)⟩,λb x h=>?_⟩
 ·rcases GG b z with q | q
  ·exact hA b q
  ·refine .inr ?_;cases hb:H b with
   | none=>rfl
   | some x=>obtain⟨y,hy⟩:=BY b x hb;rw[q] at hy;cases hy
 ·refine e2.kp _ _ (e.kp _ _ h n) λz=>?_
  rcases hA b z with q | q
  ·exact n q
  ·rw[h] at q;cases q
 ·obtain⟨y,hy⟩:=BY b x h;exact a2 b y hy
theorem nv {fr:Nat->Bool} {c:C} {d:Dt} {v:V} {H1:Hp} (h:bR c d=true) (eo:EO Φ.K fr o c H d v H1):RV Φ.K o.A H1 v d:=by
 unfold bR at h;rw[QV] at h;rcases h with h | h
 ·exact eo.dc (Qh h)
 ·exact eo.val.iJ h
theorem Cq {i:Nat} {c:C} {st:Stmt} (hp:plainS Γ i=true) (h:PS X st (pI (bN Φ Γ F g.fr c) (dX i))):PS X st (jk Φ Γ F W fF (.asg i c)):=bD h λD σ H q=>by obtain⟨o,ρ,S,oi,er,q⟩:=q;unfold ex at q;rw[ae] at q;refine⟨o,ρ,S,er,ah q λp _ q v H1 eo aB=>?_⟩;obtain⟨gs,q⟩:=aM q;exact q _ _ (SO.gH oi (aB.set hp (nv gs eo)) eo.ext)
theorem Fo {i:Nat} {c:C} {st:Stmt} (hp:plainS Γ i=true) (hf:fresh g.fr c=true) (h:PS X st (pI (bN Φ Γ F g.fr c) (dX i))):PS X st (jk Φ Γ F W fF (.asgM i c)):=bD h λD σ H q=>by
 obtain⟨o,ρ,S,oi,er,q⟩:=q;unfold ex at q;rw[ae] at q;refine⟨o,ρ,S,er,ah q λp _ q v H1 eo aB=>?_⟩;obtain⟨gs,q⟩:=aM q;have hv:RV Φ.K o.A H1 v p.1:=by
  by_cases hd:∃ds,p.1= .lst ds
  ·obtain⟨ds,hd⟩:=hd;obtain⟨a,xs,rfl,h1,h2,h3,h4⟩:=eo.ec hf ds hd;have na:¬o.A a:=λz=>by obtain⟨x,hx⟩:=er.al a z;rw[h1] at hx;cases hx
   rw[hd] at gs ⊢;refine RV.dm h2 na ?_;unfold kK at gs;rcases Bool.or_eq_true_iff.mp gs with z | z
   ·exact(h4 (Qh z)).weak λb w=> .inl w
   ·exact h3.i0 z
  ·refine nv ?_ eo;unfold kK at gs;unfold bR;cases hq:p.1 with
   | lst ds=>exact absurd ⟨ds,hq⟩ hd
   | _=>rw[hq] at gs;exact gs
 exact q _ _ (SO.gH oi (aB.set hp hv) eo.ext)
theorem ER.own {S1:Sx} {H1:Hp} {fr:Nat->Bool} {c:C} {d:Dt} {v:V} {i:Nat} (oi:OI Φ W o) (er:ER Φ Γ o ρ S σ H) (aB:ER Φ Γ o ρ S1 σ H1) (hm:eV Γ i=true) (hδ:Γ.δ≠some i) (hf:fresh fr c=true) (hl:kK c d=true) (eo:EO Φ.K fr o c H d v H1):
  ∃o',OI Φ W o'/\ER Φ Γ o' (ρ.set i (some d)) S1 (σ.set i (some v)) H1/\∀b,o'.A b->o.A b\/H b=none:=by
 by_cases hd:∃ds,d= .lst ds
 ·obtain⟨ds,rfl⟩:=hd;obtain⟨a,xs,rfl,h1,h2,h3,h4⟩:=eo.ec hf ds rfl;have h4:ao Φ.K (λb=>o.A b\/b=a) H1 xs ds:=by
   unfold kK at hl;rcases Bool.or_eq_true_iff.mp hl with l | l
   ·exact h4 (Qh l)
   ·exact h3.i0 l
  have nA:¬o.A a:=λz=>by obtain⟨y,hy⟩:=er.al a z;rw[h1] at hy;cases hy
  have h0:Φ.H0 a=none:=by
   cases q:Φ.H0 a with
   | none=>rfl
   | some x=>
    by_cases vB:Φ.d0=some a
    ·exact absurd (er.da a (oi.d a vB)) nA
    ·rw[er.ent.kp a x q vB] at h1;cases h1
  have av:∀b,(o.A b\/b=a)->o.A b\/H b=none:=λb z=>z.elim .inl λe=> .inr (by rw[e];exact h1)
  have dA:∀b,o.d b->(o.A b\/b=a):=λb z=> .inl (er.da b z)
  refine⟨⟨o.W,λb=>o.A b\/b=a,o.dr⟩,⟨oi.w,oi.d⟩,⟨?_,λb z=> .inl (er.wa b z),λb z=> .inl (er.da b z),λb z=>?_,λj e he=>?_,Dk.set er.dk rfl,λj j' b e e' m m' k1 k2 k3 k4=>?_,aB.drw,aB.drn,λj b hj hb=>?_,aB.dr0,aB.ent⟩,av⟩
  ·rw[List.length_set,List.length_set];exact er.len
  ·rcases z with z | z
   ·exact aB.al b z
   ·rw[z];exact⟨_,h2⟩
  ·by_cases hj:j=i
   ·subst hj;rw[List.getElem?_set] at he;simp only[if_true] at he;split at he
    ·rename_i cH;cases he;refine⟨.ref a,by rw[Q0 (by rw[er.len];exact cH)],?_⟩;rw[if_pos hm];exact⟨a,xs,rfl,h2,.inr rfl,λz=>nA (er.wa a z),λz=>nA (er.da a z),h0,h4⟩
    ·cases he
   ·rw[Qx (Ne.symm hj)] at he;obtain⟨w,k1,k2⟩:=er.val j e he;refine⟨w,by rw[Qx (Ne.symm hj)];exact k1,?_⟩;by_cases hmj:eV Γ j=true
    ·rw[if_pos hmj] at k2 ⊢;cases e with
     | lst es=>obtain⟨b,ys,e1,e2,e3,e4,e5,e6,e7⟩:=k2;exact⟨b,ys,e1,eo.ext.kp _ _ e2 e5,.inl e3,e4,e5,e6,(e7.b5 av).mono eo.ext dA λ_ z=>z⟩
     | fL=>exact k2.elim
     | _=>exact(RV.b5 av k2).mono eo.ext dA λ_ z=>z
    ·rw[if_neg hmj] at k2 ⊢;exact(k2.b5 av).mono eo.ext dA λ_ z=>z
  ·
   have other:∀{j:Nat} {e:List Dt} {b:Addr},j≠i->eV Γ j=true->(ρ.set i (some (.lst ds)))[j]?=some (some (.lst e))->(σ.set i (some (.ref a)))[j]?=some (some (.ref b))->b≠a/\ρ[j]?=some (some (.lst e))/\σ[j]?=some (some (.ref b)):=λ {j e b} hj m k1 k3=>by rw[Qx (Ne.symm hj)] at k1 k3;obtain⟨w,n1,n2⟩:=er.val j _ k1;rw[if_pos m] at n2;obtain⟨b',ys,e1,e2,_⟩:=n2;rw[k3] at n1;cases n1;cases e1;refine⟨λz=>?_,k1,k3⟩;rw[z,h1] at e2;cases e2
   by_cases hj:j=i
   ·by_cases zv:j'=i
    ·rw[hj,zv]
    ·obtain⟨n,_,_⟩:=other zv m' k2 k4;subst hj;have cH:j < σ.length:=by have:=(Qi.mp k3).1;rw[List.length_set] at this;exact this
     rw[Q0 cH] at k3;cases k3;exact absurd rfl n
   ·obtain⟨n,p1,p2⟩:=other hj m k1 k3;by_cases zv:j'=i
    ·subst zv;have cH:j' < σ.length:=by have:=(Qi.mp k4).1;rw[List.length_set] at this;exact this
     rw[Q0 cH] at k4;cases k4;exact absurd rfl n
    ·obtain⟨_,p3,p4⟩:=other zv m' k2 k4;exact er.inj j j' b e e' m m' p1 p3 p2 p4
  ·rw[Qx (λz=>hδ (by rw[z];exact hj))];exact aB.drs j b hj hb
 ·
  have nl:∀e,d≠ .lst e:=λe z=>hd ⟨e,z⟩
  have hv:RV Φ.K o.A H1 v d:=by
   unfold kK at hl;rcases Bool.or_eq_true_iff.mp hl with l | l
   ·exact eo.dc (Qh l)
   ·cases d with
    | lst ds=>exact absurd rfl (nl ds)
    | _=>exact eo.val.iJ l
  refine⟨o,oi,⟨?_,aB.wa,aB.da,aB.al,λj e he=>?_,Dk.set aB.dk hv.nd,λj j' b e e' m m' k1 k2 k3 k4=>?_,aB.drw,aB.drn,λj b hj hb=>?_,aB.dr0,aB.ent⟩,λb z=> .inl z⟩
  ·rw[List.length_set,List.length_set];exact er.len
  ·by_cases hj:j=i
   ·subst hj;rw[List.getElem?_set] at he;simp only[if_true] at he;split at he
    ·rename_i cH;cases he;refine⟨v,by rw[Q0 (by rw[er.len];exact cH)],?_⟩;rw[if_pos hm];cases d with
     | lst ds=>exact absurd rfl (nl ds)
     | fL=>cases hv.nd
     | _=>exact hv
    ·cases he
   ·rw[Qx (Ne.symm hj)] at he;obtain⟨w,k1,k2⟩:=aB.val j e he;exact⟨w,by rw[Qx (Ne.symm hj)];exact k1,k2⟩
  ·have other:∀{j:Nat} {e:List Dt},(ρ.set i (some d))[j]?=some (some (.lst e))->j≠i:=λ {j e} k1 z=>by
    subst z;rw[List.getElem?_set] at k1;simp only[if_true] at k1;split at k1
    ·cases k1;exact nl e rfl
    ·cases k1
   have n1:=other k1;have n2:=other k2;rw[Qx (Ne.symm n1)] at k1 k3;rw[Qx (Ne.symm n2)] at k2 k4;exact aB.inj j j' b e e' m m' k1 k2 k3 k4
  ·rw[Qx (λz=>hδ (by rw[z];exact hj))];exact aB.drs j b hj hb
theorem Fk {i:Nat} {c:C} {st:Stmt} (hm:eV Γ i=true) (hδ:Γ.δ≠some i) (hf:fresh g.fr c=true) (h:PS X st (pI (bN Φ Γ F g.fr c) (dX i))):PS X st (jk Φ Γ F W fF (.asgM i c)):=bD h λD σ H q=>by obtain⟨o,ρ,S,oi,er,q⟩:=q;unfold ex at q;rw[ae] at q;refine⟨o,ρ,S,er,ah q λp _ q v H1 eo aB=>?_⟩;obtain⟨gs,q⟩:=aM q;exact q _ _ ⟨ER.own oi er aB hm hδ hf gs eo,er.dA eo.ext,aB.Ac eo.ext⟩
end
section
variable {X:Cx} {Φ:Fm} {Γ:Gm} {F:FT} {g:G} {W:Addr->Prop} {fF:Bool} {o:Ow} {ρ:aj} {S:Sx} {σ:L2.St} {H H':Hp}
theorem jI {Ek:Nat->Prop} {ρ:aj} {i:Nat} {P:List Dt->Prop} (h:mR Ek (oU ρ i) P):∃ds,ρ[i]?=some (some (.lst ds))/\P ds:=by
 unfold oU at h;split at h
 ·exact⟨_,by assumption,h⟩
 ·exact h.elim
theorem y7 {a:Addr} {u:HO}:∀b x,H b=some x->∃y,upd H a u b=some y:=λb x h=>by
 by_cases z:b=a
 ·subst z;exact⟨_,aE⟩
 ·exact⟨x,by rw[aG z];exact h⟩
theorem mM {ρ:aj} {i:Nat} (h:isLE ρ i=true):∃ds,ρ[i]?=some (some (.lst ds)):=by
 unfold isLE at h;split at h
 ·exact⟨_,by assumption⟩
 ·cases h
theorem ER.chg {i:Nat} {a:Addr} {ds es:List Dt} {xs ys:List V} (er:ER Φ Γ o ρ S σ H) (hm:eV Γ i=true) (hr:ρ[i]?=some (some (.lst ds))) (hs:σ[i]?=some (some (.ref a))) (hx:H a=some (.lst xs)) (hy:ao Φ.K o.A H ys es):
  ER Φ Γ o (ρ.set i (some (.lst es))) S σ (upd H a (.lst ys))/\aU o.A H (upd H a (.lst ys))/\∀b x,H b=some x->∃y,upd H a (.lst ys) b=some y:=by
 obtain⟨v,h1,h2⟩:=er.val i _ hr;rw[if_pos hm] at h2;rw[hs] at h1;cases h1;obtain⟨b,zs,e1,e2,e3,e4,e5,e6,e7⟩:=h2;cases e1;have up:aU (λb=>b=a) H (upd H a (.lst ys)):=⟨λb o h n=>by rw[aG n];exact h,Mx.kS hx⟩;have sub:∀b,b=a->o.A b:=λb z=>by rw[z];exact e3
 refine⟨⟨by rw[List.length_set];exact er.len,er.wa,er.da,λb hb=>?_,λj d hd=>?_,Dk.set er.dk rfl,λj j' b d d' m m' k1 k2 k3 k4=>?_,λb hb=>?_,er.drn,er.drs,er.dr0,?_⟩,up.mono sub,y7⟩
 ·obtain⟨x,hx⟩:=er.al b hb;exact y7 b x hx
 ·by_cases hj:j=i
  ·subst hj;rw[List.getElem?_set] at hd;simp only[if_true] at hd;split at hd
   ·cases hd;refine⟨.ref a,hs,?_⟩;rw[if_pos hm];exact⟨a,ys,rfl,aE,e3,e4,e5,e6,hy.mono up sub λ_ z=>z⟩
   ·cases hd
  ·rw[Qx (Ne.symm hj)] at hd;obtain⟨w,k1,k2⟩:=er.val j d hd;refine⟨w,k1,?_⟩;by_cases hmj:eV Γ j=true
   ·rw[if_pos hmj] at k2 ⊢;cases d with
    | lst dl=>obtain⟨b,PH,n1,n2,n3,n4,n5,n6,n7⟩:=k2;refine⟨b,PH,n1,up.kp _ _ n2 (λz=>?_),n3,n4,n5,n6,n7.mono up sub λ_ z=>z⟩;subst n1 z;exact hj (er.inj j i b dl ds hmj hm hd hr k1 hs)
    | fL=>exact k2.elim
    | _=>exact RV.mono up sub (λ_ z=>z) k2
   ·rw[if_neg hmj] at k2 ⊢;exact k2.mono up sub λ_ z=>z
 ·have same:∀{j:Nat} {d:List Dt},(ρ.set i (some (.lst es)))[j]?=some (some (.lst d))->∃d',ρ[j]?=some (some (.lst d')):=λ {j d} q=>by
   by_cases hj:j=i
   ·subst hj;exact⟨ds,hr⟩
   ·rw[Qx (Ne.symm hj)] at q;exact⟨d,q⟩
  obtain⟨d1,q1⟩:=same k1;obtain⟨d2,q2⟩:=same k2;exact er.inj j j' b d1 d2 m m' q1 q2 k3 k4
 ·obtain⟨ns,n1,n2⟩:=er.drw b hb;exact⟨ns,n1,up.kp _ _ n2 λz=>e5 (by rw[<-z];exact hb)⟩
 ·refine⟨λb x h n=>up.kp _ _ (er.ent.kp b x h n) λz=>?_,λb xs h=>up.tp _ _ (er.ent.tp b xs h)⟩;subst z;rw[h] at e6;cases e6
theorem gE {i:Nat} {ds:List Dt} (er:ER Φ Γ o ρ S σ H) (hm:eV Γ i=true) (hr:ρ[i]?=some (some (.lst ds))):∃a xs,σ[i]?=some (some (.ref a))/\H a=some (.lst xs)/\ao Φ.K o.A H xs ds:=by obtain⟨v,h1,h2⟩:=er.val i _ hr;rw[if_pos hm] at h2;obtain⟨a,xs,e1,e2,e3,e4,e5,e6,e7⟩:=h2;subst e1;exact⟨a,xs,h1,e2,e7⟩
theorem IW {i:Nat} {c:C} {st:Stmt} (hm:eV Γ i=true) (h:PS X st (pJ (Mi X.K "list" tU (jq i) (yR (bN Φ Γ F g.fr c) E0)))):PS X st (jk Φ Γ F W fF (.app i c)):=bD h λD σ H q=>by obtain⟨o,ρ,S,oi,er,q⟩:=q;unfold ex at q;obtain⟨gl,q⟩:=aM q;obtain⟨ds,hr⟩:=mM gl;obtain⟨a,xs,h1,h2,h3⟩:=gE er hm hr;rw[ae] at q;refine⟨.ref a,h1,.inl ⟨rfl,_,dE.of h2⟩,o,ρ,S,er,ah q λp _ q v H1 eo aB=>?_⟩;obtain⟨gs,q⟩:=aM q;rw[ae] at q;obtain⟨vy,e1,q⟩:=jI q;rw[hr] at e1;cases e1;obtain⟨gl,q⟩:=aM q;obtain⟨a',vv,kX,jB,sH⟩:=gE aB hm hr;rw[h1] at kX;cases kX;have gM:=bV;have zy:=sizeLine_eq;have PZ:lim=1000000:=rfl;have FJ:=Qh gl;refine⟨a,vv,v,rfl,rfl,jB,by rw[sH.length];lia,?_⟩;obtain⟨k1,k2,k3⟩:=aB.chg hm hr h1 jB (sH.append (ao.cons (nv gs eo) ao.nil));exact q _ _ (SO.go (er.dA eo.ext) (λb z=> .inl z) (aB.Ac eo.ext) ⟨⟨o,oi,k1,λb z=> .inl z⟩,k2,k3⟩)
theorem Jd {i:Nat} {c:C} {st:Stmt} (hm:eV Γ i=true) (h:PS X st (pJ (Mi X.K "list" Mx.Cf (jq i) (yR (bN Φ Γ F g.fr c) E0)))):PS X st (jk Φ Γ F W fF (.xtd i c)):=bD h λD σ H q=>by
 obtain⟨o,ρ,S,oi,er,q⟩:=q;unfold ex at q;obtain⟨gl,q⟩:=aM q;obtain⟨ds,hr⟩:=mM gl;obtain⟨a,xs,h1,h2,h3⟩:=gE er hm hr;rw[ae] at q;refine⟨.ref a,h1,.inl ⟨rfl,_,dE.of h2⟩,o,ρ,S,er,ah q λp _ q v H1 eo aB=>?_⟩;obtain⟨gs,q⟩:=aM q;rw[ae] at q;obtain⟨vy,e1,q⟩:=jI q;rw[hr] at e1;cases e1;obtain⟨a',vv,kX,jB,sH⟩:=gE aB hm hr;rw[h1] at kX;cases kX;cases hd:p.1 with
 | lst es=>rw[hd] at q eo;obtain⟨gl,q⟩:=aM q;obtain⟨b,zs,rfl,f1,f2⟩:=eo.nL (Qh gs);have gM:=bV;have FJ:=Qh gl;refine⟨a,b,vv,zs,rfl,rfl,jB,.inl f1,by rw[sH.length,f2.length];lia,?_⟩;obtain⟨k1,k2,k3⟩:=aB.chg hm hr h1 jB (sH.append f2);exact q _ _ (SO.go (er.dA eo.ext) (λb z=> .inl z) (aB.Ac eo.ext) ⟨⟨o,oi,k1,λb z=> .inl z⟩,k2,k3⟩)
 | tup es=>rw[hd] at q eo;obtain⟨gl,q⟩:=aM q;obtain⟨b,zs,rfl,f1,f2⟩:=RV.af (eo.nL (Qh gs));have gM:=bV;have FJ:=Qh gl;refine⟨a,b,vv,zs,rfl,rfl,jB,.inr f1,by rw[sH.length,f2.length];lia,?_⟩;obtain⟨k1,k2,k3⟩:=aB.chg hm hr h1 jB (sH.append f2);exact q _ _ (SO.go (er.dA eo.ext) (λb z=> .inl z) (aB.Ac eo.ext) ⟨⟨o,oi,k1,λb z=> .inl z⟩,k2,k3⟩)
 | _=>rw[hd] at q;exact q.elim
theorem IY {i:Nat} {st:Stmt} (hm:eV Γ i=true) (h:PS X st (pJ (IG X.K "list" yx (jq i)))):PS X st (jk Φ Γ F W fF (.clr i)):=bD h λD σ H q=>by obtain⟨o,ρ,S,oi,er,q⟩:=q;unfold ex at q;rw[ae] at q;obtain⟨ds,hr,q⟩:=jI q;obtain⟨a,xs,h1,h2,h3⟩:=gE er hm hr;obtain⟨k1,k2,k3⟩:=er.chg hm hr h1 h2 (ao.nil (K:=Φ.K) (A:=o.A));exact⟨.ref a,h1,.inl ⟨rfl,_,dE.of h2⟩,a,xs,rfl,rfl,h2,q _ _ ⟨⟨o,oi,k1,λb z=> .inl z⟩,k2,k3⟩⟩
theorem Ft {i:Nat} {k v:C} {st:Stmt} (hm:eV Γ i=true) (h:PS X st (pI (bN Φ Γ F g.fr v) (GC (jq i) (bN Φ Γ F g.fr k) Ci))):PS X st (jk Φ Γ F W fF (.yF i k v)):=bD h λD σ H q=>by
 obtain⟨o,ρ,S,oi,er,q⟩:=q;unfold ex at q;obtain⟨gl,q⟩:=aM q;obtain⟨ds,hr⟩:=mM gl;obtain⟨a,xs,h1,h2,h3⟩:=gE er hm hr;rw[ae] at q;refine⟨o,ρ,S,er,ah q λp _ q x H1 eo aB=>?_⟩;rw[ae] at q;refine⟨.ref a,h1,o,ρ,p.2,aB,ah q λp2 _ q y H2 eo2 fk=>?_⟩;obtain⟨gs,q⟩:=aM q;rw[ae] at q;obtain⟨vy,e1,q⟩:=jI q;rw[hr] at e1;cases e1;obtain⟨a',vv,kX,jB,sH⟩:=gE fk hm hr;rw[h1] at kX;cases kX;cases hd:p2.1 with
 | int n=>
  rw[hd] at q eo2;simp only at q;cases hj:mO ds.length n with
  | none=>rw[hj] at q;exact q.elim
  | some j=>
   rw[hj] at q;have hx:RV Φ.K o.A H2 x p.1:=by
    unfold bR at gs;rw[QV] at gs;obtain⟨k1,k2,k3⟩:=eo.keep eo2.ext er.gK;rcases gs with gs | gs
    ·exact k2 (Qh gs)
    ·exact k1.iJ gs
   refine⟨a,vv,n,j,rfl,eo2.val.int_inv,jB,by rw[sH.length];exact hj,?_⟩;obtain⟨k1,k2,k3⟩:=fk.chg hm hr h1 jB (sH.set j hx);exact q _ _ (SO.go (er.dA (eo.ext.trans eo2.ext)) (λb z=> .inl z) (fk.Ac (eo.ext.trans eo2.ext)) ⟨⟨o,oi,k1,λb z=> .inl z⟩,k2,k3⟩)
 | _=>rw[hd] at q;exact q.elim
theorem Ja {c:C} {st:Stmt} (h:PS X st (pJ (bN Φ Γ F g.fr c))):PS X st (jk Φ Γ F W fF (.Gv c)):=bD h λD σ H q=>by obtain⟨o,ρ,S,oi,er,q⟩:=q;unfold ex at q;rw[ae] at q;exact⟨o,ρ,S,er,ah q λp _ q v H1 eo aB=>q _ _ (SO.gH oi aB eo.ext)⟩
theorem ER.h0 {a:Addr} (oi:OI Φ W o) (er:ER Φ Γ o ρ S σ H) (h:H a=none):Φ.H0 a=none:=by
 cases q:Φ.H0 a with
 | none=>rfl
 | some x=>
  by_cases vB:Φ.d0=some a
  ·obtain⟨y,hy⟩:=er.al a (er.da a (oi.d a vB));rw[h] at hy;cases hy
  ·rw[er.ent.kp a x q vB] at h;cases h
theorem Cr {c:C} {st:Stmt} (hf:fF=true->fresh g.fr c=true) (h:PS X st (E4 (bN Φ Γ F g.fr c))):PS X st (jk Φ Γ F W fF (.ret c)):=bD h λD σ H q=>by
 obtain⟨o,ρ,S,oi,er,q⟩:=q;unfold ex at q;rw[ae] at q;refine⟨o,ρ,S,er,ah q λp M3 q v H1 eo aB=>?_⟩;have hw:∀b,W b->o.wd b:=λb z=> .inl (by rw[oi.w];exact z)
 refine q _ _ ⟨eo.val.weak hw,aB.ent,λa ha=>aB.drw a (oi.d a ha),λhfF ds ed=>?_⟩;obtain⟨a,xs,h1,h2,h3,h4,_⟩:=eo.ec (hf hfF) ds ed;exact⟨a,xs,h1,er.h0 oi h2,h3,h4.weak λb z=>z.imp (hw b) id⟩
theorem Fq {i:Nat} {st:Stmt} (hm:eV Γ i=true) (hκ:Γ.κ≠some i) (h:PS X st (E4 (jq i))):PS X st (jk Φ Γ F W fF (.ret (.mvr i))):=bD h λD σ H q=>by
 obtain⟨o,ρ,S,oi,er,q⟩:=q;unfold ex ev at q;rw[ae,ae] at q;obtain⟨d,hd,q⟩:=mB q;obtain⟨v,k1,k2⟩:=er.val i d hd;rw[if_pos hm] at k2;have hw:∀b,W b->o.wd b:=λb z=> .inl (by rw[oi.w];exact z)
 have O5:∀b,W b->o.A b:=λb z=>er.wa b (by rw[oi.w];exact z)
 refine⟨v,k1,q _ _ ⟨(k2.val (er.nd hd hκ) er.wa er.da).weak hw,er.ent,λa ha=>er.drw a (oi.d a ha),λhfF ds ed=>?_⟩⟩;simp only at ed;subst ed;obtain⟨a,xs,e1,e2,e3,e4,e5,e6,e7⟩:=k2;exact⟨a,xs,e1,e6,e2,e7.weak λb z=>z.elim (O5 b) λy=>by rw[y];exact e3⟩
theorem Fs {st:Stmt} (h:PS X st Cp):PS X st (jk Φ Γ F W fF .retN):=bD h λD σ H q=>by obtain⟨o,ρ,S,oi,er,q⟩:=q;exact q _ _ ⟨RV.gC,er.ent,λa ha=>er.drw a (oi.d a ha),λ_ ds ed=>by cases ed⟩
theorem Fp {st:Stmt} (h:PS X st yT):PS X st (jk Φ Γ F W fF .pas):=bD h λD σ H q=>by obtain⟨o,ρ,S,oi,er,q⟩:=q;exact q _ _ (SO.gH oi er aU.refl)
theorem IX {st:Stmt} (h:PS X st yQ):PS X st (jk Φ Γ F W fF .brk):=bD h λD σ H q=>by obtain⟨o,ρ,S,oi,er,q⟩:=q;exact q _ _ (SO.gH oi er aU.refl)
theorem IZ {st:Stmt} (h:PS X st Co):PS X st (jk Φ Γ F W fF .cnt):=bD h λD σ H q=>by obtain⟨o,ρ,S,oi,er,q⟩:=q;exact q _ _ (SO.gH oi er aU.refl)
theorem cm.go {o':Ow} {H1:Hp} {D D':Ends} {p:Fl×aj×Sx} (e:aU o.A H H1) (hA:∀b,o'.A b->o.A b\/H b=none) (BY:∀b x,H b=some x->∃y,H1 b=some y)
  (hn:∀σ' H',D.nx σ' H'->D'.nx σ' H') (hb:∀σ' H',D.bk σ' H'->D'.bk σ' H') (hc:∀σ' H',D.ct σ' H'->D'.ct σ' H') (hr:∀v H',D.rt v H'->D'.rt v H') (h:cm Φ Γ W fF o H D p):cm Φ Γ W fF o' H1 D' p:=by
 unfold cm at h ⊢;cases hp:p.1 with
 | next=>rw[hp] at h;exact λσ' H' so=>hn _ _ (h σ' H' (SO.go e hA BY so))
 | brk=>rw[hp] at h;exact λσ' H' so=>hb _ _ (h σ' H' (SO.go e hA BY so))
 | cnt=>rw[hp] at h;exact λσ' H' so=>hc _ _ (h σ' H' (SO.go e hA BY so))
 | ret d=>rw[hp] at h;exact λv H' ro=>hr _ _ (h v H' ro)
theorem zg:nO X [] (jr Φ Γ F W fF .nil):=tN Bk λD σ H q=>by obtain⟨o,ρ,S,oi,er,q⟩:=q;exact q _ _ (SO.gH oi er aU.refl)
theorem BK {st:Stmt} {kY:List Stmt} {t:T} {ts:Ts} (h1:PS X st (jk Φ Γ F W fF t)) (h2:nO X kY (jr Φ Γ F W fF ts)):nO X (st::kY) (jr Φ Γ F W fF (.cons t ts)):=tN (pq h1 h2) λD σ H q=>by
 obtain⟨o,ρ,S,oi,er,q⟩:=q;unfold aP at q;rw[ae] at q;refine⟨o,ρ,S,oi,er,ah q λp _ q=>?_⟩;unfold cm;cases hp:p.1 with
 | next=>rw[hp] at q;intro σ1 H1 so;obtain⟨⟨o1,LI,aB,KC⟩,e1,a1⟩:=so;exact⟨o1,p.2.1,p.2.2,LI,aB,ah q λp2 _ q=>cm.go e1 KC a1 (λ_ _ z=>z) (λ_ _ z=>z) (λ_ _ z=>z) (λ_ _ z=>z) q⟩
 | brk=>rw[hp] at q;exact q
 | cnt=>rw[hp] at q;exact q
 | ret d=>rw[hp] at q;exact q
theorem Jc {t:C} {a b:Ts} {st:Stmt} (h:PS X st (IJ (eJ Φ Γ F t) (jr Φ Γ F W fF a) (jr Φ Γ F W fF b))):PS X st (jk Φ Γ F W fF (.ifs t a b)):=bD h λD σ H q=>by
 obtain⟨o,ρ,S,oi,er,q⟩:=q;unfold ex at q;rw[ae] at q;refine⟨o,ρ,S,er,ah q λp _ q H1 e1 aB=>?_⟩;have go:∀{ts:Ts},mR Φ.Ek (aP F ts ρ p.2) (cm Φ Γ W fF o H D)->jr Φ Γ F W fF ts D σ H1:=λq=>⟨o,ρ,p.2,oi,aB,ah q λp2 _ q=>cm.go (er.dA e1) (λb z=> .inl z) (aB.Ac e1) (λ_ _ z=>z) (λ_ _ z=>z) (λ_ _ z=>z) (λ_ _ z=>z) q⟩
 cases hp:p.1 with
 | true=>rw[hp] at q;exact Hj (go q)
 | false=>rw[hp] at q;exact Hi (go q)
theorem Jb {tg:Tg} {it:nN} {b:Ts} {st:Stmt} (hK:Φ.K=X.K) (hp:∀i∈bJ tg,plainS Γ i=true) (h:PS X st (II (rE Φ Γ F it) (FU X.K tg) (jr Φ Γ F W fF b))):PS X st (jk Φ Γ F W fF (.fr tg it b)):=bD h λD σ H q=>by
 obtain⟨o,ρ,S,oi,er,q⟩:=q;unfold ex at q;rw[ae] at q;refine⟨o,ρ,S,er,ah q λp _ q J H1 io aB=>?_⟩;obtain⟨gs,q⟩:=aM q;have wk:Wk Φ.K o.A o.A J H1 p.1:=(Bool.or_eq_true_iff.mp gs).elim (λz=>io.w0 (Qh z)) io.w2;refine⟨λi m σ2 H2=>m=p.1.length - i/\i<=p.1.length/\∃o2 ρ2 S2,OI Φ W o2/\ER Φ Γ o2 ρ2 S2 σ2 H2/\aU o.A H1 H2/\(∀b,o2.A b->o.A b\/H1 b=none)/\(∀b x,H1 b=some x->∃y,H2 b=some y)/\mR Φ.Ek (forL tg (aP F b) (p.1.drop i) ρ2 S2) (cm Φ Γ W fF o H D),
  ⟨_,rfl,Nat.zero_le _,o,ρ,p.2,oi,aB,aU.refl,λb z=> .inl z,λb x hx=>⟨x,hx⟩,q⟩,?_⟩
 rintro i m σ2 H2 ⟨rfl,hi,o2,ρ2,S2,JI,fk,e2,GG,MC,q⟩;have eH:aU o.A H H2:=(er.dA io.ext).trans e2;have aH:∀b x,H b=some x->∃y,H2 b=some y:=λb x hx=>by obtain⟨y,hy⟩:=aB.Ac io.ext b x hx;exact MC b y hy
 have A1:∀b,o2.A b->o.A b\/H b=none:=λb z=>(GG b z).imp id λq=>by
  cases hb:H b with
  | none=>rfl
  | some x=>obtain⟨y,hy⟩:=aB.Ac io.ext b x hb;rw[q] at hy;cases hy
 by_cases cH:i < p.1.length
 ·refine .inr ⟨wk.go i H2 cH e2,?_⟩;have hd:∃d,p.1[i]?=some d:=⟨p.1[i],by simp[cH]⟩;obtain⟨d0,vB⟩:=hd;have Kl:p.1.drop i=d0::p.1.drop (i + 1):=by rw[List.drop_eq_getElem_cons cH];congr 1;exact(Qi.mp vB).2
  rw[Kl] at q;unfold forL at q;rw[ae] at q;obtain⟨ρ3,hρ,q⟩:=oY (pB _ _ _) q;rw[ae] at q;refine⟨λσ3 H3=>i + 1<=p.1.length/\∃o3 ρ3 S3,OI Φ W o3/\ER Φ Γ o3 ρ3 S3 σ3 H3/\aU o.A H1 H3/\(∀b,o3.A b->o.A b\/H1 b=none)/\(∀b x,H1 b=some x->∃y,H3 b=some y)/\mR Φ.Ek (forL tg (aP F b) (p.1.drop (i + 1)) ρ3 S3) (cm Φ Γ W fF o H D),λσ3 H3 z=>⟨p.1.length - (i + 1),by lia,rfl,z⟩,λx H3 y=>?_⟩;obtain⟨s3,d,hd,hx⟩:=wk.yld i x H2 H3 cH e2 y;rw[vB] at hd;cases hd;have nI:=hx o2.A GG;rw[<-hK];refine yV (fk.grow s3) hp nI hρ λσ4 Kp _=>?_
  refine⟨o2,ρ3,S2,JI,Kp,ah q λp2 _ q=>?_⟩;have again:∀{σ5:L2.St} {H5:Hp},SO Φ Γ W o2 H3 p2.2.1 p2.2.2 σ5 H5->mR Φ.Ek (forL tg (aP F b) (p.1.drop (i + 1)) p2.2.1 p2.2.2) (cm Φ Γ W fF o H D)->i + 1<=p.1.length/\∃o3 ρ3 S3,OI Φ W o3/\ER Φ Γ o3 ρ3 S3 σ5 H5/\aU o.A H1 H5/\(∀b,o3.A b->o.A b\/H1 b=none)/\(∀b x,H1 b=some x->∃y,H5 b=some y)/\mR Φ.Ek (forL tg (aP F b) (p.1.drop (i + 1)) ρ3 S3) (cm Φ Γ W fF o H D):=λ {σ5 H5} so q=>by have Pq:=SO.go (o:=o) (H:=H1) (e2.trans (aU.of_same s3)) GG (λb x hx=>by obtain⟨y,hy⟩:=MC b x hx;exact⟨y,s3 _ _ hy⟩) so;obtain⟨⟨o5,Pk,Jt,N7⟩,e5,a5⟩:=Pq;exact⟨cH,o5,_,_,Pk,Jt,e5,N7,a5,q⟩
  unfold cm;cases fq:p2.1 with
  | next=>rw[fq] at q;exact λσ5 H5 so=>again so q
  | cnt=>rw[fq] at q;exact λσ5 H5 so=>again so q
  | brk=>rw[fq] at q;intro σ5 H5 so;have q:cm Φ Γ W fF o H D (.next,p2.2):=q;unfold cm at q;exact q σ5 H5 (SO.go (eH.trans (aU.of_same s3)) A1 (λb x hx=>by obtain⟨y,hy⟩:=aH b x hx;exact⟨y,s3 _ _ hy⟩) so)
  | ret d=>rw[fq] at q;have q:cm Φ Γ W fF o H D (.ret d,p2.2):=q;exact q
 ·have e:i=p.1.length:=by lia
  subst e;rw[List.drop_length] at q;have q:cm Φ Γ W fF o H D (.next,ρ2,S2):=q;unfold cm at q;exact .inl ⟨wk.stop H2 e2,q _ _ ⟨⟨o2,JI,fk,A1⟩,eH,aH⟩⟩
end
noncomputable def mP (g:G) (Γ:Gm):Expr->Option (List Nat)
 | .Constant (.str x) _ _=>if x.length<=1000 then some [] else none
 | .FormattedValue (.Name x _) (-1) none _=>if cN x then(match slot Γ x with
  | some i=>some [i]
  | none=>if uK (Γ.names.lookup x) then(match g.cons.lookup x with
   | some (.int n)=>if 0<=n/\n < 10 ^ 19 then some [] else none
   | _=>none) else none) else none
 | _=>none
noncomputable def Lx (g:G) (Γ:Gm):List Expr->Option (List Nat)
 | []=>some []
 | e::es=>(mP g Γ e).bind λa=>(Lx g Γ es).bind λb=>some (a++b)
noncomputable def mS (g:G) (Γ:Gm):Expr->Option (List Nat)
 | .Constant (.str _) _ _=>some []
 | .JoinedStr (e1::e2::es) _=>if (e1::e2::es).length<=100 then Lx g Γ (e1::e2::es) else none
 | _=>none
noncomputable def pV (vs:List Nat) (σ:L2.St):Prop:=∀i∈vs,∃n:Nat,σ[i]?=some (some (.int n))/\n < 10 ^ 19
section
variable {g:G} {xv:Nat->Value} {CX:jt} {k:Nat} {F:FT} {X:Cx} {Φ:Fm} {Γ:Gm} {W:Addr->Prop} {fF:Bool}
theorem AQ {e:Expr} {vs:List Nat} (h:mS g Γ e=some vs) (env:Env):starEach [e] env=[(false,eval e env)]:=by unfold mS at h;split at h <;> first | rfl | cases h
theorem Er (gx:GX g Γ X) {e:Expr} {vs us:List Nat} (h:mP g Γ e=some vs) (hs:∀i∈vs,i∈us):F4 X e (pV us):=by
 unfold mP at h;split at h
 ·split at h
  ·rename_i hl;exact Be hl
  ·cases h
 ·split at h
  ·rename_i ho;obtain⟨n1,n2,n3⟩:=bC ho;split at h
   ·rename_i i hi;cases h;obtain⟨v1,v2,v3⟩:=jO hi;intro pins s σ H Q I hp q;exact Bf (by rw[gx.N];exact v3) (gx.vis _ v1) n1 n2 pins s σ H Q I (hp i (hs i (by simp))) q
   ·split at h
    ·rename_i hg;split at h
     ·rename_i n hc;split at h
      ·rename_i hn;obtain⟨u,_,h2,h3⟩:=gx.con _ _ hc;obtain⟨m,rfl⟩:=Int.eq_ofNat_of_zero_le hn.1;exact yl (gx.gl _ hg) h2 h3 (by lia) n1
      ·cases h
     ·cases h
    ·cases h
  ·cases h
 ·cases h
theorem yo (gx:GX g Γ X) {us:List Nat}:∀{es:List Expr} {vs:List Nat},Lx g Γ es=some vs->(∀i∈vs,i∈us)->F7 X es (pV us)
 | [],vs,_,_=>Bg
 | e::es,vs,h,hs=>by obtain⟨a,h1,h⟩:=Qc.mp h;obtain⟨b,h2,h⟩:=Qc.mp h;cases h;refine ym (Er gx h1 λi hi=>hs i (List.mem_append_left _ hi)) (yo gx h2 λi hi=>hs i (QM _ hi)) ?_;unfold mP at h1;split at h1 <;> first | rfl | cases h1
theorem HR (gx:GX g Γ X) {e:Expr} {vs:List Nat} (h:mS g Γ e=some vs):PM X e (pV vs):=by
 unfold mS at h;split at h
 ·exact Ep
 ·split at h
  ·rename_i hl;exact u7 (yo gx h λi hi=>hi) hl
  ·cases h
 ·cases h
theorem Fw {c:Str} {k0:Nat} (h:xI c (g.xs.map (·.1))=some k0):∃ts,g.xs[k0]?=some (c,ts):=by have:=jD h;rw[Qz] at this;obtain⟨⟨a,ts⟩,h1,h2⟩:=Qv.mp this;cases h2;exact⟨ts,h1⟩
theorem Mz {k0:Nat} {vs:List Nat} {ts:List (Str×Bool)} {c:Str} {arg:Expr} {np cA pos:Pos} (hX:HX g xv CX k F Φ X) (gx:GX g Γ X) (hx:g.xs[k0]?=some (c,ts)) (hg:Gl X c) (oO:(c==("__debug__":Str))=false) (he:PM X arg (pV vs)) (j9:starEach [arg] X.env=[(false,eval arg X.env)]):
  PS X (.Raise (some (.Call (.Name c np) [arg] [] cA)) none pos) (jk Φ Γ F W fF (.rs k0 vs)):=by
 intro pins s σ H D I q;obtain⟨o,ρ,S,oi,er,q⟩:=q;unfold ex at q;obtain⟨hm,q⟩:=aM q;obtain⟨C,e1,e2,e3,_⟩:=hX.xk _ _ _ hx;refine yt (E:=jQ Φ xv) (I.ok.hd gx.calm) hX.st.pn hg e2 e3 hX.xgx he j9 oO pins s σ H D I ⟨λi hi=>?_,k0,e1.symm,q,er.ent⟩;have:=QQ.mp hm i hi;unfold DT at this;split at this
 ·rename_i n hn;rw[Qf] at this;obtain⟨m,rfl⟩:=Int.eq_ofNat_of_zero_le (Qh this.1);obtain⟨v,h1,h2⟩:=er.val i _ hn;have h3:RV Φ.K o.A H v (.int (m:Int)):=by split at h2 <;> exact h2
  rw[h3.int_inv] at h1;exact⟨m,h1,by have:=Qh this.2;lia⟩
 ·cases this
end
noncomputable def iW:Expr->Bool
 | .ListComp ..=>true
 | .SetComp ..=>true
 | .DictComp ..=>true
 | _=>false
noncomputable def CS (n:Nat) (g:G) (Γ:Gm) (i:Nat) (e:Expr):Option T:=match e with
 | .Name y p=>match slot Γ y with
  | some j=>if eV Γ j then none else(cE n g Γ (.Name y p)).bind λc=>some (.asg i c)
  | none=>(cE n g Γ (.Name y p)).bind λc=>some (.asg i c)
 | e=>(cE n g Γ e).bind λc=>some (if fresh g.fr c&&lk c != 0 then .asgM i c else .asg i c)
noncomputable def CU (n:Nat) (g:G) (Γ:Gm) (fF:Bool) (e:Expr):Option T:=match e with
 | .Name y p=>match slot Γ y with
  | some j=>if eV Γ j then(if Γ.δ==some j||Γ.κ==some j then none else some (.ret (.mvr j))) else(cE n g Γ (.Name y p)).bind λc=>if fF then none else some (.ret c)
  | none=>(cE n g Γ (.Name y p)).bind λc=>if fF then none else some (.ret c)
 | e=>(cE n g Γ e).bind λc=>if !fF||fresh g.fr c then some (.ret c) else none
mutual
noncomputable def cS:Nat->G->Gm->Bool->Bool->Stmt->Option T
 | 0,_,_,_,_,_=>none
 | n + 1,g,Γ,dp,fF,st=>match st with
  | .Assign tgs e _=>match tgs with
   | [.Name x _]=>(eX Γ x).bind λi=>
     if Γ.δ==some i then none
     else if eV Γ i then(if Γ.κ==some i then none else(cE n g Γ e).bind λc=>if fresh g.fr c then some (.asgM i c) else none)
     else CS n g Γ i e
   | [.Subscript (.Name x _) k _]=>(slot Γ x).bind λi=>if eV Γ i then(cE n g Γ e).bind λv'=>(cE n g Γ k).bind λk'=>if Γ.κ==some i then none else some (.yF i k' v') else none
   | _=>none
  | .Expr ex _=>match ex with
   | .Call (.Attribute (.Name x _) m ap) [a] [] cp=>(slot Γ x).bind λi=>if eV Γ i&&ap.endLine==cp.line then(cE n g Γ a).bind λa'=>
     (if m==("append":Str) then some (.app i a') else if m==("extend":Str) then some (.xtd i a') else none) else none
   | .Call (.Attribute (.Name x _) m ap) [] [] cp=>(slot Γ x).bind λi=>if eV Γ i&&ap.endLine==cp.line&&m==("clear":Str) then some (.clr i) else none
   | e=>if iW e then none else(cE n g Γ e).bind λc=>some (.Gv c)
  | .Return (some e) _=>CU n g Γ fF e
  | .Return none _=>some .retN
  | .If t a b _=>(cE n g Γ t).bind λt'=>(BQ n g Γ dp fF a).bind λa'=>(BQ n g Γ dp fF b).bind λb'=>some (.ifs t' a' b')
  | .For tg it b els _=>match els with
   | []=>(cI n g Γ tg it).bind λgz=>(zY Γ tg).bind λyU=>(BQ n g Γ dp fF b).bind λb'=>some (.fr yU gz b')
   | _=>none
  | .Raise ra rb _=>match ra,rb with
   | some (.Call (.Name c _) [arg] [] _),none=>if uK (Γ.names.lookup c)&&cN c then(xI c (g.xs.map (·.1))).bind λk=>(mS g Γ arg).bind λvs=>some (.rs k vs) else none
   | _,_=>none
  | .Break _=>some .brk
  | .Continue _=>some .cnt
  | .Pass _=>some .pas
  | _=>none
noncomputable def BQ:Nat->G->Gm->Bool->Bool->List Stmt->Option Ts
 | 0,_,_,_,_,_=>none
 | n + 1,g,Γ,dp,fF,kY=>match kY with
  | []=>some .nil
  | st::kY=>(cS n g Γ dp fF st).bind λt=>(BQ n g Γ dp fF kY).bind λts=>some (.cons t ts)
end
section
variable {g:G} {xv:Nat->Value} {CX:jt} {k:Nat} {F:FT} {X:Cx} {Φ:Fm} {Γ:Gm} {W:Addr->Prop}
theorem kQ {e:Expr} (h:iW e=false) (t:Option Expr) (l:Nat) (env:Env):swapsWith e t l env=pure false:=by cases e <;> first | rfl | (simp[iW] at h)
theorem vk {e:Expr} {t:Expr} (ht:∀x p,t≠ .Name x p) (l:Nat) (env:Env):swapsWith e (some t) l env=pure false:=by cases e <;> first | rfl | (cases t <;> first | rfl | exact absurd rfl (ht _ _))
theorem oj {n:Nat} {elt:Expr} {gens:List Comprehension} {sc:Scope} {cA:Pos} {c:C} (h:cE (n + 1) g Γ (.ListComp elt gens sc cA)=some c):sc.kind= .function/\zT sc.names Γ.names (bu Γ sc).1.N Γ.N (bu Γ sc).2=true/\(bu Γ sc).1.N.Nodup/\
  ((∃tg it ifs gz yU zC e',gens=[⟨tg,it,ifs,0⟩]/\cI n g Γ tg it=some gz/\zY (bu Γ sc).1 tg=some yU/\Gj n g (bu Γ sc).1 ifs=some zC/\cE n g (bu Γ sc).1 elt=some e'/\c= .comp (bu Γ sc).2 gz yU zC e')):=by
 unfold cE at h;simp only at h;split at h
 ·rename_i hk;split at h
  ·rename_i tg it ifs;obtain⟨gz,h1,h⟩:=Qc.mp h;obtain⟨yU,h2,h⟩:=Qc.mp h;obtain⟨zC,h3,h⟩:=Qc.mp h;obtain⟨e',h4,h⟩:=Qc.mp h;split at h
   ·rename_i hb;cases h;rw[Qf] at hb;exact⟨QD hk,hb.1,Qh hb.2,⟨tg,it,ifs,gz,yU,zC,e',rfl,h1,h2,h3,h4,rfl⟩⟩
   ·cases h
  ·cases h
 ·cases h
theorem iA {n i:Nat} {x:Str} {e:Expr} {c:C} {pos' pos:Pos} (gx:GX g Γ X) (hX:HX g xv CX k F Φ X) (hs:eX Γ x=some i) (h:cE n g Γ e=some c):PS X (.Assign [.Name x pos'] e pos) (pI (bN Φ Γ F g.fr c) (dX i)):=by
 have S:=iD (F:=F) n Γ X Φ gx hX;obtain⟨a1,a2,a3⟩:=fG hs;obtain⟨l1,l2⟩:=gx.loc x a1;have hN:X.N.Nodup:=gx.N▸gx.nd;have hi:X.N[i]?=some x:=by rw[gx.N];exact a3
 by_cases hc:iW e=true
 ·cases n with
  | zero=>simp[cE] at h
  | succ n=>
   cases e with
   | ListComp elt gens sc cA=>
    have Of:=(S.e _ _ h).1;obtain⟨hk,hb,pY,GY⟩:=oj h;cases FP:(X.env.blockKind== .function&&X.env.kindOf x==some .local&&pos'.line==(Expr.ListComp elt gens sc cA).pos.line&& !(sc.names.any λ(n,k)=>n==x&&(k== .local||k== .cell))) with
    | false=>exact rd hN hi l1 Of (by show pure (X.env.blockKind== .function&&X.env.kindOf x==some .local&&pos'.line==(Expr.ListComp elt gens sc cA).pos.line&& !(sc.names.any λ(n,k)=>n==x&&(k== .local||k== .cell)))=_;rw[FP]) l2
    | true=>
     have hl:X.env.kindOf x=some .local:=by rw[Qf,Qf,Qf] at FP;exact QD FP.1.1.2
     have B:=wc gx hk hb;have S1:=iD (F:=F) n Γ X Φ gx hX;have J:=λC s H fp=>iD (F:=F) n (bu Γ sc).1 (f6 X sc (bu Γ sc).1.N C s H fp (BJ X sc (bu Γ sc).1.N (jQ Φ xv) C s H fp)) Φ (mF gx B pY) (xE hX)
     obtain⟨tg,it,ifs,gz,yU,zC,e',rfl,h1,h2,h3,h4,rfl⟩:=GY
     ·refine bD (pj (xb:=BJ X sc (bu Γ sc).1.N (jQ Φ xv)) (body:=λacc env=>j3 elt acc env) (i:=i) gx.calm hN hi hl B (uo hX.st hX.xgx) (S1.i _ _ _ h1).1 (λqI acc env=>pN ..) (λC s H fp=>ES (mF gx B pY) h2) (λC s H fp=>(J C s H fp).ts _ _ h3) (λC s H fp D=>tD ((J C s H fp).e _ _ h4).1) (qB (S1.i _ _ _ h1).2 _) ?_) λD σ H q=>yA hX.K B pY h2 q
      show pure (X.env.blockKind== .function&&X.env.kindOf x==some .local&&pos'.line==(Expr.ListComp elt [⟨tg,it,ifs,0⟩] sc cA).pos.line&& !(sc.names.any λ(n,k)=>n==x&&(k== .local||k== .cell)))=_;rw[FP]
   | SetComp=>simp[cE] at h
   | DictComp=>simp[cE] at h
   | _=>simp[iW] at hc
 ·exact rd hN hi l1 (S.e _ _ h).1 (kQ (by simpa using hc) _ _ _) l2
structure J1 (g:G) (F:FT) (n:Nat) (Γ:Gm) (X:Cx) (Φ:Fm) (W:Addr->Prop) (dp fF:Bool):Prop where
 s:∀st t,cS n g Γ dp fF st=some t->PS X st (jk Φ Γ F W fF t)
 ss:∀kY ts,BQ n g Γ dp fF kY=some ts->nO X kY (jr Φ Γ F W fF ts)
theorem kU {x:Str} {i:Nat} {p:Pos} (gx:GX g Γ X) (h:slot Γ x=some i):PE X (.Name x p) (jq i):=by obtain⟨v1,v2,v3⟩:=jO h;obtain⟨n1,n2,n3⟩:=bC v2;exact qX (by rw[gx.N];exact v3) (gx.vis x v1) n1 n2
theorem CH {n i:Nat} {x:Str} {e:Expr} {t:T} {pos' pos:Pos} {fF:Bool} (gx:GX g Γ X) (hX:HX g xv CX k F Φ X) (hs:eX Γ x=some i) (hp:plainS Γ i=true) (h:CS n g Γ i e=some t):PS X (.Assign [.Name x pos'] e pos) (jk Φ Γ F W fF t):=by
 have EB:∀{e:Expr} {t:T},((cE n g Γ e).bind λc=>some (T.asg i c))=some t->PS X (.Assign [.Name x pos'] e pos) (jk Φ Γ F W fF t):=λ {e t} h=>by obtain⟨c,h1,h⟩:=Qc.mp h;cases h;exact Cq hp (iA gx hX hs h1)
 unfold CS at h;split at h
 ·rename_i y p;split at h
  ·rename_i j hj;split at h
   ·cases h
   ·exact EB h
  ·exact EB h
 ·obtain⟨c,h1,h⟩:=Qc.mp h;cases h;split
  ·rename_i hf;rw[Qf] at hf;exact Fo hp hf.1 (iA gx hX hs h1)
  ·exact Cq hp (iA gx hX hs h1)
theorem EC {n:Nat} {e:Expr} {t:T} {pos:Pos} {fF:Bool} (gx:GX g Γ X) (hX:HX g xv CX k F Φ X) (h:CU n g Γ fF e=some t):PS X (.Return (some e) pos) (jk Φ Γ F W fF t):=by
 have S:=iD (F:=F) n Γ X Φ gx hX;have plain:∀{e:Expr} {t:T},((cE n g Γ e).bind λc=>if fF then none else some (T.ret c))=some t->PS X (.Return (some e) pos) (jk Φ Γ F W fF t):=λ {e t} h=>by
  obtain⟨c,h1,h⟩:=Qc.mp h;split at h
  ·cases h
  ·rename_i hf;cases h;exact Cr (λz=>absurd z hf) (kG (S.e _ _ h1).1)
 unfold CU at h;split at h
 ·rename_i y p;split at h
  ·rename_i j hj;split at h
   ·rename_i hm;split at h
    ·cases h
    ·rename_i hk;cases h;exact Fq hm (λz=>hk (by simp[z])) (kG (kU gx hj))
   ·exact plain h
  ·exact plain h
 ·obtain⟨c,h1,h⟩:=Qc.mp h;split at h
  ·rename_i hf;cases h;refine Cr (λz=>?_) (kG (S.e _ _ h1).1);rw[z] at hf;simpa using hf
  ·cases h
theorem pD {dp fF:Bool} (n:Nat):∀(Γ:Gm) (X:Cx) (Φ:Fm),GX g Γ X->HX g xv CX k F Φ X->(dp=false->Φ.d0=none)->PassesOwn (model X.prog X.w) X.A X.env X.xe->J1 g F n Γ X Φ W dp fF:=by
 induction n with
 | zero=>intro Γ X Φ gx hX hd ho;exact⟨λst t h=>by simp[cS] at h,λst t h=>by simp[BQ] at h⟩
 | succ n ih=>
  intro Γ X Φ gx hX hd ho;have I:=ih Γ X Φ gx hX hd ho;have S:=iD (F:=F) n Γ X Φ gx hX;have hK:=hX.K;refine⟨λst t h=>?_,λkY ts h=>?_⟩
  ·unfold cS at h;split at h
   ·split at h
    ·rename_i e pos x xp;obtain⟨i,hs,h⟩:=Qc.mp h;split at h
     ·cases h
     ·rename_i hδ;have hδ':Γ.δ≠some i:=λz=>hδ (by rw[z];exact beq_self_eq_true _)
      split at h
      ·rename_i hm;split at h
       ·cases h
       obtain⟨c,h1,h⟩:=Qc.mp h;split at h
       ·rename_i hf;cases h;exact Fk hm hδ' hf (iA gx hX hs h1)
       ·cases h
      ·rename_i hm;refine CH gx hX hs ?_ h;unfold plainS;rw[Qf];exact⟨by simpa using hm,by simpa using hδ'⟩
    ·rename_i v pos tg0 x xp kx sp;obtain⟨i,hs,h⟩:=Qc.mp h;split at h
     ·rename_i hm;obtain⟨v',h1,h⟩:=Qc.mp h;obtain⟨k',h2,h⟩:=Qc.mp h;have OF:=(S.e _ _ h2).2.2;split at h
      ·cases h
      ·cases h;refine Ft hm (Et (S.e _ _ h1).1 (Em (kU gx hs) (S.e _ _ h2).1 set_list (by intro _;cases kx <;> first | rfl | (simp[oN] at OF))) (show swapsWithSole [Expr.Subscript (Expr.Name x xp) kx sp] v pos.line X.env=pure false from vk (e:=v) (t:=Expr.Subscript (Expr.Name x xp) kx sp) (λx p z=>by cases z) pos.line X.env) ?_);cases v <;> rfl
     ·cases h
    ·cases h
   ·split at h
    ·rename_i pos x xp m ap a cp;obtain⟨i,hs,h⟩:=Qc.mp h;split at h
     ·rename_i hm;rw[Qf] at hm;obtain⟨a',h1,h9⟩:=Qc.mp h;clear h;have j9:=bZ (S.e _ _ h1).2.2 [] X.env;split at h9
      ·rename_i hma;have em:=QD hma;subst em;cases h9;exact IW hm.1 (jK (Cb PySem.F.plainAttrs_list PySem.F.slot_list_append PySem.F.type_list_append lQ (kU gx hs) (bI (S.e _ _ h1).1 eI j9) rfl (by rw[j9];rfl) hm.2 j9 rfl))
      split at h9
      ·rename_i hma;have em:=QD hma;subst em;cases h9;exact Jd hm.1 (jK (Cb PySem.F.plainAttrs_list PySem.F.slot_list_extend PySem.F.type_list_extend Mx.AW (kU gx hs) (bI (S.e _ _ h1).1 eI j9) rfl (by rw[j9];rfl) hm.2 j9 rfl))
      ·cases h9
     ·cases h
    ·rename_i pos x xp m ap cp;obtain⟨i,hs,h9⟩:=Qc.mp h;clear h;split at h9
     ·rename_i hm;rw[Qf,Qf] at hm;have em:=QD hm.2;subst em;cases h9;exact IY hm.1.1 (jK (Ef PySem.F.plainAttrs_list PySem.F.slot_list_clear PySem.F.type_list_clear xU (kU gx hs) rfl hm.1.2))
     ·cases h9
    ·split at h
     ·cases h
     ·rename_i hc;obtain⟨c,h1,h⟩:=Qc.mp h;cases h;exact Ja (jK (S.e _ _ h1).1 (kQ (by simpa using hc) _ _ _))
   ·exact EC gx hX h
   ·cases h;exact Fs Bi
   ·obtain⟨t',h1,h⟩:=Qc.mp h;obtain⟨a',h2,h⟩:=Qc.mp h;obtain⟨b',h3,h⟩:=Qc.mp h;cases h;exact Jc (HS (S.e _ _ h1).2.1 (I.ss _ _ h2) (I.ss _ _ h3))
   ·split at h
    ·obtain⟨gz,h1,h⟩:=Qc.mp h;obtain⟨yU,h2,h⟩:=Qc.mp h;obtain⟨b',h3,h⟩:=Qc.mp h;cases h;exact Jb hK (λi hi=>(kR h2 i hi).1) (Eu ho gx.calm (S.i _ _ _ h1).1 (ES gx h2) (I.ss _ _ h3) (qB (S.i _ _ _ h1).2 _))
    ·cases h
   ·split at h
    ·split at h
     ·rename_i hg;rw[Qf] at hg;obtain⟨k0,h1,h⟩:=Qc.mp h;obtain⟨vs,h2,h⟩:=Qc.mp h;cases h;obtain⟨ts,h3⟩:=Fw h1;obtain⟨n1,n2,n3⟩:=bC hg.2;exact Mz hX gx h3 (gx.gl _ hg.1) n1 (HR gx h2) (AQ h2 _)
     ·cases h
    ·cases h
   ·cases h;exact IX yq
   ·cases h;exact IZ ph
   ·cases h;exact Fp Bh
   ·cases h
  ·unfold BQ at h;split at h
   ·cases h;exact zg
   ·obtain⟨t,h1,h⟩:=Qc.mp h;obtain⟨zC,h2,h⟩:=Qc.mp h;cases h;exact BK (I.s _ _ h1) (I.ss _ _ h2)
end
inductive HV where
 | b (x:Bool) | l (xs:List Bool)
noncomputable def HV.E7:HV->Option Bool
 | .b x=>some x
 | .l _=>none
noncomputable def HV.Hq:HV->Option (List Bool)
 | .l x=>some x
 | .b _=>none
mutual
noncomputable def hE:Nat->G->Gm->Nat->List (Str×Bool)->Option (Nat×HV)->Expr->Option HV
 | 0,_,_,_,_,_,_=>none
 | n + 1,g,Γ,i,ts,vb,e=>match e with
  | .Call fe as ks _=>match fe,as,ks with
   | .Name f _,[.Name x _,.Name t _],[]=>if f==("isinstance":Str)&&uK (Γ.names.lookup f)&&g.bls.contains f&&slot Γ x==some i&&uK (Γ.names.lookup t)&&cN t then(ts.lookup t).map .b else none
   | _,_,_=>none
  | .Name x _=>vb.bind λv=>if slot Γ x==some v.1 then some v.2 else none
  | .Constant c _ _=>match c with
   | .bool b=>some (.b b)
   | _=>none
  | .List es _=>if es.length<=1000 then(GK n g Γ i ts vb es).map .l else none
  | .BinOp a o b _=>match o with
   | .Add=>((hE n g Γ i ts vb a).bind HV.Hq).bind λx=>((hE n g Γ i ts vb b).bind HV.Hq).bind λy=>if x.length + y.length<=1000 then some (.l (x++y)) else none
   | _=>none
  | .Compare a os bs _=>match os,bs with
   | [.Eq],[b]=>((hE n g Γ i ts vb a).bind HV.Hq).bind λx=>((hE n g Γ i ts vb b).bind HV.Hq).bind λy=>match de .Eq (.lst (x.map Dt.bl)) (.lst (y.map Dt.bl)) with
    | .ok z=>some (.b z)
    | _=>none
   | _,_=>none
  | .UnaryOp o a _=>match o with
   | .Not=>((hE n g Γ i ts vb a).bind HV.E7).bind λb=>some (.b !b)
   | _=>none
  | .BoolOp o es p=>match es with
   | [a]=>hE n g Γ i ts vb a
   | a::b::es=>((hE n g Γ i ts vb a).bind HV.E7).bind λx=>((hE n g Γ i ts vb (.BoolOp o (b::es) p)).bind HV.E7).bind λy=>some (.b (match o with | .And=>x&&y | .Or=>x||y))
   | []=>none
  | _=>none
noncomputable def GK:Nat->G->Gm->Nat->List (Str×Bool)->Option (Nat×HV)->List Expr->Option (List Bool)
 | 0,_,_,_,_,_,_=>none
 | n + 1,g,Γ,i,ts,vb,es=>match es with
  | []=>some []
  | e::es=>if oN e then((hE n g Γ i ts vb e).bind HV.E7).bind λx=>(GK n g Γ i ts vb es).map (x:: ·) else none
end
noncomputable def hS (n:Nat) (g:G) (Γ:Gm) (i:Nat) (ts:List (Str×Bool)):List Stmt->Option Bool
 | [.Return (some e) _]=>(hE n g Γ i ts none e).bind HV.E7
 | [.Assign [.Name x _] e _,.Return (some r) _]=>if Γ.names.lookup x==some .local&& !iW e then(eX Γ x).bind λj=>if j==i then none else(hE n g Γ i ts none e).bind λb=>(hE n g Γ i ts (some (j,b)) r).bind HV.E7 else none
 | _=>none
noncomputable def zZ (n:Nat) (g:G) (Γ:Gm) (dp fF:Bool):Stmt->Option T
 | .Try body [.ExceptHandler (some (.Name t _)) (some e) (b0::iF) _] [] [] _=>
  if Γ.names.lookup e==some .local&&uK (Γ.names.lookup t)&&cN t&& !(t==("ValueError":Str))&&g.xs.any (λx=>x.2.lookup t==some true) then(eX Γ e).bind λi=>(BQ n g Γ dp fF body).bind λb=>
   some (.tr b (g.xs.map λx=>if x.2.lookup t==some true then hS n g Γ i x.2 (b0::iF) else none))
  else none
 | _=>none
noncomputable def CT (n:Nat) (g:G) (Γ:Gm) (dp fF:Bool):List Stmt->Option Ts
 | []=>some .nil
 | st::kY=>((zZ n g Γ dp fF st).or (cS n g Γ dp fF st)).bind λt=>(CT n g Γ dp fF kY).bind λts=>some (.cons t ts)
section
variable {g:G} {xv:Nat->Value} {CX:jt} {k:Nat} {F:FT} {X:Cx} {Φ:Fm} {Γ:Gm} {W:Addr->Prop}
theorem zW:bootBuiltins "ValueError"=some (.type "ValueError"):=by decide +kernel
noncomputable def hV (H:Hp) (v:V):HV->Prop
 | .b x=>v= .bl x
 | .l xs=>∃p,v= .ref p/\H p=some (.lst (xs.map V.bl))
theorem hV.same {H H':Hp} {v:V} {x:HV} (h:hV H v x) (s:bp H H'):hV H' v x:=by
 cases x with
 | b x=>exact h
 | l xs=>obtain⟨p,e,h⟩:=h;exact⟨p,e,s _ _ h⟩
noncomputable def hG (i:Nat) (a:Addr) (vb:Option (Nat×HV)) (σ:L2.St) (H:Hp):Prop:=σ[i]?=some (some (.ref a))/\∀j x,vb=some (j,x)->∃v,σ[j]?=some (some v)/\hV H v x
theorem hG.same {i:Nat} {a:Addr} {vb:Option (Nat×HV)} {σ:L2.St} {H H':Hp} (h:hG i a vb σ H) (s:bp H H'):hG i a vb σ H':=⟨h.1,λj x e=>by
 obtain⟨v,h1,h2⟩:=h.2 j x e;exact⟨v,h1,h2.same s⟩⟩
noncomputable def tH (i:Nat) (a:Addr) (vb:Option (Nat×HV)) (x:HV):TE:=λσ H Q=>hG i a vb σ H/\∀v H',bp H H'->hV H' v x->Q v H'
theorem eL {o:Option HV} {x:Bool} (h:o.bind HV.E7=some x):o=some (.b x):=by
 cases o with
 | none=>cases h
 | some v=>
  cases v with
  | b y=>cases h;rfl
  | l y=>cases h
theorem mT {o:Option HV} {x:List Bool} (h:o.bind HV.Hq=some x):o=some (.l x):=by
 cases o with
 | none=>cases h
 | some v=>
  cases v with
  | b y=>cases h
  | l y=>cases h;rfl
theorem rh {K:Frag} {A:Addr->Prop} {H:Hp}:∀xs:List Bool,ao K A H (xs.map V.bl) (xs.map Dt.bl)
 | []=>ao.nil
 | _::xs=>ao.cons RV.km (rh xs)
theorem IT (n:Nat) (h:n<=1000):n<=sizeLine:=by have:=sizeLine_eq;lia
mutual
theorem oF {C a:Addr} {o:Obj} {i:Nat} {ts:List (Str×Bool)} (gx:GX g Γ X) (xr:l6 X C a o) (xk:FC X.K X.mg C ts):∀(n:Nat) (vb:Option (Nat×HV)) (e:Expr) (b:HV),hE n g Γ i ts vb e=some b->PE (X.hand a o) e (tH i a vb b)
 | 0,vb,e,b,h=>by simp[hE] at h
 | n + 1,vb,e,b,h=>by
  have ih:=oF (i:=i) gx xr xk n vb;have var:∀{x:Str} {j:Nat} {p:Pos},slot Γ x=some j->PE (X.hand a o) (.Name x p) (jq j):=λ {x j p} hs=>by obtain⟨v1,v2,v3⟩:=jO hs;obtain⟨n1,n2,n3⟩:=bC v2;exact qX (X:=X.hand a o) (by rw[gx.N];exact v3) (gx.vis x v1) n1 n2
  unfold hE at h;split at h
  ·split at h
   ·split at h
    ·rename_i hc;simp only[Qf] at hc;obtain⟨⟨⟨⟨⟨h1,h2⟩,h3⟩,h4⟩,h5⟩,h6⟩:=hc;have e1:=QD h1;subst e1;obtain⟨n1,n2,n3⟩:=bC h6;obtain⟨z,hz,rfl⟩:=Qv.mp h;obtain⟨c,hc,k1,_⟩:=xk.2.2 _ _ hz;rcases hc with ⟨m1,D,rfl⟩ | ⟨m1,rfl,rfl⟩
     ·intro pins s σ H Q I q;exact ye xr xk.1 xk.2.1 (gx.gl _ h2) (gx.bl _ (iP h3)) (var (QD h4)) (tG (X:=X.hand a o) (v:= .ref D) (gx.gl _ h5) m1 rfl n1) (λu r=>r) k1 pins s σ H Q I ⟨q.1.1,q.2 _ _ (bp.refl _) rfl⟩
     ·intro pins s σ H Q I q;exact ye xr xk.1 xk.2.1 (gx.gl _ h2) (gx.bl _ (iP h3)) (var (QD h4)) (tE (X:=X.hand a o) (v:= .ty "ValueError") (gx.gl _ h5) m1 zW rfl (by decide) n1) (λu r=>r) k1 pins s σ H Q I ⟨q.1.1,q.2 _ _ (bp.refl _) rfl⟩
    ·cases h
   ·cases h
  ·obtain⟨v,h1,h⟩:=Qc.mp h;split at h
   ·rename_i hs;cases h;intro pins s σ H Q I q;obtain⟨u,k1,k2⟩:=q.1.2 v.1 v.2 h1;exact var (QD hs) pins s σ H Q I ⟨_,k1,q.2 _ _ (bp.refl _) k2⟩
   ·cases h
  ·split at h
   ·cases h;intro pins s σ H Q I q;exact Ca pins s σ H Q I (q.2 _ _ (bp.refl _) rfl)
   ·cases h
  ·split at h
   ·rename_i es _ hl;obtain⟨xs,h1,rfl⟩:=Qv.mp h;have he:=xl (i:=i) gx xr xk n vb es xs h1;intro pins s σ H Q I q;refine yf he.1 pins s σ H Q I ⟨q.1,λvs H' sm ev=>⟨?_,λp hp=>?_⟩⟩
    ·rw[ev,Qp,he.2];exact IT _ hl
    ·exact q.2 _ _ (sm.trans (Mx.bX hp _)) ⟨p,rfl,by rw[aE,ev]⟩
   ·cases h
  ·split at h
   ·obtain⟨x,h1,h⟩:=Qc.mp h;obtain⟨y,h2,h⟩:=Qc.mp h;split at h
    ·rename_i hl;cases h;intro pins s σ H Q I q;refine Cc eG (ih _ _ (mT h1)) (ih _ _ (mT h2)) pins s σ H Q I ⟨q.1,λv H1 s1 ⟨p,e1,k1⟩=>⟨q.1.same s1,λv2 H2 s2 ⟨p2,e2,k2⟩=>?_⟩⟩;refine⟨p,p2,_,_,e1,e2,s2 _ _ k1,k2,by rw[Qp,Qp];exact IT _ hl,λr hr=>?_⟩;exact q.2 _ _ ((s1.trans s2).trans (Mx.bX hr _)) ⟨r,rfl,by rw[aE,QZ]⟩
    ·cases h
   ·cases h
  ·split at h
   ·obtain⟨x,h1,h⟩:=Qc.mp h;obtain⟨y,h2,h⟩:=Qc.mp h;split at h
    ·rename_i z hz;cases h;intro pins s σ H Q I q;refine tF (qV .Eq (show (X.hand a o).A.units + 150 < cLine from gx.un)) (ih _ _ (mT h1)) (ih _ _ (mT h2)) (xW _ (by decide) (by decide)) pins s σ H Q I ⟨q.1,λv H1 s1 ⟨p,e1,k1⟩=>⟨q.1.same s1,λv2 H2 s2 ⟨p2,e2,k2⟩=>?_⟩⟩;subst e1 e2;exact⟨_,_,z,RV.dm (s2 _ _ k1) (λz=>z) (rh x),RV.dm k2 (λz=>z) (rh y),hz,q.2 _ _ (s1.trans s2) rfl⟩
    ·cases h
   ·cases h
  ·split at h
   ·obtain⟨x,h1,h⟩:=Qc.mp h;cases h;intro pins s σ H Q I q;exact yg (ih _ _ (eL h1)) pins s σ H Q I ⟨q.1,λv H' sm hv=>⟨_,hv,q.2 _ _ sm rfl⟩⟩
   ·cases h
  ·split at h
   ·intro pins s σ H Q I q;exact yh (ih _ _ h) pins s σ H Q I q
   ·rename_i op p es0 a1 b1 es;obtain⟨x,h1,h⟩:=Qc.mp h;obtain⟨y,h2,h⟩:=Qc.mp h;cases h;have g2:=ih _ _ (eL h2);intro pins s σ H Q I q;cases op with
    | And=>
     refine yc (ih _ _ (eL h1)) g2 pins s σ H Q I ⟨q.1,λv H' sm hv=>⟨_,hv,?_⟩⟩;cases x with
     | true=>exact⟨q.1.same sm,λv2 H2 s2 h2=>q.2 _ _ (sm.trans s2) h2⟩
     | false=>exact q.2 _ _ sm rfl
    | Or=>
     refine Cd (ih _ _ (eL h1)) g2 pins s σ H Q I ⟨q.1,λv H' sm hv=>⟨_,hv,?_⟩⟩;cases x with
     | true=>exact q.2 _ _ sm rfl
     | false=>exact⟨q.1.same sm,λv2 H2 s2 h2=>q.2 _ _ (sm.trans s2) h2⟩
   ·cases h
  ·cases h
theorem xl {C a:Addr} {o:Obj} {i:Nat} {ts:List (Str×Bool)} (gx:GX g Γ X) (xr:l6 X C a o) (xk:FC X.K X.mg C ts):∀(n:Nat) (vb:Option (Nat×HV)) (es:List Expr) (xs:List Bool),GK n g Γ i ts vb es=some xs->PA (X.hand a o) es (λσ H Q=>hG i a vb σ H/\∀vs H',bp H H'->vs=xs.map V.bl->Q vs H')/\xs.length=es.length
 | 0,vb,es,xs,h=>by simp[GK] at h
 | n + 1,vb,es,xs,h=>by
  unfold GK at h;split at h
  ·cases h;exact⟨λpos pins s σ H Q I q=>eI pos pins s σ H Q I (q.2 _ _ (bp.refl _) rfl),rfl⟩
  ·rename_i e es;split at h
   ·rename_i hd;obtain⟨x,h1,h⟩:=Qc.mp h;obtain⟨ys,h2,rfl⟩:=Qv.mp h;obtain⟨k1,k2⟩:=xl (i:=i) gx xr xk n vb es ys h2;refine⟨λpos pins s σ H Q I q=>bI (oF gx xr xk n vb e _ (eL h1)) k1 (bZ hd _ _) pos pins s σ H Q I ⟨q.1,λv H1 s1 hv=>⟨q.1.same s1,λvs H2 s2 ev=>q.2 _ _ (s1.trans s2) (by rw[ev,show v= .bl x from hv];rfl)⟩⟩,by rw[Qy,Qy,k2]⟩
   ·cases h
end
theorem GM {C a:Addr} {o:Obj} {i n:Nat} {ts:List (Str×Bool)} {kY:List Stmt} {b:Bool} (gx:GX g Γ X) (xr:l6 X C a o) (xk:FC X.K X.mg C ts) (h:hS n g Γ i ts kY=some b):
  nO (X.hand a o) kY (λD σ H=>σ[i]?=some (some (.ref a))/\σ.length=X.N.length/\∀H',bp H H'->D.rt (.bl b) H'):=by
 unfold hS at h;split at h
 ·intro pins s σ H D I q;exact tO (kG (oF gx xr xk n none _ _ (eL h))) pins s σ H D I ⟨⟨q.1,λj b z=>by cases z⟩,λv H' sm hv=>by rw[show v= .bl b from hv];exact q.2.2 _ sm⟩
 ·split at h
  ·rename_i x xp e ap r rp hx;rw[Qf] at hx;obtain⟨j,h1,h⟩:=Qc.mp h;split at h
   ·cases h
   ·rename_i hj;obtain⟨v,h2,h3⟩:=Qc.mp h;obtain⟨a1,a2,a3⟩:=fG h1;obtain⟨l1,l2⟩:=gx.loc x a1;have OD:j≠i:=λz=>hj (by rw[z];exact beq_self_eq_true _)
    have hN:(X.hand a o).N[j]?=some x:=by show X.N[j]?=_;rw[gx.N];exact a3
    have Od:(X.hand a o).N.Nodup:=by show X.N.Nodup;rw[gx.N];exact gx.nd
    intro pins s σ H D I q;refine pq (rd (X:=X.hand a o) Od hN l1 (oF gx xr xk n none _ v h2) (kQ (by simpa using hx.2) _ _ _) l2) (tO (kG (oF gx xr xk n (some (j,v)) _ _ (eL h3)))) pins s σ H D I ⟨⟨q.1,λj b z=>by cases z⟩,λu H1 s1 hu=>⟨⟨?_,λj' b' z=>?_⟩,λw H2 s2 hw=>by rw[show w= .bl b from hw];exact q.2.2 _ (s1.trans s2)⟩⟩
    ·rw[Qx OD];exact q.1
    ·cases z;have:j < σ.length:=by rw[q.2.1];exact(Qi.mp hN).1
     exact⟨u,by simp[this],hu⟩
  ·cases h
 ·cases h
theorem GX.cD {Γ:Gm} {X:Cx} {E:Value->Shared->Prop} (gx:GX g Γ X):GX g Γ (X.cD E):=⟨gx.N,gx.nd,gx.vis,gx.loc,gx.gl,gx.fre,gx.calm,gx.un,gx.con,gx.bl⟩
theorem eO {X:Cx} {E:Value->Shared->Prop} {E':XK} {e:Value} {s':Shared} (h:iI (X.cD E) E' e s'):iI X E' e s':=by obtain⟨σ,H',a,cls,e1,I,f,q⟩:=h;exact⟨σ,H',a,cls,e1,I.dM,f,q⟩
theorem pT {X:Cx} {E:Value->Shared->Prop} {E':XK} {e:Value} {s':Shared} (h:iI X E' e s'):iI (X.cD E) E' e s':=by obtain⟨σ,H',a,cls,e1,I,f,q⟩:=h;exact⟨σ,H',a,cls,e1,I.cD E,f,q⟩
theorem MA {dp fF:Bool} {n:Nat} {st:Stmt} {t:T} (lI:X.env.scope.names=Γ.names) (gx:GX g Γ X) (hX:HX g xv CX k F Φ X) (hd:dp=false->Φ.d0=none) (h:zZ n g Γ dp fF st=some t):Jn X st (jk Φ Γ F W fF t):=by
 unfold zZ at h;split at h
 ·rename_i body t tp e b0 iF hp pos;split at h
  ·rename_i hc;simp only[Qf] at hc;obtain⟨⟨⟨⟨c1,c2⟩,c3⟩,c4⟩,c5⟩:=hc;obtain⟨i,h1,h⟩:=Qc.mp h;obtain⟨b,h2,h⟩:=Qc.mp h;cases h;obtain⟨a1,a2,a3⟩:=fG h1;obtain⟨l1,l2⟩:=gx.loc e a1;obtain⟨n1,n2,n3⟩:=bC c3;intro s σ H D I q;obtain⟨o,ρ,S,oi,er,q⟩:=q;unfold ex at q;obtain⟨hS,q⟩:=aM q;have Oh:S=none:=by simpa using hS
   have vB:∀z,Φ.d0≠some z:=λz hz=>by obtain⟨ns,e1,_⟩:=er.drw z (oi.d z hz);rw[Oh] at e1;cases e1
   generalize htbl:(g.xs.map λx=>if x.2.lookup t==some true then Rx.hS n g Γ i x.2 (b0::iF) else none)=vG at q
   let Φ':Fm:=⟨Φ.K,Φ.H0,Φ.d0,λkk=>∃v,vG[kk]?=some (some v)/\∀H',aU (λb=>Φ.d0=some b) Φ.H0 H'->D.rt (.bl v) H',Φ.P,Φ.w⟩
   have X1:HX g xv CX k F Φ' (X.cD (iI X (jQ Φ' xv))):=⟨hX.K,hX.P,hX.w,hX.fx,hX.room,hX.cx,⟨hX.st.pn,hX.st.st⟩,λe s' z=>eO z,hX.xk⟩;have own:PassesOwn (model X.prog X.w) X.A X.env (iI X (jQ Φ' xv)):=uu (X:=X.cD (iI X (jQ Φ' xv))) (E:=jQ Φ' xv) ⟨hX.st.pn,hX.st.st⟩ (λe s' z=>eO z) λe s' z=>pT z
   have B:=(pD (dp:=dp) (fF:=fF) (W:=W) n Γ _ Φ' gx.cD X1 hd own).ss _ _ h2;have pZ:t≠"ValueError":=ko (by simpa using c4);obtain⟨y,O9,Hd⟩:=QR.mp c5;obtain⟨ky,OK⟩:=List.mem_iff_getElem?.mp O9;obtain⟨Cy,_,_,yk⟩:=hX.xk ky y.1 y.2 OK;obtain⟨c,hc,_⟩:=yk.2.2 t true (QD Hd);have vA:X.mg t=some c:=hc.elim (λz=>z.1) λz=>absurd z.2.1 pZ
   have hle:X.env.scope.names.lookup e=some .local:=by rw[lI];exact QD c1
   refine BE (X:=X) (E:=jQ Φ' xv) (c:=c) (tp:=tp) (hpos:=hp) (pos:=pos) hX.st (λz=>I.ok.hd z) (gx.gl _ c2) vA n1 (gx.N▸gx.nd) (by rw[gx.N];exact a3) hle B (λcls H' z=>?_) I ⟨o,ρ,S,⟨oi.w,oi.d⟩,er.re rfl,?_⟩
   ·obtain⟨kk,rfl,⟨v,hv,OY⟩,De⟩:=z;rw[<-htbl,Qz] at hv;obtain⟨⟨x,ts⟩,hx,hv⟩:=Qv.mp hv;split at hv
    ·rename_i hl;obtain⟨C,e1,e2,xk⟩:=hX.xk kk x ts hx;obtain⟨c',k9,_,kx⟩:=xk.2.2 t true (QD hl);have:c'=c:=by
      have h9:X.mg t=some c':=k9.elim (λz=>z.1) λz=>absurd z.2.1 pZ
      rw[vA] at h9;exact(Option.some.inj h9).symm
     subst this;exact⟨C,e1,kx rfl,λa o xr=>⟨_,GM gx xr xk hv,λσ s1 s2=>⟨s1,s2,λH2 sm=>OY H2 (De.trans (aU.of_same sm))⟩⟩⟩
    ·cases hv
   ·cases he:aP F b ρ S with
    | ok p=>
     rw[he] at q;have q:cm Φ Γ W fF o H D p:=q;show cm Φ' Γ W fF o H D p;unfold cm at q ⊢;cases gZ:p.1 with
     | next=>rw[gZ] at q;intro σ' H' so;exact q σ' H' ⟨so.ex.imp λo' z=>⟨⟨z.1.w,z.1.d⟩,ER.re (Φ:=Φ') (Φ':=Φ) rfl z.2.1,z.2.2⟩,so.ext,so.al⟩
     | brk=>rw[gZ] at q;intro σ' H' so;exact q σ' H' ⟨so.ex.imp λo' z=>⟨⟨z.1.w,z.1.d⟩,ER.re (Φ:=Φ') (Φ':=Φ) rfl z.2.1,z.2.2⟩,so.ext,so.al⟩
     | cnt=>rw[gZ] at q;intro σ' H' so;exact q σ' H' ⟨so.ex.imp λo' z=>⟨⟨z.1.w,z.1.d⟩,ER.re (Φ:=Φ') (Φ':=Φ) rfl z.2.1,z.2.2⟩,so.ext,so.al⟩
     | ret d=>rw[gZ] at q;intro v H' ro;exact q v H' ⟨ro.val,ro.ent,ro.drw,ro.ec⟩
    | ex kk=>
     rw[he] at q;simp only at q;split at q
     ·rename_i v hv;exact⟨v,hv,λH' De=>q _ _ ⟨RV.km,De,λa ha=>absurd ha (vB a),λ_ ds z=>by cases z⟩⟩
     ·exact q.elim
    | bad=>rw[he] at q;exact q.elim
  ·cases h
 ·cases h
theorem zf {st:Stmt} {kY:List Stmt} {t:T} {ts:Ts} {fF:Bool} (h1:Jn X st (jk Φ Γ F W fF t)) (h2:lY X kY (jr Φ Γ F W fF ts)):lY X (st::kY) (jr Φ Γ F W fF (.cons t ts)):=λs σ H D I q=>vd h1 h2 s σ H D I (by
 obtain⟨o,ρ,S,oi,er,q⟩:=q;unfold aP at q;rw[ae] at q;refine⟨o,ρ,S,oi,er,ah q λp _ q=>?_⟩;unfold cm;cases hp:p.1 with
 | next=>rw[hp] at q;intro σ1 H1 so;obtain⟨⟨o1,LI,aB,KC⟩,e1,a1⟩:=so;exact⟨o1,p.2.1,p.2.2,LI,aB,ah q λp2 _ q=>cm.go e1 KC a1 (λ_ _ z=>z) (λ_ _ z=>z) (λ_ _ z=>z) (λ_ _ z=>z) q⟩
 | brk=>rw[hp] at q;unfold mR cm at q;exact q
 | cnt=>rw[hp] at q;unfold mR cm at q;exact q
 | ret d=>rw[hp] at q;unfold mR cm at q;exact q)
theorem v7 {dp fF:Bool} {n:Nat} (lI:X.env.scope.names=Γ.names) (gx:GX g Γ X) (hX:HX g xv CX k F Φ X) (hd:dp=false->Φ.d0=none) (own:PassesOwn (model X.prog X.w) X.A X.env X.xe):∀{kY:List Stmt} {ts:Ts},CT n g Γ dp fF kY=some ts->lY X kY (jr Φ Γ F W fF ts)
 | [],ts,h=>by cases h;exact Bj zg
 | st::kY,ts,h=>by
  obtain⟨t,h1,h⟩:=Qc.mp h;obtain⟨zC,h2,h⟩:=Qc.mp h;cases h;refine zf ?_ (v7 lI gx hX hd own h2);cases ht:zZ n g Γ dp fF st with
  | none=>rw[ht] at h1;exact Es ((pD (dp:=dp) (fF:=fF) (W:=W) n Γ X Φ gx hX hd own).s _ _ h1)
  | some t'=>rw[ht] at h1;cases h1;exact MA lI gx hX hd ht
theorem pk {X:Cx} {E:Value->Shared->Prop} {st:List Stmt} {t:TS} (h:lY (X.cD E) st t) (hx:∀e s',E e s'->X.xe e s'):lY X st t:=λs σ H D I hw=>
 wpAny_mono (h s σ H D (I.cD _) hw) (λ_ _ q=>q.dM) λe s' z=>hx e s' z
end
section
variable {P:Program} {w:World} {K:Frag} {mg:Str->Option Value} {base:Heap} {g:G} {xv:Nat->Value} {F:FT} {k:Nat}
structure MG (g:G) (mg:Str->Option Value):Prop where
 con:∀x d,g.cons.lookup x=some d->∃u,nK d=true/\mg x=some u/\RelV (p9 d) u
 bl:∀x∈g.bls,mg x=none
noncomputable def XG (g:G) (K:Frag) (mg:Str->Option Value) (xv:Nat->Value):Prop:=∀k x ts,g.xs[k]?=some (x,ts)->∃C,xv k= .ref C/\mg x=some (.ref C)/\FC K mg C ts
noncomputable def ve (ba:Bool) (args:List Dt) (n ps:Nat):aj:=(if ba then[none] else[])++args.map some++List.replicate (n - ps) none
theorem kH {ba:Bool} {args:List Dt} {n ps i:Nat} {d:Dt} (h:(ve ba args n ps)[i]?=some (some d)):∃j,args[j]?=some d/\i=j + (if ba then 1 else 0):=by
 unfold ve at h;have tail:∀{i:Nat},(args.map some++List.replicate (n - ps) (none:Option Dt))[i]?=some (some d)->args[i]?=some d:=λ {i} h=>by
  by_cases hi:i < args.length
  ·rw[QW (by simpa using hi),Qz] at h;cases e:args[i]? with
   | none=>rw[e] at h;cases h
   | some a=>rw[e] at h;cases h;rfl
  ·rw[QX (by simpa using hi),List.getElem?_replicate] at h;split at h <;> cases h
 cases ba with
 | false=>simp only[Bool.false_eq_true,if_false,List.nil_append] at h;exact⟨i,tail h,rfl⟩
 | true=>
  simp only[if_true,Qu] at h;cases i with
  | zero=>cases h
  | succ i=>have h:(args.map some++List.replicate (n - ps) (none:Option Dt))[i]?=some (some d):=h;exact⟨i,tail h,rfl⟩
theorem lT {N:List Str} {vs:List V} {i:Nat} {v:V} (h:vs[i]?=some v):(start N vs)[i]?=some (some v):=by unfold L2.start;have hi:=(Qi.mp h).1;rw[QW (by simpa using hi),Qz,h];rfl
theorem wH {M:List Bool} {δ:Option Nat} {names:List (Str×NameKind)} {N:List Str} {np:Nat} {ba:Bool} {vs vH:List V} {H:Hp} {W:Addr->Prop} {dr:Option Addr} {args:List Dt} {S:Sx} {Ek:Nat->Prop} {κ:Option Nat} {P:Program} {w:World}
  (hM:∀i,i < np->M[i]?≠some true) (hδ:ba=true->δ=some 0) (P1:np<=N.length) (hl:vs.length=np)
  (hd:if ba=true then∃(a:Addr) (ns:List Int),vs= .ref a::vH/\dr=some a/\W a/\S=some ns/\H a=some (.lst (ns.map V.int)) else vs=vH/\dr=none/\S=none)
  (ha:ao K W H vH args) (hw:∀a,W a->∃x,H a=some x):ER ⟨K,H,dr,Ek,P,w⟩ ⟨names,N,M,δ,κ⟩ ⟨W,W,dr⟩ (ve ba args N.length np) S (start N vs) H/\args.length + (if ba then 1 else 0)=np:=by
 have sI:=ha.length;have GQ:args.length + (if ba then 1 else 0)=np:=by
  cases ba with
  | false=>
   simp only[Bool.false_eq_true,if_false] at hd ⊢;obtain⟨e,_,_⟩:=hd;subst e
   lia
  | true=>
   simp only[if_true] at hd ⊢;obtain⟨a,ns,e,_⟩:=hd;rw[e] at hl;simp at hl
   lia
 refine⟨⟨?_,λa z=>z,λa z=>?_,hw,λi d h=>?_,λi ks vs h=>?_,λi j a d e hm hm' h1 h2 _ _=>?_,λa z=>?_,λz=>?_,λi a hi z=>?_,λa z=> .inl z,aU.refl⟩,GQ⟩
 ·unfold L2.start ve;simp only[Qw,Qp,List.length_replicate];cases ba <;> simp at GQ ⊢ <;> lia
 ·cases ba with
  | false=>simp only[Bool.false_eq_true,if_false] at hd;rw[hd.2.1] at z;cases z
  | true=>simp only[if_true] at hd;obtain⟨b,ns,_,e,hb,_⟩:=hd;rw[e] at z;cases z;exact hb
 ·obtain⟨j,hj,rfl⟩:=kH h;obtain⟨v,h1,h2⟩:=ha.getD hj;have OE:=(Qi.mp hj).1;have hm:eV ⟨names,N,M,δ,κ⟩ (j + if ba=true then 1 else 0)=false:=by unfold eV;have:=hM (j + if ba=true then 1 else 0) (by lia);simpa using this
  refine⟨v,lT ?_,?_⟩
  ·cases ba with
   | false=>simp only[Bool.false_eq_true,if_false] at hd ⊢;rw[hd.1];exact h1
   | true=>simp only[if_true] at hd ⊢;obtain⟨b,ns,e,_⟩:=hd;rw[e];simpa using h1
  ·rw[hm,if_neg (by simp)];exact h2
 ·obtain⟨j,hj,rfl⟩:=kH h;obtain⟨v,h1,h2⟩:=ha.getD hj;cases h2.nd
 ·obtain⟨j1,hj,rfl⟩:=kH h1;have OE:=(Qi.mp hj).1;exfalso;unfold eV at hm;exact hM (j1 + if ba=true then 1 else 0) (by lia) (QD hm)
 ·cases ba with
  | false=>simp only[Bool.false_eq_true,if_false] at hd;rw[hd.2.1] at z;cases z
  | true=>simp only[if_true] at hd;obtain⟨b,ns,_,e,_,e2,e3⟩:=hd;rw[e] at z;cases z;exact⟨ns,e2,e3⟩
 ·cases ba with
  | false=>simp only[Bool.false_eq_true,if_false] at hd;exact hd.2.2
  | true=>simp only[if_true] at hd;obtain⟨b,ns,_,e,_⟩:=hd;rw[e] at z;cases z
 ·cases ba with
  | false=>simp only[Bool.false_eq_true,if_false] at hd;rw[hd.2.1] at z;cases z
  | true=>simp only[if_true] at hd;obtain⟨b,ns,e1,e,_⟩:=hd;rw[e] at z;cases z;have hi:δ=some i:=hi;rw[hδ rfl] at hi;cases hi;exact lT (by rw[e1];rfl)
theorem GF {CX:jt} {N ps:List Str} {sc:Scope} {M:List Bool} {δ κ:Option Nat} {qual:Str} {f:Addr} {fj:Value} {A:Around} {outer:List Env} {s:Shared} {H:Hp} {E:XK} (m:MG g mg) (S:eg N ps sc) (hr:gP k (A.deeper (envOfC qual sc s.heap.objs.size f fj))):
  GX g ⟨sc.names,N,M,δ,κ⟩ (jY CX P w K mg base N qual sc f fj A outer s H E) where
 N:=rfl
 nd:=S.nd
 vis:=λx h=>by
  have h:y9 (sc.names.lookup x)=true:=h;show FB sc x;unfold FB;cases hl:sc.names.lookup x with
  | none=>rw[hl] at h;cases h
  | some kk=>
   rw[hl] at h;cases kk with
   | «local»=>exact .inl rfl
   | cell=>exact .inr (.inl rfl)
   | free=>exact .inr (.inr rfl)
   | globalExplicit=>cases h
   | globalImplicit=>cases h
 loc:=λx h=>by
  have h:xR (sc.names.lookup x)=true:=h;refine⟨?_,.inl rfl⟩;show L2.Loc sc x;unfold L2.Loc;cases hl:sc.names.lookup x with
  | none=>rw[hl] at h;cases h
  | some kk=>
   rw[hl] at h;cases kk with
   | «local»=>exact .inl rfl
   | cell=>exact .inr rfl
   | free=>cases h
   | globalExplicit=>cases h
   | globalImplicit=>cases h
 gl:=λx h=>by
  have h:uK (sc.names.lookup x)=true:=h;show sc.names.lookup x=_;cases hl:sc.names.lookup x with
  | none=>rw[hl] at h;cases h
  | some kk=>
   rw[hl] at h;cases kk with
   | globalImplicit=>rfl
   | «local»=>cases h
   | cell=>cases h
   | free=>cases h
   | globalExplicit=>cases h
 fre:=λx h=>h
 calm:=rfl
 un:=by have:=hr.un;show (A.deeper (envOfC qual sc s.heap.objs.size f fj)).units + 150 < cLine;lia
 con:=m.con
 bl:=m.bl
theorem lF {name qual:Str} {params:Arguments} {body:List Stmt} {scope:Scope} {dV kV doc pm fj ct oc:Value} {an od:Option Addr} {tB:Array (Option Value)} {f:Addr} {N ps:List Str} {M:List Bool} {δ κ:Option Nat} {ba fF:Bool} {n m:Nat} {ts:Ts}
  (lk:K.lookup f=some ⟨oc,od,.func (PySem.W.fnOf name qual params body scope dV kV doc pm an fj ct),tB⟩) (vz:PySem.W.codeIn K fj qual=true) (S:eg N ps scope) (hm:MG g mg) (AD:XG g K mg xv) (fx:FX g xv (nE P w) P w K mg base m k F)
  (hM:∀i,i < ps.length->M[i]?≠some true) (hδ:ba=true->δ=some 0) (hc:CT n g ⟨scope.names,N,M,δ,κ⟩ ba fF body=some ts):
  iK P w K mg base (nE P w) (k + 1) f (PySem.W.fnOf name qual params body scope dV kV doc pm an fj ct) ps (Nt K xv (gp F ⟨ps.length,N.length,ba,ts⟩) ps.length fF ba):=by
 have lJ:ps.length<=N.length:=by have:=congrArg List.length S.pre;rw[List.length_take] at this;lia
 refine C3 lk vz S (λvs H Q E h=>h.1) λA outer s H vs Q E hr h=>?_
 obtain⟨hl,W,dr,args,S0,vH,hd,ha,hw,h⟩:=h;have er:=wH (K:=K) (names:=scope.names) (N:=N) (κ:=κ) (P:=P) (w:=w) (Ek:=λkk=>∀H',aU (λb=>dr=some b) H H'->E (xv kk) none H') hM hδ lJ hl hd ha hw;obtain⟨er,BY⟩:=er;generalize hXX:jY (nE P w) P w K mg base N qual scope f fj A outer s H E=X;generalize hΦ:(⟨K,H,dr,λkk=>∀H',aU (λb=>dr=some b) H H'->E (xv kk) none H',P,w⟩:Fm)=Φ at er;have hΦE:∀v a H',jQ Φ xv v a H'->E v none H':=λv a H' z=>by obtain⟨kk,rfl,z1,z2⟩:=z;subst hΦ;exact z1 H' z2
 have Pz:∀e s',iI X (jQ Φ xv) e s'->X.xe e s':=λe s' z=>by subst hXX;obtain⟨σ,H',a,cls,e1,I,fl,q⟩:=z;exact Fv ⟨σ,H',a,cls,e1,I,fl,hΦE _ _ _ q⟩
 have st:eR X:=by subst hXX;exact yP
 have gx:GX g ⟨scope.names,N,M,δ,κ⟩ X:=by subst hXX;exact GF (P:=P) (w:=w) (K:=K) (base:=base) (CX:=nE P w) (M:=M) (δ:=δ) (outer:=outer) (H:=H) (E:=E) hm S hr
 have Nv:eR (X.cD (iI X (jQ Φ xv))):=⟨st.pn,st.st⟩;have hX:HX g xv (nE P w) k F Φ (X.cD (iI X (jQ Φ xv))):=by
  refine⟨?_,?_,?_,⟨m,?_⟩,?_,?_,Nv,λe s' z=>eO z,?_⟩
  ·subst hΦ hXX;rfl
  ·subst hΦ hXX;rfl
  ·subst hΦ hXX;rfl
  ·subst hXX;exact fx
  ·subst hXX;exact hr
  ·subst hXX;rfl
  ·subst hXX;exact AD
 have own:PassesOwn (model (X.cD (iI X (jQ Φ xv))).prog (X.cD (iI X (jQ Φ xv))).w) (X.cD (iI X (jQ Φ xv))).A (X.cD (iI X (jQ Φ xv))).env (X.cD (iI X (jQ Φ xv))).xe:=uu (E:=jQ Φ xv) Nv (λe s' z=>eO z) λe s' z=>pT z
 have d0:Φ.d0=dr:=by subst hΦ;rfl
 have SS:=v7 (dp:=ba) (fF:=fF) (W:=W) (n:=n) (Γ:=⟨scope.names,N,M,δ,κ⟩) (by subst hXX;rfl) gx.cD hX (λz=>by
  rw[d0];subst z;simp only[Bool.false_eq_true,if_false] at hd;exact hd.2.1) own hc
 refine⟨_,pk SS Pz,⟨W,W,dr⟩,_,S0,⟨rfl,λa z=>by rw[d0] at z;exact z⟩,er,?_⟩;subst hΦ;unfold gp at h;simp only at h;rw[if_pos BY] at h;have h:(match (aP F ts (ve ba args N.length ps.length) S0).bind (λp=>match p.1 with
   | .next=>R.ok (Dt.bb,p.2.2)
   | .ret d=>R.ok (d,p.2.2)
   | _=>R.bad) with
  | .ok p=>∀v H',FO K W dr fF H p.1 p.2 v H'->Q v H'
  | .ex kk=>∀H',aU (λb=>dr=some b) H H'->E (xv kk) none H'
  | .bad=>False):=h
 cases he:aP F ts (ve ba args N.length ps.length) S0 with
 | ok p=>
  rw[he] at h;simp only[R.ai] at h;show cm _ _ _ _ _ _ _ p;unfold cm;cases hp:p.1 with
  | next=>rw[hp] at h;intro σ' H' so;obtain⟨o',oi,CZ,_⟩:=so.ex;exact h _ _ ⟨CZ.ent,RV.gC,λa z=>CZ.drw a (oi.d a z),λ_ ds e=>by cases e⟩
  | ret d=>rw[hp] at h;intro v H' ro;exact h _ _ ⟨ro.ent,ro.val,ro.drw,ro.ec⟩
  | brk=>rw[hp] at h;exact h.elim
  | cnt=>rw[hp] at h;exact h.elim
 | ex kk=>rw[he] at h;exact h
 | bad=>rw[he] at h;exact h.elim
end
structure vI (g:G) (K:Frag) (mg:Str->Option Value) (e:Str×Nat×List Dt×Bool) (idx:Nat) (fn:Fn):Prop where
 ex:∃(fa:Addr) (ps N:List Str) (M:List Bool) (δ κ:Option Nat) (n:Nat) (oc:Value) (od an:Option Addr) (tB:Array (Option Value)) (params:Arguments) (body:List Stmt) (scope:Scope) (dV kV doc pm fj ct:Value),
  K.lookup fa=some ⟨oc,od,.func (PySem.W.fnOf e.1 e.1 params body scope dV kV doc pm an fj ct),tB⟩/\PySem.W.codeIn K fj e.1=true/\PySem.W.keepIn K (.ref fa)=true/\mg e.1=some (.ref fa)/\eg N ps scope/\(∀i,i < ps.length->M[i]?≠some true)/\
  (e.2.2.2=true->δ=some 0)/\ps.length=e.2.1/\CT n g ⟨scope.names,N,M,δ,κ⟩ e.2.2.2 (g.fr idx) body=some fn.body/\fn.ps=ps.length/\fn.n=N.length/\fn.ba=e.2.2.2/\
  (∀j,j<=e.2.2.1.length->∃ds,aw ((e.2.2.1.drop j).map p9) ds/\Binds K (PySem.W.fnOf e.1 e.1 params body scope dV kV doc pm an fj ct) ps ds)/\e.2.2.1.all nK=true
noncomputable def nM (g:G) (K:Frag) (mg:Str->Option Value):Nat->List (Str×Nat×List Dt×Bool)->List Fn->Prop
 | _,[],[]=>True
 | i,e::es,f::fs=>vI g K mg e i f/\nM g K mg (i + 1) es fs
 | _,_,_=>False
section
variable {g:G} {K:Frag} {mg:Str->Option Value}
theorem mz {x:Str}:∀{es:List (Str×Nat×List Dt×Bool)} {fs:List Fn} {i j:Nat} {r:Nat×List Dt×Bool},nM g K mg i es fs->qx x es=some (j,r)->∃f,vI g K mg (x,r) (i + j) f/\fs[j]?=some f
 | [],fs,i,j,r,_,h=>by simp[qx] at h
 | e::es,[],i,j,r,h,_=>h.elim
 | e::es,f::fs,i,j,r,ok,h=>by
  obtain⟨o1,o2⟩:=ok;unfold qx at h;split at h
  ·rename_i hx;cases h;have ex:x=e.1:=QD hx;subst ex;exact⟨f,o1,rfl⟩
  ·obtain⟨p,h1,h2⟩:=Qv.mp h;obtain⟨j',r'⟩:=p;cases h2;obtain⟨f',k1,k2⟩:=mz o2 h1;refine⟨f',?_,k2⟩;have:i + (j' + 1)=i + 1 + j':=by lia
   rw[this];exact k1
variable {P:Program} {w:World} {base:Heap} {xv:Nat->Value} {fs:List Fn}
theorem kE (hm:MG g mg) (AD:XG g K mg xv) (ok:nM g K mg 0 g.fns fs):∀n,FX g xv (nE P w) P w K mg base n n (az fs n)
 | 0=>⟨λx f np fy ba h=>by
   obtain⟨fn,⟨fa,ps,N,M,δ,κ,n,oc,od,an,tB,params,body,scope,dV,kV,doc,pm,fj,ct,h1,h2,h3,h4,h5,h6,h7,h8,h9,Kx,Ky,Kz,KA,KB⟩,hf⟩:=mz ok h;refine⟨fa,_,ps,h8,h4,h3,⟨λvs H Q E q=>q.1.trans h8.symm,λA outer s H args us vs Q E _ _ _ _ q=>?_⟩,KA,KB⟩;obtain⟨_,W,dr,as,S,vH,_,_,_,q⟩:=q;exact q.elim⟩
 | n + 1=>⟨λx f np fy ba h=>by
   have ih:=kE hm AD ok n;obtain⟨fn,⟨fa,ps,N,M,δ,κ,m,oc,od,an,tB,params,body,scope,dV,kV,doc,pm,fj,ct,h1,h2,h3,h4,h5,h6,h7,h8,h9,Kx,Ky,Kz,KA,KB⟩,hf⟩:=mz ok h;rw[Nat.zero_add] at h9;refine⟨fa,_,ps,h8,h4,h3,?_,KA,KB⟩;have:=lF (xv:=xv) (P:=P) (w:=w) (base:=base) h1 h2 h5 hm AD ih h6 h7 h9;have e:(az fs (n + 1)) f=gp (az fs n) ⟨ps.length,N.length,ba,fn.body⟩:=by funext args S;show (match fs[f]? with | some g=>gp (az fs n) g args S | none=>R.bad)=_;rw[hf];obtain⟨a1,a2,a3,a4⟩:=fn;simp only at Kx Ky Kz;subst Kx Ky Kz;rfl
   have N6:ps.length=np:=h8;rw[e,<-N6];exact this⟩
noncomputable def t9 (K:Frag):Sp:=λvs H Q _=>∃(a:Addr) (ns:List Int),vs=[.ref a]/\dE K H a (ns.map V.int)/\ns.length<=63/\∀H',Q (.bl true) H'
theorem len0 {P:List Value->Prop} (h:P []):∀us:List Value,us.length=0->P us:=λus e=>List.eq_nil_of_length_eq_zero e▸h
theorem lenS {n:Nat} {P:List Value->Prop} (h:∀a (us:List Value),us.length=n->P (a::us)):∀us:List Value,us.length=n + 1->P us:=λus e=>by
 cases us with
 | nil=>cases e
 | cons a t=>exact h a t (Nat.succ.inj e)
theorem binds0 {fd:FuncData} {ps:List Str} (h:∀us:List Value,us.length=ps.length->bindArgs fd ⟨us,[]⟩=pure (ps.zip us)):∀j,j<=([]:List Dt).length->∃ds,aw ((([]:List Dt).drop j).map p9) ds/\Binds K fd ps ds:=λj hj=>by
 have:j=0:=by simpa using hj
 subst this;exact⟨[],.nil,Binds.all h⟩
noncomputable def Pf (names:List (Str×NameKind)) (ps:List Str):List Str:=ps++names.filterMap λp=>if xR (some p.2)&& !ps.contains p.1 then some p.1 else none
noncomputable def FQ (N ms:List Str):List Bool:=N.map λx=>ms.contains x
theorem Hv {N ms ps:List Str} (h:((FQ N ms).take ps.length).all (λb=> !b)=true):∀i,i < ps.length->(FQ N ms)[i]?≠some true:=λi hi e=>by have hm:true∈(FQ N ms).take ps.length:=List.mem_iff_getElem?.mpr ⟨i,by rw[List.getElem?_take_of_lt hi];exact e⟩;have:=QQ.mp h true hm;cases this
end
end Rx
end
section
namespace Rx
open PySem PySem.W PySem.Spec PyProof.Rows L2
section
variable {F:FT} {S:Sx} {ρ:aj}
theorem bU {tg:Tg} {body:aj->Sx->RS} {ds:List Dt} (P:List Dt->aj->Prop) (h0:P [] ρ)
  (step:∀pre x post ρ,ds=pre++x::post->P pre ρ->∃ρ1 ρ2,du tg x ρ= .ok ρ1/\body ρ1 S= .ok (.next,ρ2,S)/\P (pre++[x]) ρ2):∃ρ',forL tg body ds ρ S= .ok (.next,ρ',S)/\P ds ρ':=by
 have key:∀(post pre:List Dt) (ρ:aj),ds=pre++post->P pre ρ->∃ρ',forL tg body post ρ S= .ok (.next,ρ',S)/\P ds ρ':=by
  intro post
  induction post with
  | nil=>intro pre ρ e h;rw[QU] at e;subst e;exact⟨ρ,rfl,h⟩
  | cons x post ih=>intro pre ρ e h;obtain⟨ρ1,ρ2,h1,h2,h3⟩:=step pre x post ρ e h;obtain⟨ρ',h4,h5⟩:=ih (pre++[x]) ρ2 (by rw[e];simp) h3;refine⟨ρ',?_,h5⟩;rw[forL,h1,R.ai,h2,R.ai];exact h4
 exact key ds [] ρ rfl h0
theorem wW {tg:Tg} {body:aj->Sx->RS} {ds:List Dt} (P:List Dt->aj->Prop) (T:Dt->Prop) (h0:P [] ρ)
  (step:∀pre x post ρ,ds=pre++x::post->P pre ρ->∃ρ1 ρ2,du tg x ρ= .ok ρ1/\((body ρ1 S= .ok (.next,ρ2,S)/\P (pre++[x]) ρ2)\/∃d,body ρ1 S= .ok (.ret d,ρ2,S)/\T d)):
  (∃ρ',forL tg body ds ρ S= .ok (.next,ρ',S)/\P ds ρ')\/∃d ρ',forL tg body ds ρ S= .ok (.ret d,ρ',S)/\T d:=by
 have key:∀(post pre:List Dt) (ρ:aj),ds=pre++post->P pre ρ->(∃ρ',forL tg body post ρ S= .ok (.next,ρ',S)/\P ds ρ')\/∃d ρ',forL tg body post ρ S= .ok (.ret d,ρ',S)/\T d:=by
  intro post
  induction post with
  | nil=>intro pre ρ e h;rw[QU] at e;subst e;exact .inl ⟨ρ,rfl,h⟩
  | cons x post ih=>
   intro pre ρ e h;obtain⟨ρ1,ρ2,h1,h2 | ⟨d,h2,h3⟩⟩:=step pre x post ρ e h
   ·rw[forL,h1,R.ai,h2.1,R.ai];exact ih (pre++[x]) ρ2 (by rw[e];simp) h2.2
   ·exact .inr ⟨d,ρ2,by rw[forL,h1,R.ai,h2,R.ai],h3⟩
 exact key ds [] ρ rfl h0
theorem jc {α β:Type} (f:α->β):∀l:List α,(l.flatMap λx=>[f x])=l.map f
 | []=>rfl
 | x::l=>by rw[List.flatMap_cons,jc f l];rfl
end
theorem Bu {fs:List Fn} {n k:Nat} {g:Fn} {args:List Dt} {S:Sx} (h:fs[k]?=some g):az fs (n + 1) k args S=gp (az fs n) g args S:=by show (match fs[k]? with | some g=>gp (az fs n) g args S | none=>R.bad)=_;rw[h]
noncomputable def Hy (d:Dt) (S:Sx):R (Dt×Sx):=match d with | .int i=> .ok (.int (-i),S) | _=> .bad
noncomputable def Nq (d:Dt) (S:Sx):R (Dt×Sx):=match d with | .bl b=> .ok (.bl !b,S) | _=> .bad
noncomputable def Gd (d:Dt) (S:Sx):R (Dt×Sx):=match d with | .bl c=> .ok (.bl c,S) | _=> .bad
noncomputable def CF (f:Sx->R (Dt×Sx)) (d:Dt) (S:Sx):R (Dt×Sx):=match d with | .bl true=>(f S).bind (λy=>Gd y.1 y.2) | .bl false=> .ok (.bl false,S) | _=> .bad
noncomputable def LK (f:Sx->R (Dt×Sx)) (d:Dt) (S:Sx):R (Dt×Sx):=match d with | .bl false=>(f S).bind (λy=>Gd y.1 y.2) | .bl true=> .ok (.bl true,S) | _=> .bad
noncomputable def B8 (k:List Dt->Dt) (ds:List Dt) (S:Sx):R (Dt×Sx):=ag (decide (ds.length<=lim)) (.ok (k ds,S))
noncomputable def Ln (o:Option (List Dt)) (S:Sx):R (List Dt×Sx):=match o with | some ds=> .ok (ds,S) | none=> .bad
noncomputable def IA (d e:Dt) (S:Sx):R (Dt×Sx):=match e with | .int i=>(i8 d (some i) none).bind λd=> .ok (d,S) | _=> .bad
noncomputable def Iz (d e:Dt) (S:Sx):R (Dt×Sx):=match e with | .int i=>(i8 d none (some i)).bind λd=> .ok (d,S) | _=> .bad
theorem RX:
  (∀{F:FT} {S:Sx} {ρ:aj} {d:Dt},ev F (.con d) ρ S= .ok (d,S))/\
  (∀{F:FT} {S:Sx} {ρ:aj} {i:Nat},ev F (.var i) ρ S=(dG ρ i).bind λd=> .ok (d,S))/\
  (∀{F:FT} {S:Sx} {ρ:aj} {i:Nat},ev F (.mvr i) ρ S=(dG ρ i).bind λd=> .ok (d,S))/\
  (∀{F:FT} {S:Sx} {ρ:aj} {o:Operator} {a b:C},ev F (.bin o a b) ρ S=(ev F a ρ S).bind λx=>(ev F b ρ x.2).bind λy=>(p8 o x.1 y.1).bind λd=> .ok (d,y.2))/\
  (∀{F:FT} {S:Sx} {ρ:aj} {o:CmpOp} {a b:C},ev F (.cmp o a b) ρ S=(ev F a ρ S).bind λx=>(ev F b ρ x.2).bind λy=>(de o x.1 y.1).bind λd=> .ok (.bl d,y.2))/\
  (∀{F:FT} {S:Sx} {ρ:aj} {a:C},ev F (.neg a) ρ S=(ev F a ρ S).bind λx=>Hy x.1 x.2)/\
  (∀{F:FT} {S:Sx} {ρ:aj} {a:C},ev F (.nt a) ρ S=(ev F a ρ S).bind λx=>Nq x.1 x.2)/\
  (∀{F:FT} {S:Sx} {ρ:aj} {a b:C},ev F (.and a b) ρ S=(ev F a ρ S).bind λx=>CF (ev F b ρ) x.1 x.2)/\
  (∀{F:FT} {S:Sx} {ρ:aj} {a b:C},ev F (.or a b) ρ S=(ev F a ρ S).bind λx=>LK (ev F b ρ) x.1 x.2)/\
  (∀{F:FT} {S:Sx} {ρ:aj} {a b c:C},ev F (.ite a b c) ρ S=(cX F a ρ S).bind λx=>if x.1=true then ev F b ρ x.2 else ev F c ρ x.2)/\
  (∀{F:FT} {S:Sx} {ρ:aj} {a b:C},ev F (.idx a b) ρ S=(ev F a ρ S).bind λx=>(ev F b ρ x.2).bind λy=>(cc x.1 y.1).bind λd=> .ok (d,y.2))/\
  (∀{F:FT} {S:Sx} {ρ:aj} {a b:C},ev F (.sliL a b) ρ S=(ev F a ρ S).bind λx=>(ev F b ρ x.2).bind λy=>IA x.1 y.1 y.2)/\
  (∀{F:FT} {S:Sx} {ρ:aj} {a b:C},ev F (.sliH a b) ρ S=(ev F a ρ S).bind λx=>(ev F b ρ x.2).bind λy=>Iz x.1 y.1 y.2)/\
  (∀{F:FT} {S:Sx} {ρ:aj} {f:Nat} {es:Cs} {ds:List Dt},ev F (.call f es ds) ρ S=(gL F es ρ S).bind λx=>(F f (x.1++ds) none).bind λy=> .ok (y.1,x.2))/\
  (∀{F:FT} {S:Sx} {ρ:aj} {u:BI} {es:Cs},ev F (.bi u es) ρ S=(gL F es ρ S).bind λx=>(ei u x.1).bind λd=> .ok (d,x.2))/\
  (∀{F:FT} {S:Sx} {ρ:aj} {es:Cs},ev F (.tup es) ρ S=(gL F es ρ S).bind λx=>B8 .tup x.1 x.2)/\
  (∀{F:FT} {S:Sx} {ρ:aj} {es:Cs},ev F (.lst es) ρ S=(gL F es ρ S).bind λx=>B8 .lst x.1 x.2)/\
  (∀{F:FT} {S:Sx} {ρ:aj},gL F .nil ρ S= .ok ([],S))/\
  (∀{F:FT} {S:Sx} {ρ:aj} {a:C} {es:Cs},gL F (.cons a es) ρ S=(ev F a ρ S).bind λx=>(gL F es ρ x.2).bind λy=> .ok (x.1::y.1,y.2))/\
  (∀{F:FT} {S:Sx} {ρ:aj} {o:CmpOp} {a b:C},cX F (.cmp o a b) ρ S=(ev F a ρ S).bind λx=>(ev F b ρ x.2).bind λy=>(de o x.1 y.1).bind λd=> .ok (d,y.2))/\
  (∀{F:FT} {S:Sx} {ρ:aj} {a b:C},cX F (.and a b) ρ S=(cX F a ρ S).bind λx=>if x.1=true then cX F b ρ x.2 else .ok (false,x.2))/\
  (∀{F:FT} {S:Sx} {ρ:aj} {a b:C},cX F (.or a b) ρ S=(cX F a ρ S).bind λx=>if x.1=true then .ok (true,x.2) else cX F b ρ x.2)/\
  (∀{F:FT} {S:Sx} {ρ:aj} {a:C},cX F (.nt a) ρ S=(cX F a ρ S).bind λx=> .ok (!x.1,x.2))/\
  (∀{F:FT} {S:Sx} {ρ:aj} {f:Nat} {es:Cs} {ds:List Dt},cX F (.call f es ds) ρ S=(gL F es ρ S).bind λx=>(F f (x.1++ds) none).bind λy=>(dy y.1).bind λb=> .ok (b,x.2))/\
  (∀{F:FT} {S:Sx} {ρ:aj} {u:BI} {es:Cs},cX F (.bi u es) ρ S=(gL F es ρ S).bind λx=>(ei u x.1).bind λd=>(dy d).bind λb=> .ok (b,x.2))/\
  (∀{F:FT} {S:Sx} {ρ:aj} {i:Nat},cX F (.var i) ρ S=(dG ρ i).bind λd=>(dy d).bind λb=> .ok (b,S))/\
  (∀{F:FT} {S:Sx} {ρ:aj} {i:Nat},cX F (.mvr i) ρ S=(dG ρ i).bind λd=>(dy d).bind λb=> .ok (b,S))/\
  (∀{F:FT} {S:Sx} {ρ:aj} {a b:C},cX F (.idx a b) ρ S=(ev F a ρ S).bind λx=>(ev F b ρ x.2).bind λy=>(cc x.1 y.1).bind λd=>(dy d).bind λb=> .ok (b,y.2))/\
  (∀{F:FT} {S:Sx} {ρ:aj},cC F .nil ρ S= .ok (true,S))/\
  (∀{F:FT} {S:Sx} {ρ:aj} {a:C},cC F (.cons a .nil) ρ S=cX F a ρ S)/\
  (∀{F:FT} {S:Sx} {ρ:aj} {a:C},e9 F (.seq a) ρ S=(ev F a ρ S).bind λx=>Ln (itemsOf x.1) x.2)/\
  (∀{F:FT} {S:Sx} {ρ:aj} {a:C},e9 F (.enum a) ρ S=(ev F a ρ S).bind λx=>Ln ((cZ x.1).map (wD 0)) x.2)/\
  (∀{d:Dt} {ρ:aj},dG (some d::ρ) 0= .ok d)/\
  (∀{e:Option Dt} {ρ:aj} {i:Nat},dG (e::ρ) (i + 1)=dG ρ i)/\
  (∀{S:Sx} {i:Int},Hy (.int i) S= .ok (.int (-i),S))/\
  (∀{S:Sx} {b:Bool},Nq (.bl b) S= .ok (.bl !b,S))/\
  (∀{S:Sx} {f:Sx->R (Dt×Sx)},CF f (.bl false) S= .ok (.bl false,S))/\
  (∀{S:Sx} {f:Sx->R (Dt×Sx)},CF f (.bl true) S=(f S).bind λy=>Gd y.1 y.2)/\
  (∀{S:Sx} {f:Sx->R (Dt×Sx)},LK f (.bl true) S= .ok (.bl true,S))/\
  (∀{S:Sx} {f:Sx->R (Dt×Sx)},LK f (.bl false) S=(f S).bind λy=>Gd y.1 y.2)/\
  (∀{S:Sx} {b:Bool},Gd (.bl b) S= .ok (.bl b,S))/\
  (∀{S:Sx} {ds:List Dt},Ln (some ds) S= .ok (ds,S))/\
  (∀{ds:List Dt} {f:List Dt->List Dt},(some ds).map f=some (f ds))/\
  (∀{S:Sx} {k:List Dt->Dt},B8 k [] S= .ok (k [],S))/\
  (∀{S:Sx} {k:List Dt->Dt} {a:Dt},B8 k [a] S= .ok (k [a],S))/\
  (∀{S:Sx} {k:List Dt->Dt} {a b:Dt},B8 k [a,b] S= .ok (k [a,b],S))/\
  (∀{S:Sx} {k:List Dt->Dt} {a b c:Dt},B8 k [a,b,c] S= .ok (k [a,b,c],S))/\
  (∀{S:Sx} {k:List Dt->Dt} {a b c d:Dt},B8 k [a,b,c,d] S= .ok (k [a,b,c,d],S))/\
  (∀{S:Sx} {k:List Dt->Dt} {a b c d e:Dt},B8 k [a,b,c,d,e] S= .ok (k [a,b,c,d,e],S))/\
  (∀{S:Sx} {d:Dt} {i:Int},IA d (.int i) S=(i8 d (some i) none).bind λd=> .ok (d,S))/\
  (∀{S:Sx} {d:Dt} {i:Int},Iz d (.int i) S=(i8 d none (some i)).bind λd=> .ok (d,S))/\
  (∀{m n:Int},p8 .Add (.int m) (.int n)= .ok (.int (m + n)))/\
  (∀{m n:Int},p8 .Sub (.int m) (.int n)= .ok (.int (m - n)))/\
  (∀{m n:Int},de .Lt (.int m) (.int n)= .ok (decide (m < n)))/\
  (∀{m n:Int},de .LtE (.int m) (.int n)= .ok (decide (m<=n)))/\
  (∀{m n:Int},de .Gt (.int m) (.int n)= .ok (decide (n < m)))/\
  (∀{m n:Int},de .GtE (.int m) (.int n)= .ok (decide (n<=m)))/\
  (∀{m n:Int},de .Eq (.int m) (.int n)= .ok (m==n))/\
  (∀{m n:Int},de .NotEq (.int m) (.int n)= .ok (!(m==n)))/\
  (∀{m n:Str},de .Eq (.str m) (.str n)= .ok (m==n))/\
  (∀{m n:Str},de .NotEq (.str m) (.str n)= .ok (!(m==n)))/\
  (∀{ns:List Int},ei .len [.bc ns]= .ok (.int ns.length))/\
  (∀{ds:List Dt},ei .len [.lst ds]= .ok (.int ds.length))/\
  (∀{ds:List Dt},ei .len [.tup ds]= .ok (.int ds.length))/\
  (∀{ds:List Dt},ei .tuple [.lst ds]= .ok (.tup ds))/\
  (∀{ds:List Dt},ei .tuple [.tup ds]= .ok (.tup ds))/\
  (∀{ds:List Dt},ei .list [.lst ds]= .ok (.lst ds))/\
  (∀{ds:List Dt},ei .list [.tup ds]= .ok (.lst ds))/\
  (∀{m n:Int},ei .min2 [.int m,.int n]= .ok (.int (if n < m then n else m)))/\
  (∀{t:Bool},dy (.bl t)= .ok t)/\
  (∀{ds:List Dt},dy (.lst ds)= .ok !ds.isEmpty)/\
  (∀{ds:List Dt},dy (.tup ds)= .ok !ds.isEmpty)/\
  (∀{ds:List Dt},itemsOf (.lst ds)=some ds)/\
  (∀{ds:List Dt},itemsOf (.tup ds)=some ds)/\
  (∀{ds:List Dt},cZ (.lst ds)=some ds)/\
  (∀{ds:List Dt},cZ (.tup ds)=some ds)/\
  (∀{α β:Type} {x:α} {f:α->R β},(R.ok x).bind f=f x)/\
  (∀{α:Type} {r:R α},ag true r=r)/\
  (∀{ds:List Dt},(ds++[]:List Dt)=ds)/\
  (∀{e v:Option Dt} {ρ:aj},(e::ρ).set 0 v=v::ρ)/\
  (∀{e v:Option Dt} {ρ:aj} {i:Nat},(e::ρ).set (i + 1) v=e::ρ.set i v)/\
  (∀{d:Dt} {ρ:aj} {i:Nat},du (.nm i) d ρ= .ok (ρ.set i (some d)))/\
  (∀{is:List Nat} {ds:List Dt} {ρ:aj},du (.tp is) (.tup ds) ρ=ji is ds ρ)/\
  (∀{ρ:aj},ji [] [] ρ= .ok ρ)/\
  (∀{i:Nat} {is:List Nat} {d:Dt} {ds:List Dt} {ρ:aj},ji (i::is) (d::ds) ρ=ji is ds (ρ.set i (some d)))/\
  (∀{d:Dt},cc (.tup [d]) (.int 0)= .ok d)/\
  (∀{d d2:Dt},cc (.tup [d,d2]) (.int 0)= .ok d)/\
  (∀{d d2:Dt},cc (.tup [d,d2]) (.int 1)= .ok d2)/\
  (∀{d d2 d3:Dt},cc (.tup [d,d2,d3]) (.int 0)= .ok d)/\
  (∀{d d2 d3:Dt},cc (.tup [d,d2,d3]) (.int 1)= .ok d2)/\
  (∀{d d2 d3:Dt},cc (.tup [d,d2,d3]) (.int 2)= .ok d3):=
 ⟨@λ_ _ _ _=>rfl,
  @λ_ _ _ _=>rfl,
  @λ_ _ _ _=>rfl,
  @λ_ _ _ _ _ _=>rfl,
  @λ_ _ _ _ _ _=>rfl,
  @λ_ _ _ _=>rfl,
  @λ_ _ _ _=>rfl,
  @λ_ _ _ _ _=>rfl,
  @λ_ _ _ _ _=>rfl,
  @λ_ _ _ _ _ _=>rfl,
  @λ_ _ _ _ _=>rfl,
  @λ_ _ _ _ _=>rfl,
  @λ_ _ _ _ _=>rfl,
  @λ_ _ _ _ _ _=>rfl,
  @λ_ _ _ _ _=>rfl,
  @λ_ _ _ _=>rfl,
  @λ_ _ _ _=>rfl,
  @λ_ _ _=>rfl,
  @λ_ _ _ _ _=>rfl,
  @λ_ _ _ _ _ _=>rfl,
  @λ_ _ _ _ _=>rfl,
  @λ_ _ _ _ _=>rfl,
  @λ_ _ _ _=>rfl,
  @λ_ _ _ _ _ _=>rfl,
  @λ_ _ _ _ _=>rfl,
  @λ_ _ _ _=>rfl,
  @λ_ _ _ _=>rfl,
  @λ_ _ _ _ _=>rfl,
  @λ_ _ _=>rfl,
  @λ_ _ _ _=>rfl,
  @λ_ _ _ _=>rfl,
  @λF S ρ a=>by rw[e9];cases ev F a ρ S with | ok x=>(simp only[R.ai];cases cZ x.1 <;> rfl) | ex k=>rfl | bad=>rfl,
  @λ_ _=>rfl,
  @λ_ _ _=>rfl,
  @λ_ _=>rfl,
  @λ_ _=>rfl,
  @λ_ _=>rfl,
  @λ_ _=>rfl,
  @λ_ _=>rfl,
  @λ_ _=>rfl,
  @λ_ _=>rfl,
  @λ_ _=>rfl,
  @λ_ _=>rfl,
  @λ_ _=>rfl,
  @λ_ _ _=>rfl,
  @λ_ _ _ _=>rfl,
  @λ_ _ _ _ _=>rfl,
  @λ_ _ _ _ _ _=>rfl,
  @λ_ _ _ _ _ _ _=>rfl,
  @λ_ _ _=>rfl,
  @λ_ _ _=>rfl,
  @λ_ _=>rfl,
  @λ_ _=>rfl,
  @λ_ _=>rfl,
  @λ_ _=>rfl,
  @λ_ _=>rfl,
  @λ_ _=>rfl,
  @λ_ _=>rfl,
  @λ_ _=>rfl,
  @λ_ _=>rfl,
  @λ_ _=>rfl,
  @λ_=>rfl,
  @λ_=>rfl,
  @λ_=>rfl,
  @λ_=>rfl,
  @λ_=>rfl,
  @λ_=>rfl,
  @λ_=>rfl,
  @λ_ _=>rfl,
  @λ_=>rfl,
  @λ_=>rfl,
  @λ_=>rfl,
  @λ_=>rfl,
  @λ_=>rfl,
  @λ_=>rfl,
  @λ_=>rfl,
  @λ_ _ _ _=>rfl,
  @λ_ _=>rfl,
  @λds=>QU ds,
  @λ_ _ _=>rfl,
  @λ_ _ _ _=>rfl,
  @λ_ _ _=>rfl,
  @λ_ _ _=>rfl,
  @λ_=>rfl,
  @λ_ _ _ _ _=>rfl,
  @λ_=>rfl,
  @λ_ _=>rfl,
  @λ_ _=>rfl,
  @λ_ _ _=>rfl,
  @λ_ _ _=>rfl,
  @λ_ _ _=>rfl⟩
section
variable {F:FT} {S:Sx} {ρ:aj}
theorem bo {i j:Int} (h:i.natAbs < 2 ^ 64\/j.natAbs < 2 ^ 64):p8 .Mult (.int i) (.int j)= .ok (.int (i * j)):=by show ag (decide (i.natAbs < 2 ^ 64)||decide (j.natAbs < 2 ^ 64)) _=_;rw[show (decide (i.natAbs < 2 ^ 64)||decide (j.natAbs < 2 ^ 64))=true by simpa using h];rfl
theorem cU {i j:Int} (h:0 < j):p8 .Mod (.int i) (.int j)= .ok (.int (i % j)):=by show ag (decide (0 < j)) _=_;rw[QJ h];rfl
theorem qW {i j:Int} (h:0 < j) (h2:j.natAbs.log2 < 9000):p8 .FloorDiv (.int i) (.int j)= .ok (.int (i / j)):=by show ag (decide (0 < j)&&decide (j.natAbs.log2 < 9000)) _=_;rw[QJ h,QJ h2];rfl
noncomputable def fin (r:RS):R (Dt×Sx):=r.bind λp=>match p.1 with
 | .next=> .ok (.bb,p.2.2)
 | .ret d=> .ok (d,p.2.2)
 | _=> .bad
noncomputable def Ts.app:Ts->Ts->Ts
 | .nil,b=>b
 | .cons t a,b=> .cons t (a.app b)
theorem mv:∀{a b:Ts} {ρ:aj} {S:Sx},aP F (a.app b) ρ S=(aP F a ρ S).bind λp=>match p.1 with
  | .next=>aP F b p.2.1 p.2.2
  | f=> .ok (f,p.2)
 | .nil,b,ρ,S=>rfl
 | .cons t a,b,ρ,S=>by
  show aP F (.cons t (a.app b)) ρ S=_;rw[aP,aP];cases ex F t ρ S with
  | ok p=>
   obtain⟨f,ρ1,S1⟩:=p;cases f with
   | next=>exact mv
   | brk=>rfl
   | cnt=>rfl
   | ret d=>rfl
  | ex k=>rfl
  | bad=>rfl
section
variable {r:R (Dt×Sx)} {ts:Ts}
theorem j5 {t:T} {ρ1:aj} {S1:Sx} (h:ex F t ρ S= .ok (.next,ρ1,S1)) (k:fin (aP F ts ρ1 S1)=r):fin (aP F (.cons t ts) ρ S)=r:=by rw[aP,h];exact k
theorem my {t:T} {ρ1:aj} {S1:Sx} {d:Dt} (h:ex F t ρ S= .ok (.ret d,ρ1,S1)):fin (aP F (.cons t ts) ρ S)= .ok (d,S1):=by rw[aP,h];rfl
theorem aJ {i:Nat} {c:C} {d:Dt} {S1:Sx} (h:ev F c ρ S= .ok (d,S1)) (hs:bR c d=true) (k:fin (aP F ts (ρ.set i (some d)) S1)=r):fin (aP F (.cons (.asg i c) ts) ρ S)=r:=by refine j5 ?_ k;rw[ex,h,R.ai,hs];rfl
theorem dS {i:Nat} {c:C} {d:Dt} {S1:Sx} (h:ev F c ρ S= .ok (d,S1)) (hs:kK c d=true) (k:fin (aP F ts (ρ.set i (some d)) S1)=r):fin (aP F (.cons (.asgM i c) ts) ρ S)=r:=by refine j5 ?_ k;rw[ex,h,R.ai,hs];rfl
theorem aq {c:C} {d:Dt} {S1:Sx} (h:ev F c ρ S= .ok (d,S1)):fin (aP F (.cons (.ret c) ts) ρ S)= .ok (d,S1):=by refine my (ρ1:=ρ) ?_;rw[ex,h];rfl
theorem wR {t:C} {a b:Ts} {x:Bool} {S1:Sx} (h:cX F t ρ S= .ok (x,S1)) (k:fin (aP F ((if x=true then a else b).app ts) ρ S1)=r):fin (aP F (.cons (.ifs t a b) ts) ρ S)=r:=by rw[<-k,mv,aP,ex,h,R.ai];cases x <;> rfl
theorem dR {t:C} {a b:Ts} {S1:Sx} (h:cX F t ρ S= .ok (true,S1)) (k:fin (aP F (a.app ts) ρ S1)=r):fin (aP F (.cons (.ifs t a b) ts) ρ S)=r:=wR h (by rw[if_pos rfl];exact k)
theorem cq {t:C} {a b:Ts} {S1:Sx} (h:cX F t ρ S= .ok (false,S1)) (k:fin (aP F (b.app ts) ρ S1)=r):fin (aP F (.cons (.ifs t a b) ts) ρ S)=r:=wR h (by rw[if_neg (by simp)];exact k)
theorem bF {tg:Tg} {it:nN} {b:Ts} {ds:List Dt} {ρ1:aj} {S1 S2:Sx} (h:e9 F it ρ S= .ok (ds,S1)) (hl:uW it=0) (hf:forL tg (aP F b) ds ρ S1= .ok (.next,ρ1,S2)) (k:fin (aP F ts ρ1 S2)=r):fin (aP F (.cons (.fr tg it b) ts) ρ S)=r:=by refine j5 ?_ k;rw[ex,h,R.ai,QJ hl,Bool.true_or];exact hf
end
end
theorem aF {fs:List Fn} {n k ps m:Nat} {body:Ts} {args:List Dt} {r:R (Dt×Sx)} {S:Sx} (h:fs[k]?=some ⟨ps,m,false,body⟩) (hn:1<=n) (hl:args.length=ps) (q:fin (aP (az fs (n - 1)) body (args.map some++List.replicate (m - ps) none) S)=r):az fs n k args S=r:=by obtain⟨n,rfl⟩:∃m,n=m + 1:=⟨n - 1,by lia⟩;rw[Bu h];unfold gp;simp only[Bool.false_eq_true,if_false,Nat.add_zero,hl,if_true,List.nil_append];exact q
noncomputable def nW:Ts:=(.cons (.ifs (.cmp .Lt (.var 1) (.bi .len (.cons (.var 0) .nil))) (.cons (.ret (.idx (.var 0) (.var 1))) .nil) .nil) (.cons (.asg 2 (.bin .Add (.bin .Mult (.var 1) (.con (.int 7919))) (.con (.int 5)))) (.cons (.ifs (.cmp .Gt (.bi .len (.cons (.var 0) .nil)) (.con (.int 0))) (.cons (.asg 2 (.bin .Add (.bin .Add (.bin .Mult (.bin .Mod (.idx (.var 0) (.bin .Mod (.var 1) (.bi .len (.cons (.var 0) .nil)))) (.con (.int 2147483647))) (.con (.int 48271))) (.bin .Mult (.bin .Mult (.var 1) (.var 1)) (.con (.int 7919)))) (.con (.int 11)))) .nil) .nil) (.cons (.ret (.bin .Mod (.bin .Mult (.var 2) (.var 2)) (.con (.int 2147483629)))) .nil))))
theorem sO {ns:List Int} {k:Nat} (h:k < ns.length):cc (.bc ns) (.int k)= .ok (.int ns[k]):=by show uv (ns.map Dt.int) k=_;unfold uv;rw[L2.fH (v:= .int ns[k]) (by simp[h])]
noncomputable def gU (ns:List Int) (k:Nat):Int:=if h:k < ns.length then ns[k] else
 let m:Int:=if h:0 < ns.length then ns[k % ns.length]'(Nat.mod_lt _ h) % 2147483647 * 48271 + k * k * 7919 + 11 else k * 7919 + 5
 m * m % 2147483629
theorem rZ {fs:List Fn} {ic:Nat} (hc:fs[ic]?=some ⟨2,3,false,nW⟩) {n:Nat} (hn:1<=n) {ns:List Int} {k:Nat} (hk:k < 1000000):az fs n ic [.bc ns,.int k] none= .ok (.int (gU ns k),none):=by
 refine aF hc hn rfl ?_;show fin (aP (az fs (n - 1)) nW [some (.bc ns),some (.int k),none] none)=_;by_cases h:k < ns.length
 ·refine dR (S1:=none) (by simp only[RX];simp[h]) ?_;exact(aq (d:= .int ns[k]) (S1:=none) (by simp only[RX,sO h])).trans (by simp[gU,h])
 ·have b1:(k:Int) * k<=1000000 * 1000000:=by
   have:k * k<=1000000 * 1000000:=Nat.mul_le_mul (by lia) (by lia);rw[<-Int.natCast_mul]
   lia
  have b0:(0:Int)<=(k:Int) * k:=Int.mul_nonneg (by lia) (by lia);have m1:=bo (i:=k) (j:=7919) (.inl (by lia));refine cq (S1:=none) (by simp only[RX];simp;lia) (aJ (d:= .int (k * 7919 + 5)) (S1:=none) (by simp only[RX,m1]) rfl ?_);by_cases h2:0 < ns.length
  ·have hm:=Nat.mod_lt k h2;have e1:((k:Int) % (ns.length:Int))=((k % ns.length:Nat):Int):=by simp
   generalize hx:ns[k % ns.length]=x;have r1:=QS x (b:=2147483647) (by decide);have r2:=QT x (b:=2147483647) (by decide);have m2:=cU (i:=k) (j:=ns.length) (by lia);rw[e1] at m2;have m3:=cU (i:=x) (j:=2147483647) (by decide);have m4:=bo (i:=x % 2147483647) (j:=48271) (.inl (by lia));have m5:=bo (i:=k) (j:=k) (.inl (by lia));have m6:=bo (i:=(k:Int) * k) (j:=7919) (.inl (by lia));have m7:=bo (i:=x % 2147483647 * 48271 + k * k * 7919 + 11) (j:=x % 2147483647 * 48271 + k * k * 7919 + 11) (.inl (by lia));have m8:=cU (i:=(x % 2147483647 * 48271 + k * k * 7919 + 11) * (x % 2147483647 * 48271 + k * k * 7919 + 11)) (j:=2147483629) (by decide);refine dR (S1:=none) (by simp only[RX];simp;lia) (aJ (d:= .int (x % 2147483647 * 48271 + k * k * 7919 + 11)) (S1:=none) ?_ rfl ?_)
   ·simp only[RX,m2,m3,m4,m5,m6,sO hm,hx]
   ·refine(aq (d:=_) (S1:=none) (by simp only[RX,m7,m8];rfl)).trans ?_;simp[gU,h,h2,hx]
  ·have z0:decide ((0:Int) < ns.length)=false:=QF (by lia);have m7:=bo (i:=k * 7919 + 5) (j:=k * 7919 + 5) (.inl (by lia));have m8:=cU (i:=((k:Int) * 7919 + 5) * (k * 7919 + 5)) (j:=2147483629) (by decide);refine cq (S1:=none) (by simp only[RX,z0]) ((aq (d:=_) (S1:=none) (by simp only[RX,m7,m8];rfl)).trans ?_);simp[gU,h,h2]
section
variable {F:FT} {S S1 S2:Sx} {ρ ρ1:aj} {ts:Ts} {r:RS} {d:Dt} {ds:List Dt}
theorem nx {t:T} (h:ex F t ρ S= .ok (.next,ρ1,S1)) (k:aP F ts ρ1 S1=r):aP F (.cons t ts) ρ S=r:=by rw[aP,h];exact k
theorem bx {i:Nat} {c:C} (h:ev F c ρ S= .ok (d,S1)) (hs:bR c d=true) (k:aP F ts (ρ.set i (some d)) S1=r):aP F (.cons (.asg i c) ts) ρ S=r:=by refine nx ?_ k;rw[ex,h,R.ai,hs];rfl
theorem DZ {c:C} (h:ev F c ρ S= .ok (d,S1)):aP F (.cons (.ret c) ts) ρ S= .ok (.ret d,ρ,S1):=by rw[aP,ex,h];rfl
theorem B9 {t:C} {a b:Ts} {x:Bool} (h:cX F t ρ S= .ok (x,S1)) (k:aP F ((if x=true then a else b).app ts) ρ S1=r):aP F (.cons (.ifs t a b) ts) ρ S=r:=by rw[<-k,mv,aP,ex,h,R.ai];cases x <;> rfl
theorem qR {t:C} {a b:Ts} (h:cX F t ρ S= .ok (true,S1)) (k:aP F (a.app ts) ρ S1=r):aP F (.cons (.ifs t a b) ts) ρ S=r:=B9 h (by rw[if_pos rfl];exact k)
theorem kz {t:C} {a b:Ts} (h:cX F t ρ S= .ok (false,S1)) (k:aP F (b.app ts) ρ S1=r):aP F (.cons (.ifs t a b) ts) ρ S=r:=B9 h (by rw[if_neg (by simp)];exact k)
theorem mL {i:Nat} (hl:ρ[i]?=some (some (.lst ds))):isLE ρ i=true:=by unfold isLE;rw[hl]
theorem mU {i:Nat} (hl:ρ[i]?=some (some (.lst ds))):oU ρ i= .ok ds:=by unfold oU;rw[hl]
theorem C1 {i:Nat} {c:C} (hl:ρ[i]?=some (some (.lst ds))) (h:ev F c ρ S= .ok (d,S1)) (hs:bR c d=true) (hz:ds.length<=lim):ex F (.app i c) ρ S= .ok (.next,ρ.set i (some (.lst (ds++[d]))),S1):=by rw[ex,mL hl,guard_true,h,R.ai,hs,guard_true,mU hl,R.ai,QJ hz];rfl
theorem Ae {i:Nat} {k v:C} {n:Int} {j:Nat} (hl:ρ[i]?=some (some (.lst ds))) (h:ev F v ρ S= .ok (d,S1)) (h2:ev F k ρ S1= .ok (.int n,S2)) (hs:bR v d=true) (hz:mO ds.length n=some j):ex F (.yF i k v) ρ S= .ok (.next,ρ.set i (some (.lst (ds.set j d))),S2):=by rw[ex,mL hl,guard_true,h,R.ai,h2,R.ai,hs,guard_true,mU hl,R.ai];show (match mO ds.length n with | some j=>R.ok (Fl.next,ρ.set i (some (.lst (ds.set j d))),S2) | none=> .bad)=_;rw[hz]
theorem i5 {i:Nat} {c:C} (hl:ρ[i]?=some (some (.lst ds))) (h:ev F c ρ S= .ok (d,S1)) (hs:bR c d=true) (hz:ds.length<=lim) (k:aP F ts (ρ.set i (some (.lst (ds++[d])))) S1=r):aP F (.cons (.app i c) ts) ρ S=r:=nx (C1 hl h hs hz) k
theorem gA {c:C} (h:ev F c ρ S= .ok (d,S1)) (hd:itemsOf d=some ds):e9 F (.seq c) ρ S= .ok (ds,S1):=by show (ev F c ρ S).bind (λx=>match itemsOf x.1 with | some ds=>R.ok (ds,x.2) | none=> .bad)=_;rw[h,R.ai];show (match itemsOf d with | some ds=>R.ok (ds,S1) | none=> .bad)=_;rw[hd]
theorem ey {c:C} {n:Nat} (h:ev F c ρ S= .ok (.int n,S1)) (hn:n<=lim):e9 F (.rng1 c) ρ S= .ok (a9 0 n,S1):=by show (ev F c ρ S).bind (λx=>match x.1 with | .int j=>ag (decide (j<=lim)&&decide (-lim<=j)) (.ok (a9 0 j.toNat,x.2)) | _=> .bad)=_;rw[h,R.ai];show ag (decide ((n:Int)<=lim)&&decide (-lim<=(n:Int))) (R.ok (a9 0 (n:Int).toNat,S1))=_;rw[show (decide ((n:Int)<=lim)&&decide (-lim<=(n:Int)))=true by have:lim=1000000:=rfl;simp;lia];simp
theorem Dy {a b:C} {da db:Dt} {xs ys:List Dt} (ha:ev F a ρ S= .ok (da,S1)) (hb:ev F b ρ S1= .ok (db,S2)) (h1:cZ da=some xs) (h2:cZ db=some ys):e9 F (.zip a b) ρ S= .ok (iH xs ys,S2):=by show (ev F a ρ S).bind (λx=>(ev F b ρ x.2).bind λy=>match cZ x.1,cZ y.1 with | some xs,some ys=>R.ok (iH xs ys,y.2) | _,_=> .bad)=_;rw[ha,R.ai,hb,R.ai];show (match cZ da,cZ db with | some xs,some ys=>R.ok (iH xs ys,S2) | _,_=> .bad)=_;rw[h1,h2]
noncomputable def cF (F:FT) (e:C):aj->Sx->R (List Dt×Sx):=λρ1 S1=>(ev F e ρ1 S1).bind λy=>ag (bR e y.1) (.ok ([y.1],y.2))
theorem cn {cap:List (Option Nat)} {it:nN} {tg:Tg} {cs:Cs} {e:C} {out:List Dt} (h:e9 F it ρ S= .ok (ds,S1)) (hl:ds.length<=lim) (hk:(decide (uW it<=1)||iS F it ρ S)=true) (hc:bh (bB tg (cC F cs) (cF F e) (jl cap ρ)) ds S1= .ok (out,S2)):
  ev F (.comp cap it tg cs e) ρ S= .ok (.lst out,S2):=by
 rw[ev,h,R.ai,QJ hl,hk,Bool.and_true,guard_true];show (bh (bB tg (cC F cs) (cF F e) (jl cap ρ)) ds S1).bind _=_;rw[hc];rfl
theorem bY {tg:Tg} {e:C} {y:Dt} (hs:du tg d ρ= .ok ρ1) (he:ev F e ρ1 S= .ok (y,S1)) (hb:bR e y=true):bB tg (cC F .nil) (cF F e) ρ d S= .ok ([y],S1):=by unfold bB cF;rw[hs,R.ai,cC,R.ai];simp only[if_true,he,R.ai,hb,guard_true]
theorem Dw {k:Nat} (h:ds[k]?=some d):cc (.tup ds) (.int k)= .ok d/\cc (.lst ds) (.int k)= .ok d:=by
 have:uv ds k= .ok d:=by unfold uv;rw[L2.fH h]
 exact⟨this,this⟩
end
mutual
theorem Ce:∀m:Mx.D,pl (ofD m)=true
 | .int _=>by simp[ofD,pl]
 | .str _=>by simp[ofD,pl]
 | .tup ms=>by simp[ofD,pl,q9 ms]
theorem q9:∀ms:List Mx.D,pf (aa ms)=true
 | []=>by simp[aa,pf]
 | m::ms=>by simp[aa,pf,Ce m,q9 ms]
end
mutual
theorem om:∀m:Mx.D,dp (ofD m)=Mx.D.dep m
 | .int _=>by simp[ofD,dp,Mx.D.dep]
 | .str _=>by simp[ofD,dp,Mx.D.dep]
 | .tup ms=>by simp[ofD,dp,Mx.D.dep,qu ms]
theorem qu:∀ms:List Mx.D,sk (aa ms)=Mx.D.cL ms
 | []=>by simp[aa,sk,Mx.D.cL]
 | m::ms=>by simp[aa,sk,Mx.D.cL,om m,qu ms]
end
mutual
theorem bQ:∀m:Mx.D,iJ (ofD m)=true
 | .int _=>by simp[ofD,iJ]
 | .str _=>by simp[ofD,iJ]
 | .tup ms=>by simp[ofD,iJ,eD ms]
theorem eD:∀ms:List Mx.D,i0 (aa ms)=true
 | []=>by simp[aa,i0]
 | m::ms=>by simp[aa,i0,bQ m,eD ms]
end
mutual
theorem BU:∀a b:Mx.D,cg (ofD a) (ofD b)=Mx.D.gi a b
 | .int i,.int j=>by simp[ofD,cg,Mx.D.gi]
 | .str i,.str j=>by simp[ofD,cg,Mx.D.gi]
 | .tup i,.tup j=>by simp[ofD,cg,Mx.D.gi,wG i j]
 | .int _,.str _=>by simp[ofD,cg,Mx.D.gi]
 | .int _,.tup _=>by simp[ofD,cg,Mx.D.gi]
 | .str _,.int _=>by simp[ofD,cg,Mx.D.gi]
 | .str _,.tup _=>by simp[ofD,cg,Mx.D.gi]
 | .tup _,.int _=>by simp[ofD,cg,Mx.D.gi]
 | .tup _,.str _=>by simp[ofD,cg,Mx.D.gi]
theorem wG:∀a b:List Mx.D,b9 (aa a) (aa b)=Mx.D.eqs a b
 | [],[]=>by simp[aa,b9,Mx.D.eqs]
 | [],_::_=>by simp[aa,b9,Mx.D.eqs]
 | _::_,[]=>by simp[aa,b9,Mx.D.eqs]
 | a::as,b::bs=>by simp[aa,b9,Mx.D.eqs,BU a b,wG as bs]
end
theorem Ab {a b:Mx.D} (h:Mx.D.dep a<=100):de .Eq (ofD a) (ofD b)= .ok (decide (a=b)):=by show ag (k7 (ofD a) (ofD b)) (.ok (cg (ofD a) (ofD b)))=_;rw[show k7 (ofD a) (ofD b)=true by simp[k7,Ce,om,h],guard_true,BU,Mx.D.jz]
theorem aK (a b:List Mx.D):aa (a++b)=aa a++aa b:=by simp[br]
theorem ar (a:List Mx.D):(aa a).length=a.length:=by simp[br]
theorem dw {pre post:List Dt} {x:Dt} {a:List Mx.D} (h:aa a=pre++x::post):∃p y q,a=p++y::q/\pre=aa p/\x=ofD y/\post=aa q:=by rw[br] at h;obtain⟨p,r,e1,e2,e3⟩:=List.map_eq_append_iff.mp h;obtain⟨y,q,e4,e5,e6⟩:=List.map_eq_cons_iff.mp e3;exact⟨p,y,q,by rw[e1,e4],by rw[br,e2],e5.symm,by rw[br,e6]⟩
theorem iO {ms:List Mx.D} (h:iQ ms=true):ei .sorted [.lst (aa ms)]= .ok (.lst (aa (aR ms)))/\ei .sorted [.tup (aa ms)]= .ok (.lst (aa (aR ms))):=by
 constructor
 ·show (match dz (aa ms) with | some ms=>ag (iQ ms) (R.ok (Dt.lst (aa (aR ms)))) | none=> .bad)=_;rw[aQ];show ag (iQ ms) _=_;rw[h];rfl
 ·show (match dz (aa ms) with | some ms=>ag (iQ ms) (R.ok (Dt.lst (aa (aR ms)))) | none=> .bad)=_;rw[aQ];show ag (iQ ms) _=_;rw[h];rfl
theorem wt {ms:List Mx.D} (k:Mx.SK) (hl:ms.length < 1000000) (hd:Mx.D.cL ms<=100) (hk:∀d∈ms,Hl k d=true) (hp:∀d∈ms,∀e∈ms,jH d e=true):iQ ms=true:=by
 have zw:([Mx.SK.tt,.ts,.ti,.s,.i].any λk=>ms.all (Hl k))=true:=by rw[QR];exact⟨k,by cases k <;> simp,QQ.mpr hk⟩
 unfold iQ;rw[zw,QJ hl,QJ hd];simp only[Bool.true_and,QV,Qf];exact .inr (QQ.mpr λd h=>QQ.mpr λe h2=>hp d h e h2)
theorem fK {n:Nat}:∀{ms:List Mx.D},(∀d∈ms,Mx.D.dep d<=n)->Mx.D.cL ms<=n
 | [],_=>by simp[Mx.D.cL]
 | m::ms,h=>by
  have h1:=h m Qm;have h2:=fK λd hd=>h d (Qj _ hd)
  simp only[Mx.D.cL]
  lia
theorem bz (ms:List Mx.D):(aR ms).Perm ms:=List.mergeSort_perm ..
theorem cP {d:Mx.D} {ms:List Mx.D}:d∈aR ms↔d∈ms:=(bz ms).mem_iff
theorem uV (a b c:Mx.D) (h1:jG a b=true) (h2:jG b c=true):jG a c=true:=by
 unfold jG at *;simp only[Bool.not_eq_true'] at *;cases h:Mx.D.lt c a with
 | false=>rfl
 | true=>
  exfalso;cases h3:Mx.D.lt a b with
  | true=>rw[Mx.D.lt_trans c a b h h3] at h2;cases h2
  | false=>have:=Mx.D.dY a b h3 h1;subst this;rw[h] at h2;cases h2
theorem uU (a b:Mx.D):(jG a b||jG b a)=true:=by
 unfold jG;cases h:Mx.D.lt b a with
 | false=>rfl
 | true=>
  cases h2:Mx.D.lt a b with
  | false=>rfl
  | true=>have:=Mx.D.lt_trans a b a h2 h;rw[Mx.D.lt_irrefl] at this;cases this
theorem iE (ms:List Mx.D):(aR ms).Pairwise λa b=>jG a b=true:=List.pairwise_mergeSort uV uU ms
theorem kO:∀{a b:List Mx.D},a.Pairwise (λx y=>Mx.D.lt x y=true)->b.Pairwise (λx y=>Mx.D.lt x y=true)->(∀x,x∈a↔x∈b)->a=b
 | [],[],_,_,_=>rfl
 | [],y::b,_,_,h=>by have:=(h y).mpr Qm;cases this
 | x::a,[],_,_,h=>by have:=(h x).mp Qm;cases this
 | x::a,y::b,ha,hb,h=>by
  have KQ:=List.pairwise_cons.mp ha;have nF:=List.pairwise_cons.mp hb;have NS:x=y:=by
   rcases Qs.mp ((h x).mp Qm) with e | e
   ·exact e
   ·rcases Qs.mp ((h y).mpr Qm) with e2 | e2
    ·exact e2.symm
    ·have:=Mx.D.lt_trans x y x (KQ.1 y e2) (nF.1 x e);rw[Mx.D.lt_irrefl] at this;cases this
  subst NS;rw[kO KQ.2 nF.2 λz=>?_];constructor
  ·intro hz;rcases Qs.mp ((h z).mp (Qj _ hz)) with e | e
   ·subst e;have:=KQ.1 z hz;rw[Mx.D.lt_irrefl] at this;cases this
   ·exact e
  ·intro hz;rcases Qs.mp ((h z).mpr (Qj _ hz)) with e | e
   ·subst e;have:=nF.1 z hz;rw[Mx.D.lt_irrefl] at this;cases this
   ·exact e
theorem oW {a b:Mx.D} (h:jG a b=true) (n:a≠b):Mx.D.lt a b=true:=by
 unfold jG at h;cases h2:Mx.D.lt a b with
 | true=>rfl
 | false=>exact absurd (Mx.D.dY a b h2 (by simpa using h)) n
theorem pE {ms:List Mx.D} (h:ms.Nodup):(aR ms).Pairwise λa b=>Mx.D.lt a b=true:=by have h1:=iE ms;have h2:(aR ms).Nodup:=(bz ms).nodup_iff.mpr h;exact h1.imp₂ (λa b x y=>oW x y) h2
noncomputable def uq:Option Mx.D->List Mx.D->List Mx.D
 | _,[]=>[]
 | p,x::r=>if p=some x then uq (some x) r else x::uq (some x) r
theorem Ff {x:Mx.D}:∀{a:List Mx.D} {p:Option Mx.D},uq p (a++[x])=uq p a++uq (a.getLast?.or p) [x]
 | [],p=>by show uq p [x]=[]++uq ((none:Option Mx.D).or p) [x];rw[Option.none_or];rfl
 | y::a,p=>by
  have e:((y::a).getLast?.or p)=(a.getLast?.or (some y)):=by
   cases a with
   | nil=>rfl
   | cons z a=>simp[List.getLast?_cons]
  rw[e,List.cons_append,uq,uq,Ff];split <;> simp
theorem y8 {x:Mx.D}:∀{a:List Mx.D} {p:Option Mx.D},(x∈uq p a\/p=some x)↔(x∈a\/p=some x)
 | [],p=>by simp[uq]
 | y::a,p=>by
  have ih:=y8 (x:=x) (a:=a) (p:=some y);rw[uq];split
  ·rename_i h;subst h;simp only[Option.some.injEq,Qs] at *;constructor
   ·intro z;rcases ih.mp z with z | z
    ·exact .inl (.inr z)
    ·exact .inr z
   ·rintro((z | z) | z)
    ·exact .inr z.symm
    ·exact ih.mpr (.inl z)
    ·exact .inr z
  ·simp only[Qs,Option.some.injEq] at *;constructor
   ·rintro((z | z) | z)
    ·exact .inl (.inl z)
    ·rcases ih.mp (.inl z) with z | z
     ·exact .inl (.inr z)
     ·exact .inl (.inl z.symm)
    ·exact .inr z
   ·rintro((z | z) | z)
    ·exact .inl (.inl z)
    ·rcases ih.mpr (.inl z) with z | z
     ·exact .inl (.inr z)
     ·exact .inl (.inl z.symm)
    ·exact .inr z
theorem rK {x:Mx.D}:∀{a:List Mx.D} {p:Option Mx.D},x∈uq p a->x∈a
 | [],p,h=>by simp[uq] at h
 | y::a,p,h=>by
  rw[uq] at h;split at h
  ·exact Qj _ (rK h)
  ·rcases Qs.mp h with h | h
   ·rw[h];exact Qm
   ·exact Qj _ (rK h)
theorem lV:∀{a:List Mx.D} {p:Option Mx.D},a.Pairwise (λx y=>jG x y=true)->(∀x∈a,∀y,p=some y->jG y x=true)->(uq p a).Pairwise (λx y=>Mx.D.lt x y=true)/\∀x∈uq p a,∀y,p=some y->Mx.D.lt y x=true
 | [],p,_,_=>by simp[uq]
 | y::a,p,h,hp=>by
  have h':=List.pairwise_cons.mp h;obtain⟨i1,i2⟩:=lV (p:=some y) h'.2 (λx hx z e=>by cases e;exact h'.1 x hx);rw[uq];split
  ·rename_i e;subst e;exact⟨i1,i2⟩
  ·rename_i ne;have key:∀z,p=some z->Mx.D.lt z y=true:=λz e=>oW (hp y Qm z e) λe2=>ne (by rw[e,e2])
   refine⟨List.pairwise_cons.mpr ⟨λx hx=>i2 x hx y rfl,i1⟩,λx hx z e=>?_⟩;rcases Qs.mp hx with rfl | hx
   ·exact key z e
   ·exact Mx.D.lt_trans z y x (key z e) (i2 x hx y rfl)
variable {fs:List Fn}
noncomputable def vU (ic:Nat):Ts:=(.cons (.asg 3 (.bin .Add (.bin .Mult (.bin .Mod (.call ic (.cons (.var 0) (.cons (.var 1) .nil)) []) (.con (.int 2147483647))) (.bin .Add (.con (.int 48271)) (.bin .Mult (.con (.int 2)) (.var 1)))) (.bin .Mult (.con (.int 31)) (.var 1)))) (.cons (.ret (.bin .Mod (.bin .FloorDiv (.bin .Mod (.var 3) (.con (.int 2147483629))) (.con (.int 7))) (.var 2))) .nil))
noncomputable def aZ (ns:List Int) (k many:Nat):Nat:=((((gU ns k % 2147483647) * (48271 + 2 * k) + 31 * k) % 2147483629 / 7) % many).toNat
theorem cy {ns:List Int} {k many:Nat} (h:0 < many):aZ ns k many < many:=by
 unfold aZ;have h1:=QS (((gU ns k % 2147483647) * (48271 + 2 * k) + 31 * k) % 2147483629 / 7) (b:=many) (by lia);have h2:=QT (((gU ns k % 2147483647) * (48271 + 2 * k) + 31 * k) % 2147483629 / 7) (b:=many) (by lia)
 lia
structure ju (fs:List Fn) (ip:Nat):Prop where
 ex:∃ic,fs[ic]?=some ⟨2,3,false,nW⟩/\fs[ip]?=some ⟨3,4,false,vU ic⟩
theorem fT {ip:Nat} (hp:ju fs ip) {n:Nat} (hn:2<=n) {ns:List Int} {k many:Nat} (hk:k < 1000000) (hm:0 < many):az fs n ip [.bc ns,.int k,.int many] none= .ok (.int (aZ ns k many),none):=by
 obtain⟨ic,h1,h2⟩:=hp.ex;refine aF h2 (by lia) rfl ?_;show fin (aP (az fs (n - 1)) (vU ic) [some (.bc ns),some (.int k),some (.int many),none] none)=_;have hc:=rZ h1 (n:=n - 1) (by lia) (ns:=ns) hk;generalize hx:gU ns k=x at hc;have r1:=QS x (b:=2147483647) (by decide);have r2:=QT x (b:=2147483647) (by decide);have m1:=cU (i:=x) (j:=2147483647) (by decide);have m2:=bo (i:=2) (j:=k) (.inl (by decide));have m3:=bo (i:=x % 2147483647) (j:=48271 + 2 * k) (.inl (by lia));have m4:=bo (i:=31) (j:=k) (.inl (by decide));have m5:=cU (i:=x % 2147483647 * (48271 + 2 * k) + 31 * k) (j:=2147483629) (by decide);have m6:=qW (i:=(x % 2147483647 * (48271 + 2 * k) + 31 * k) % 2147483629) (j:=7) (by decide) (by decide);have m7:=cU (i:=(x % 2147483647 * (48271 + 2 * k) + 31 * k) % 2147483629 / 7) (j:=many) (by lia);refine aJ (d:= .int (x % 2147483647 * (48271 + 2 * k) + 31 * k)) (S1:=none) (by simp only[RX,hc,m1,m2,m3,m4]) rfl ?_;refine(aq (d:=_) (S1:=none) (by simp only[RX,m5,m6,m7];rfl)).trans ?_;have h1:=QS (((x % 2147483647) * (48271 + 2 * k) + 31 * k) % 2147483629 / 7) (b:=many) (by lia);have e:((aZ ns k many:Nat):Int)=((x % 2147483647) * (48271 + 2 * k) + 31 * k) % 2147483629 / 7 % many:=by unfold aZ;rw[hx];omega
 rw[e]
noncomputable def rT:Ts:=(.cons (.ret (.bin .Mod (.bin .Add (.bin .Add (.bin .Mult (.var 0) (.con (.int 31))) (.bin .Mult (.var 1) (.con (.int 7)))) (.con (.int 13))) (.con (.int 9973)))) .nil)
noncomputable def ir (k j:Nat):Nat:=(k * 31 + j * 7 + 13) % 9973
theorem kr {k j:Nat}:ir k j < 9973:=Nat.mod_lt _ (by decide)
theorem mW {i:Nat} (hp:fs[i]?=some ⟨2,2,false,rT⟩) {n:Nat} (hn:1<=n) {k j:Nat}:az fs n i [.int k,.int j] none= .ok (.int (ir k j),none):=by
 refine aF hp hn rfl ?_;show fin (aP (az fs (n - 1)) rT [some (.int k),some (.int j)] none)=_;have m1:=bo (i:=k) (j:=31) (.inr (by decide));have m2:=bo (i:=j) (j:=7) (.inr (by decide));have m3:=cU (i:=(k:Int) * 31 + j * 7 + 13) (j:=9973) (by decide);refine(aq (d:=_) (S1:=none) (by simp only[RX,m1,m2,m3];rfl)).trans ?_;have e:((ir k j:Nat):Int)=((k:Int) * 31 + j * 7 + 13) % 9973:=by unfold ir;lia
 rw[e]
theorem mK {z:Str} {k:Nat} (hz:z.length<=lim) (h:k < z.length):∃c,cc (.str z) (.int k)= .ok (.str ⟨#[c]⟩):=by
 have Ng:z.cps.toList.length=z.length:=by simp[Str.length]
 refine⟨z.cps.toList[k],?_⟩;show ag (decide (z.length<=lim)) (match jU z.cps.toList k with | some c=>R.ok (Dt.str ⟨#[c]⟩) | none=> .bad)=_;rw[QJ hz,guard_true,L2.fH (v:=z.cps.toList[k]) (QE _)]
theorem eG {a b:Str} (h:a.length + b.length<=lim):p8 .Add (.str a) (.str b)= .ok (.str (a++b)):=by show ag (decide (a.length + b.length<=lim)) _=_;rw[QJ h];rfl
theorem len_str {z:Str} (h:z.length<=lim):ei .len [.str z]= .ok (.int z.length):=by show ag (decide (z.length<=lim)) _=_;rw[QJ h];rfl
theorem nk {z:Str} {lo hi:Option Int} (h:z.length<=lim):i8 (.str z) lo hi= .ok (.str (PySem.Txt.slice z lo hi)):=by show ag (decide (z.length<=lim)) _=_;rw[QJ h];rfl
theorem len_cat (a b:Str):(a++b).length=a.length + b.length:=Str.length_append ..
theorem xF {z:Str} {k:Nat} {d} (hz:z.length<=lim) (h:k < z.length):cc (.str z) (.int k)= .ok (.str ⟨#[z.cps.toList.getD k d]⟩):=by
 have Ng:k < z.cps.toList.length:=by simpa [Str.length] using h
 show ag (decide (z.length<=lim)) (match jU z.cps.toList k with | some c=>R.ok (Dt.str ⟨#[c]⟩) | none=> .bad)=_;rw[QJ hz,guard_true,L2.fH (v:=z.cps.toList[k]) (QE _)];rw[List.getD,QE Ng];rfl
theorem rz {a b:Str} {x y} (h:a++⟨#[x]⟩++b=a++⟨#[y]⟩++b):x=y:=by
 have h2:=congrArg (λz:Str=>z.cps.toList) h;have e:∀u v:Str,(u++v).cps.toList=u.cps.toList++v.cps.toList:=λu v=>by show (u.cps++v.cps).toList=_;simp
 simp only[e,Qu] at h2;simpa using List.append_cancel_left h2
theorem gD {α:Type} {l:List α} {d:α} (hn:l.Nodup) {i j:Nat} (hi:i < l.length) (hj:j < l.length) (h:l.getD i d=l.getD j d):i=j:=by
 simp only[List.getD,QE hi,QE hj,Option.getD_some] at h;have hp:=List.pairwise_iff_getElem.mp hn;rcases Nat.lt_trichotomy i j with z | z | z
 ·exact absurd h (hp i j hi hj z)
 ·exact z
 ·exact absurd h.symm (hp j i hj hi z)
noncomputable def rR:Ts:=(.cons (.asg 8 (.idx (.var 2) (.bin .Mod (.bin .Add (.var 6) (.bin .Mult (.con (.int 7)) (.var 4))) (.con (.int 26))))) (.cons (.app 7 (.bin .Add (.bin .Add (.sliH (.var 3) (.var 5)) (.var 8)) (.sliL (.var 3) (.var 5)))) .nil))
noncomputable def qh (ip:Nat):Ts:=(.cons (.asg 3 (.con (.str ""))) (.cons (.fr (.nm 4) (.rng1 (.call ip (.cons (.var 0) (.cons (.var 1) (.cons (.con (.int 6)) .nil))) [])) (.cons (.asg 3 (.bin .Add (.var 3) (.idx (.var 2) (.call ip (.cons (.var 0) (.cons (.bin .Add (.bin .Add (.var 1) (.bin .Mult (.con (.int 11)) (.var 4))) (.con (.int 1))) (.cons (.con (.int 26)) .nil))) [])))) .nil)) (.cons (.asg 5 (.call ip (.cons (.var 0) (.cons (.bin .Add (.var 1) (.con (.int 2))) (.cons (.bin .Add (.bi .len (.cons (.var 3) .nil)) (.con (.int 1))) .nil))) [])) (.cons (.asg 6 (.call ip (.cons (.var 0) (.cons (.bin .Add (.var 1) (.con (.int 3))) (.cons (.con (.int 26)) .nil))) [])) (.cons (.ifs (.cmp .Eq (.call ip (.cons (.var 0) (.cons (.bin .Add (.var 1) (.con (.int 4))) (.cons (.con (.int 3)) .nil))) []) (.con (.int 0))) (.cons (.asg 3 (.bin .Add (.sliH (.var 3) (.con (.int 3))) (.idx (.var 2) (.var 6)))) (.cons (.ret (.lst (.cons (.var 3) (.cons (.bin .Add (.var 3) (.idx (.var 2) (.var 5))) (.cons (.bin .Add (.bin .Add (.var 3) (.idx (.var 2) (.var 5))) (.idx (.var 2) (.var 6))) .nil))))) .nil)) .nil) (.cons (.asgM 7 (.lst .nil)) (.cons (.fr (.nm 4) (.rng1 (.con (.int 3))) rR) (.cons (.ret (.mvr 7)) .nil))))))))
theorem d5 {n:Nat} {pre post:List Dt} {x:Dt} (h:a9 0 n=pre++x::post):pre.length < n/\x= .int pre.length:=by
 have hl:(a9 0 n).length=n:=by simp[a9]
 have h1:pre.length < n:=by rw[<-hl,h];simp
 refine⟨h1,?_⟩;have e:(a9 0 n)[pre.length]?=some x:=by rw[h];simp
 unfold a9 at e;simp[h1] at e;exact e.symm
theorem o4 {ip im:Nat} (hp:ju fs ip) (hf:fs[im]?=some ⟨3,9,false,qh ip⟩) {n:Nat} (hn:3<=n) {ns:List Int} {k:Nat} {L:Str} (hk:k < 100000) (hL:L.length=26) (hD:L.cps.toList.Nodup):∃a b c,az fs n im [.bc ns,.int k,.str L] none= .ok (.lst [.str a,.str b,.str c],none)/\a≠b/\b≠c/\a≠c:=by
 have iV:lim=1000000:=rfl;have gZ:=cy (ns:=ns) (k:=k) (many:=6) (by decide);have P:=λ(k many:Nat) (h1:k < 1000000) (h2:0 < many)=>fT hp (n:=n - 1) (by lia) (ns:=ns) h1 h2
 have loop:=bU (S:=none) (tg:= .nm 4) (body:=aP (az fs (n - 1)) (.cons (.asg 3 (.bin .Add (.var 3) (.idx (.var 2) (.call ip (.cons (.var 0) (.cons (.bin .Add (.bin .Add (.var 1) (.bin .Mult (.con (.int 11)) (.var 4))) (.con (.int 1))) (.cons (.con (.int 26)) .nil))) [])))) .nil)) (ds:=a9 0 (aZ ns k 6))
  (ρ:=[some (.bc ns),some (.int k),some (.str L),some (.str ""),none,none,none,none,none])
  (λpre ρ=>∃w jv,w.length<=pre.length/\ρ=[some (.bc ns),some (.int k),some (.str L),some (.str w),jv,none,none,none,none]) ⟨"",none,Ql _,rfl⟩ (by
   rintro pre x post ρ e ⟨w,jv,hw,rfl⟩;obtain⟨h1,rfl⟩:=d5 e;have Na:=P (k + 11 * pre.length + 1) 26 (by lia) (by decide);have cH:=cy (ns:=ns) (k:=k + 11 * pre.length + 1) (many:=26) (by decide);obtain⟨c,hc⟩:=mK (z:=L) (k:=aZ ns (k + 11 * pre.length + 1) 26) (by lia) (by lia);have m1:=bo (i:=11) (j:=pre.length) (.inl (by decide));have ca:=eG (a:=w) (b:=⟨#[c]⟩) (by show w.length + 1<=lim;lia);refine⟨_,_,rfl,bx (d:= .str (w++⟨#[c]⟩)) (S1:=none) ?_ rfl rfl,w++⟨#[c]⟩,_,?_,rfl⟩
   ·rw[show ((k + 11 * pre.length + 1:Nat):Int)=(k:Int) + 11 * pre.length + 1 by lia] at Na;simp only[RX,m1];rw[show ([Dt.bc ns,.int ((k:Int) + 11 * pre.length + 1),.int 26]:List Dt)=[.bc ns,.int ((k:Int) + 11 * pre.length + 1),.int (26:Nat)] from rfl,Na];simp only[RX,hc,ca]
   ·rw[len_cat,Qw];show w.length + 1<=_;simp;lia)
 obtain⟨ρ1,bM,w,jv,hw,rfl⟩:=loop;have JD:w.length<=5:=by
  have:(a9 0 (aZ ns k 6)).length=aZ ns k 6:=by simp[a9]
  lia
 have p2:=P (k + 2) (w.length + 1) (by lia) (by lia);have l2:=cy (ns:=ns) (k:=k + 2) (many:=w.length + 1) (by lia);have p3:=P (k + 3) 26 (by lia) (by decide);have l3:=cy (ns:=ns) (k:=k + 3) (many:=26) (by decide);have p4:=P (k + 4) 3 (by lia) (by decide);generalize aZ ns (k + 2) (w.length + 1)=at' at p2 l2;generalize aZ ns (k + 3) 26=fi at p3 l3;generalize aZ ns (k + 4) 3=q4 at p4;have hlen:=len_str (z:=w) (by lia);obtain⟨cf,MZ⟩:=mK (z:=L) (k:=fi) (by lia) (by lia);obtain⟨ca,MY⟩:=mK (z:=L) (k:=at') (by lia) (by lia);have s3:=nk (z:=w) (lo:=none) (hi:=some 3) (by lia);have e3:=PySem.Txt.slice_le w none (some 3);generalize PySem.Txt.slice w none (some 3)=w3 at s3 e3;have PX:((26:Nat):Int)=26:=rfl;have head:∃a b c,fin (aP (az fs (n - 1)) (qh ip) [some (.bc ns),some (.int k),some (.str L),none,none,none,none,none,none] none)= .ok (.lst [.str a,.str b,.str c],none)/\a≠b/\b≠c/\a≠c:=by
  by_cases h4:q4=0
  ·subst h4;have c1:=eG (a:=w3) (b:=⟨#[cf]⟩) (by show w3.length + 1<=lim;lia);have c2:=eG (a:=w3++⟨#[cf]⟩) (b:=⟨#[ca]⟩) (by rw[len_cat];show w3.length + 1 + 1<=lim;lia);have c3:=eG (a:=w3++⟨#[cf]⟩++⟨#[ca]⟩) (b:=⟨#[cf]⟩) (by rw[len_cat,len_cat];show w3.length + 1 + 1 + 1<=lim;lia);refine⟨w3++⟨#[cf]⟩,w3++⟨#[cf]⟩++⟨#[ca]⟩,w3++⟨#[cf]⟩++⟨#[ca]⟩++⟨#[cf]⟩,?_,λz=>?_,λz=>?_,λz=>?_⟩
   rotate_left
   ·have:=congrArg Str.length z;simp only[len_cat] at this;have:(⟨#[ca]⟩:Str).length=1:=rfl;lia
   ·have:=congrArg Str.length z;simp only[len_cat] at this;have:(⟨#[cf]⟩:Str).length=1:=rfl;lia
   ·have:=congrArg Str.length z;simp only[len_cat] at this;have:(⟨#[cf]⟩:Str).length=1:=rfl;lia
   refine aJ (d:= .str "") (S1:=none) rfl rfl (bF (ds:=a9 0 (aZ ns k 6)) (S1:=none) (ey (by simp only[RX];exact congrArg (R.bind · _) (P k 6 (by lia) (by decide))) (by lia)) rfl bM ?_);refine aJ (d:= .int at') (S1:=none) (by simp only[RX,hlen];exact congrArg (R.bind · _) p2) rfl ?_;refine aJ (d:= .int fi) (S1:=none) (by simp only[RX];exact congrArg (R.bind · _) p3) rfl ?_;refine dR (S1:=none) (by simp only[RX];rw[show az fs (n - 1) ip [.bc ns,.int ((k:Int) + 4),.int 3] none=_ from p4];rfl) ?_;refine aJ (d:= .str (w3++⟨#[cf]⟩)) (S1:=none) (by simp only[RX,s3,MZ,c1]) rfl ?_;exact aq (by simp only[RX,MY,MZ,c2,c3])
  ·have l4:=λj:Nat=>Nat.mod_lt (fi + 7 * j) (y:=26) (by decide)
   have s5:=nk (z:=w) (lo:=none) (hi:=some (at':Int)) (by lia);have e5:=PySem.Txt.slice_le w none (some (at':Int));have s6:=nk (z:=w) (lo:=some (at':Int)) (hi:=none) (by lia);have e6:=PySem.Txt.slice_le w (some (at':Int)) none;generalize PySem.Txt.slice w none (some (at':Int))=wa at s5 e5;generalize PySem.Txt.slice w (some (at':Int)) none=wb at s6 e6;have hl:L.cps.toList.length=26:=by rw[<-hL];simp[Str.length]
   have Ht:=bU (S:=none) (tg:= .nm 4) (body:=aP (az fs (n - 1)) rR) (ds:=a9 0 3)
    (ρ:=[some (.bc ns),some (.int k),some (.str L),some (.str w),jv,some (.int at'),some (.int fi),some (.lst []),none])
    (λpre ρ=>∃jv s8,ρ=[some (.bc ns),some (.int k),some (.str L),some (.str w),jv,some (.int at'),some (.int fi),some (.lst ((List.range pre.length).map λj=>Dt.str (wa++⟨#[L.cps.toList.getD ((fi + 7 * j) % 26) cf]⟩++wb))),s8]) ⟨jv,none,rfl⟩ (by
     rintro pre x post ρ e ⟨jv,s8,rfl⟩;obtain⟨h1,rfl⟩:=d5 e;have hc:=xF (z:=L) (k:=(fi + 7 * pre.length) % 26) (d:=cf) (by lia) (by have:=l4 pre.length;lia);rw[show (((fi + 7 * pre.length) % 26:Nat):Int)=((fi:Int) + 7 * pre.length) % 26 by lia] at hc;generalize hcc:L.cps.toList.getD ((fi + 7 * pre.length) % 26) cf=c at hc;have m1:=bo (i:=7) (j:=pre.length) (.inl (by decide));have m2:=cU (i:=(fi:Int) + 7 * pre.length) (j:=26) (by decide);have c1:=eG (a:=wa) (b:=⟨#[c]⟩) (by show wa.length + 1<=lim;lia);have c2:=eG (a:=wa++⟨#[c]⟩) (b:=wb) (by rw[len_cat];show wa.length + 1 + wb.length<=lim;lia);refine⟨_,_,rfl,bx (d:= .str ⟨#[c]⟩) (S1:=none) (by simp only[RX,m1,m2,hc]) rfl (i5 (ds:=(List.range pre.length).map λj=>Dt.str (wa++⟨#[L.cps.toList.getD ((fi + 7 * j) % 26) cf]⟩++wb)) (d:= .str (wa++⟨#[c]⟩++wb)) (S1:=none) rfl (by simp only[RX,s5,s6,c1,c2]) rfl (by simp;lia) rfl),some (.int pre.length),some (.str ⟨#[c]⟩),?_⟩;rw[Qw,List.length_singleton,List.range_succ,QZ,List.map_singleton,hcc];rfl)
   obtain⟨ρ2,Di,P6,s8,rfl⟩:=Ht;refine⟨wa++⟨#[L.cps.toList.getD ((fi + 7 * 0) % 26) cf]⟩++wb,wa++⟨#[L.cps.toList.getD ((fi + 7 * 1) % 26) cf]⟩++wb,wa++⟨#[L.cps.toList.getD ((fi + 7 * 2) % 26) cf]⟩++wb,?_,λz=>?_,λz=>?_,λz=>?_⟩
   rotate_left
   ·have:=gD hD (by rw[hl];exact l4 0) (by rw[hl];exact l4 1) (rz z);lia
   ·have:=gD hD (by rw[hl];exact l4 1) (by rw[hl];exact l4 2) (rz z);lia
   ·have:=gD hD (by rw[hl];exact l4 0) (by rw[hl];exact l4 2) (rz z);lia
   refine aJ (d:= .str "") (S1:=none) rfl rfl (bF (ds:=a9 0 (aZ ns k 6)) (S1:=none) (ey (by simp only[RX];exact congrArg (R.bind · _) (P k 6 (by lia) (by decide))) (by lia)) rfl bM ?_);refine aJ (d:= .int at') (S1:=none) (by simp only[RX,hlen];exact congrArg (R.bind · _) p2) rfl ?_;refine aJ (d:= .int fi) (S1:=none) (by simp only[RX];exact congrArg (R.bind · _) p3) rfl ?_;refine cq (S1:=none) (by simp only[RX];rw[show az fs (n - 1) ip [.bc ns,.int ((k:Int) + 4),.int 3] none=_ from p4];simp only[RX];simp[h4]) ?_;refine dS (d:= .lst []) (S1:=none) rfl rfl (bF (ds:=a9 0 3) (S1:=none) (ey (n:=3) rfl (by decide)) rfl Di ?_);exact aq (by simp only[RX];rfl)
 obtain⟨a,b,c,h1,h2⟩:=head;exact⟨a,b,c,aF hf (by lia) rfl h1,h2⟩
variable {fs:List Fn}
mutual
noncomputable def sm:Dt->Bool
 | .int _=>true
 | .str _=>true
 | .tup ds=>Bx ds
 | .lst ds=>Bx ds
 | _=>false
noncomputable def Bx:List Dt->Bool
 | []=>true
 | d::ds=>sm d&&Bx ds
end
mutual
theorem tZ:∀m:Mx.D,sm (ofD m)=true
 | .int _=>by simp[ofD,sm]
 | .str _=>by simp[ofD,sm]
 | .tup ms=>by simp[ofD,sm,yI ms]
theorem yI:∀ms:List Mx.D,Bx (aa ms)=true
 | []=>by simp[aa,Bx]
 | m::ms=>by simp[aa,Bx,tZ m,yI ms]
end
theorem t7:∀{ds:List Dt} {d:Dt},Bx ds=true->d∈ds->sm d=true/\dp d<=sk ds
 | d::ds,x,h,hx=>by
  simp only[Bx,Qf] at h;simp only[sk];rcases Qs.mp hx with rfl | hx
  ·exact⟨h.1,by lia⟩
  ·have:=t7 h.2 hx;exact⟨this.1,by lia⟩
noncomputable def nZ (is:Nat):Ts:=(.cons (.ifs (.bi (.isi "str") (.cons (.var 1) .nil)) (.cons (.ret (.and (.bi (.isi "str") (.cons (.var 0) .nil)) (.cmp .Eq (.var 0) (.var 1)))) .nil) .nil) (.cons (.ifs (.bi (.isi "int") (.cons (.var 1) .nil)) (.cons (.ret (.and (.bi (.isi "int") (.cons (.var 0) .nil)) (.and (.nt (.bi (.isi "bool") (.cons (.var 0) .nil))) (.cmp .Eq (.var 0) (.var 1))))) .nil) .nil) (.cons (.ifs (.or (.cmp .NotEq (.bi (.isi "list") (.cons (.var 1) .nil)) (.bi (.isi "list") (.cons (.var 0) .nil))) (.cmp .NotEq (.bi (.isi "tuple") (.cons (.var 1) .nil)) (.bi (.isi "tuple") (.cons (.var 0) .nil)))) (.cons (.ret (.con (.bl false))) .nil) .nil) (.cons (.ifs (.cmp .NotEq (.bi .len (.cons (.var 0) .nil)) (.bi .len (.cons (.var 1) .nil))) (.cons (.ret (.con (.bl false))) .nil) .nil) (.cons (.fr (.tp [2,3]) (.zip (.var 0) (.var 1)) (.cons (.ifs (.nt (.call is (.cons (.var 2) (.cons (.var 3) .nil)) [])) (.cons (.ret (.con (.bl false))) .nil) .nil) .nil)) (.cons (.ret (.con (.bl true))) .nil))))))
theorem vx {ds pre post:List Dt} {x:Dt} (h:iH ds ds=pre++x::post):∃y∈ds,x= .tup [y,y]:=by
 have hx:x∈iH ds ds:=by rw[h];simp
 unfold iH at hx;have:List.zipWith (λx y=>Dt.tup [x,y]) ds ds=ds.map λy=>Dt.tup [y,y]:=by
  clear h hx
  induction ds with
  | nil=>rfl
  | cons d ds ih=>simp[ih]
 rw[this,QP] at hx;obtain⟨y,h1,h2⟩:=hx;exact⟨y,h1,h2.symm⟩
theorem iC {is:Nat} (hf:fs[is]?=some ⟨2,4,false,nZ is⟩):∀(n:Nat) (d:Dt),sm d=true->dp d < n->az fs n is [d,d] none= .ok (.bl true,none)
 | 0,d,_,h=>by lia
 | n + 1,d,h,hd=>by
  have ih:=iC hf n;have main:∀ds:List Dt,Bx ds=true->sk ds < n->(d= .tup ds\/d= .lst ds)->az fs (n + 1) is [d,d] none= .ok (.bl true,none):=by
   intro ds hs hl hd;have hlen:ei .len [d]= .ok (.int ds.length):=by rcases hd with rfl | rfl <;> rfl
   have JC:cZ d=some ds:=by rcases hd with rfl | rfl <;> rfl
   have i1:ei (.isi "str") [d]= .ok (.bl false):=by rcases hd with rfl | rfl <;> rfl
   have i2:ei (.isi "int") [d]= .ok (.bl false):=by rcases hd with rfl | rfl <;> rfl
   have i3:(∃b,ei (.isi "list") [d]= .ok (.bl b))/\∃b,ei (.isi "tuple") [d]= .ok (.bl b):=by rcases hd with rfl | rfl <;> exact⟨⟨_,rfl⟩,⟨_,rfl⟩⟩
   obtain⟨⟨b3,i3⟩,⟨b4,i4⟩⟩:=i3;have e3:∀b:Bool,de .NotEq (.bl b) (.bl b)= .ok false:=λb=>by cases b <;> rfl
   have loop:=bU (S:=none) (tg:= .tp [2,3]) (body:=aP (az fs n) (.cons (.ifs (.nt (.call is (.cons (.var 2) (.cons (.var 3) .nil)) [])) (.cons (.ret (.con (.bl false))) .nil) .nil) .nil)) (ds:=iH ds ds)
    (ρ:=[some d,some d,none,none]) (λpre ρ=>∃a b,ρ=[some d,some d,a,b]) ⟨none,none,rfl⟩ (by
     rintro pre x post ρ e ⟨a,b,rfl⟩;obtain⟨y,hy,rfl⟩:=vx e;have:=t7 hs hy;have hc:=ih y this.1 (by lia);exact⟨[some d,some d,some y,some y],_,rfl,kz (S1:=none) (by simp only[RX,hc];rfl) rfl,some y,some y,rfl⟩)
   obtain⟨ρ1,bM,a,b,rfl⟩:=loop;refine aF hf (by lia) rfl ?_;show fin (aP (az fs n) (nZ is) [some d,some d,none,none] none)=_;refine cq (S1:=none) (by simp only[RX,i1]) (cq (S1:=none) (by simp only[RX,i2]) (cq (S1:=none) (by simp only[RX,i3,i4,e3];rfl) (cq (S1:=none) (by simp only[RX,hlen];simp) ?_)));refine bF (ds:=iH ds ds) (S1:=none) (Dy (S1:=none) (S2:=none) rfl rfl JC JC) rfl bM (aq rfl)
  cases d with
  | str x=>refine aF hf (by lia) rfl ?_;show fin (aP (az fs n) (nZ is) [some (.str x),some (.str x),none,none] none)=_;have i1:ei (.isi "str") [.str x]= .ok (.bl true):=rfl;exact dR (S1:=none) (by simp only[RX,i1]) (aq (by simp only[RX,i1];simp))
  | int x=>refine aF hf (by lia) rfl ?_;show fin (aP (az fs n) (nZ is) [some (.int x),some (.int x),none,none] none)=_;have i1:ei (.isi "str") [.int x]= .ok (.bl false):=rfl;have i2:ei (.isi "int") [.int x]= .ok (.bl true):=rfl;have i3:ei (.isi "bool") [.int x]= .ok (.bl false):=rfl;exact cq (S1:=none) (by simp only[RX,i1]) (dR (S1:=none) (by simp only[RX,i2]) (aq (by simp only[RX,i2,i3,Bool.not_false];simp)))
  | tup ds=>exact main ds (by simpa [sm] using h) (by simp only[dp] at hd;lia) (.inl rfl)
  | lst ds=>exact main ds (by simpa [sm] using h) (by simp only[dp] at hd;lia) (.inr rfl)
  | _=>simp[sm] at h
noncomputable def c8 (x:Str):Mx.D:= .tup [.str "any",.str x]
noncomputable def ofT (x:Str) (ps:List Mx.D):Mx.D:= .tup [.str "of",.str x,.tup ps]
theorem qO:∀{xs ys:List Mx.D},(∀x∈xs,∀y∈ys,jH x y=true)->ib xs ys=true
 | [],_,_=>by simp[ib]
 | _::_,[],_=>by simp[ib]
 | x::xs,y::ys,h=>by simp only[ib,Qf];exact⟨h x Qm y Qm,qO λa ha b hb=>h a (Qj _ ha) b (Qj _ hb)⟩
theorem ka {ds:List Dt} {d:Dt}:cc (.lst (ds++[d])) (.int (-1))= .ok d:=by show uv (ds++[d]) (-1)=_;unfold uv;rw[Mx.nU]
theorem AI {n:Nat}:mO (n + 1) (-1)=some n:=by
 unfold mO;rw[if_neg (by decide),if_pos (by lia)];congr 1
 lia
theorem ne_nil {ds:List Dt} {d:Dt} (h1:pf (ds++[d])=true) (h2:sk (ds++[d]) < 100):de .NotEq (.lst (ds++[d])) (.lst [])= .ok true:=by show ag (k7 (.lst (ds++[d])) (.lst [])) (.ok (!cg (.lst (ds++[d])) (.lst [])))=_;rw[show k7 (.lst (ds++[d])) (.lst [])=true by simp[k7,pl,pf,dp,h1];lia,guard_true];cases ds <;> simp[cg,b9]
theorem xO {α:Type}:∀l:List α,l=[]\/∃a x,l=a++[x]
 | []=> .inl rfl
 | x::l=> .inr ⟨(x::l).dropLast,(x::l).getLast (by simp),(List.dropLast_concat_getLast (by simp)).symm⟩
theorem Bv {α:Type} (a:List α) (x y:α) {n:Nat} (h:n=a.length):(a++[x]).set n y=a++[y]:=by subst h;simp
variable {fs:List Fn}
theorem fO {F:FT} {c:C} {ρ:aj} {S S1:Sx} {d:Dt} {b:Bool} (h:ev F c ρ S= .ok (d,S1)) (hd:iJ d=true):(b||iS F (.seq c) ρ S)=true:=by
 have:iS F (.seq c) ρ S=true:=by unfold iS;rw[h];exact hd
 rw[this,Bool.or_true]
theorem og {f:Dt->Sx->R (List Dt×Sx)} {S:Sx} (Q:Mx.D->Prop):∀{ds:List Dt},(∀x∈ds,∃m,f x S= .ok ([ofD m],S)/\Q m)->∃ms,bh f ds S= .ok (aa ms,S)/\ms.length=ds.length/\∀m∈ms,Q m
 | [],_=>⟨[],by simp[bh,aa],rfl,by simp⟩
 | x::ds,h=>by
  obtain⟨m,h1,h2⟩:=h x Qm;obtain⟨ms,k1,k2,k3⟩:=og Q λy hy=>h y (Qj _ hy)
  refine⟨m::ms,?_,by simp[k2],λa ha=>?_⟩
  ·rw[bh,h1,R.ai,k1,R.ai];simp[aa]
  ·rcases Qs.mp ha with rfl | ha
   ·exact h2
   ·exact k3 a ha
theorem Br {n:Nat} {x:Dt} (h:x∈a9 0 n):∃i:Nat,i < n/\x= .int i:=by unfold a9 at h;rw[QP] at h;obtain⟨i,h1,rfl⟩:=h;exact⟨i,Q1.mp h1,by simp⟩
noncomputable def vT (ip:Nat):Ts:=(.cons (.app 6 (.tup (.cons (.var 11) (.cons (.bin .Add (.con (.int 1)) (.bin .FloorDiv (.call ip (.cons (.var 0) (.cons (.bin .Add (.var 8) (.con (.int 3))) (.cons (.con (.int 4)) .nil))) []) (.con (.int 3)))) .nil)))) .nil)
noncomputable def vS (ix im:Nat):C:=(.call im (.cons (.var 5) (.cons (.call ix (.cons (.var 2) (.cons (.bin .Add (.con (.int 5)) (.var 1)) .nil)) []) (.cons (.bin .Sub (.var 3) (.con (.int 1))) (.cons (.var 4) (.cons (.var 6) (.cons (.con (.int 2)) .nil)))))) [])
noncomputable def BO (ip ix im:Nat):Ts:=(.cons (.ifs (.and (.cmp .Lt (.var 9) (.con (.int 2))) (.cmp .Gt (.bi .len (.cons (.var 3) .nil)) (.con (.int 0)))) (.cons (.asg 11 (.tup (.cons (.con (.str "any")) (.cons (.idx (.var 3) (.call ip (.cons (.var 0) (.cons (.bin .Add (.var 8) (.con (.int 1))) (.cons (.bi .len (.cons (.var 3) .nil)) .nil))) [])) .nil)))) .nil) (.cons (.ifs (.and (.cmp .Eq (.var 9) (.con (.int 3))) (.cmp .Gt (.var 2) (.con (.int 0)))) (.cons (.asg 12 (.bin .Add (.con (.int 1)) (.call ip (.cons (.var 0) (.cons (.bin .Add (.var 8) (.con (.int 2))) (.cons (.con (.int 3)) .nil))) []))) (.cons (.asg 13 (.comp [none,none,some 8,some 2,some 3,some 0,some 4] (.rng1 (.var 12)) (.nm 1) .nil (vS ix im))) (.cons (.asg 11 (.tup (.cons (.con (.str "of")) (.cons (.var 10) (.cons (.bi .tuple (.cons (.var 13) .nil)) .nil))))) .nil))) .nil) .nil)) (vT ip))
noncomputable def BN (ip ix im:Nat):Ts:=(.cons (.asg 8 (.call ix (.cons (.var 1) (.cons (.var 7) .nil)) [])) (.cons (.asg 9 (.call ip (.cons (.var 0) (.cons (.var 8) (.cons (.con (.int 4)) .nil))) [])) (.cons (.asg 10 (.idx (.var 4) (.call ip (.cons (.var 0) (.cons (.bin .Add (.var 8) (.con (.int 1))) (.cons (.con (.int 3)) .nil))) []))) (.cons (.asg 11 (.tup (.cons (.con (.str "of")) (.cons (.var 10) (.cons (.tup .nil) .nil))))) (BO ip ix im)))))
noncomputable def CJ (ip ix ig im:Nat):Ts:=(.cons (.asgM 6 (.lst .nil)) (.cons (.fr (.nm 7) (.rng1 (.call ip (.cons (.var 0) (.cons (.var 1) (.cons (.bin .Add (.var 5) (.con (.int 1))) .nil))) [])) (BN ip ix im)) (.cons (.ret (.bi .tuple (.cons (.comp [none,none,none] (.seq (.call ig (.cons (.mvr 6) .nil) [])) (.tp [1,2]) .nil (.tup (.cons (.var 1) (.cons (.bi .min2 (.cons (.con (.int 3)) (.cons (.var 2) .nil))) .nil)))) .nil))) .nil)))
theorem pK {a b c:Str} {k:Nat} (h:k < 3):∃x,cc (.lst [.str a,.str b,.str c]) (.int k)= .ok (.str x):=by
 match k,h with
 | 0,_=>exact⟨a,rfl⟩
 | 1,_=>exact⟨b,rfl⟩
 | 2,_=>exact⟨c,rfl⟩
variable {fs:List Fn}
noncomputable def rQ (ic:Nat):Ts:=(.cons (.app 3 (.tup (.cons (.idx (.idx (.var 2) (.var 4)) (.con (.int 0))) (.cons (.bin .Mult (.idx (.idx (.var 2) (.var 4)) (.con (.int 1))) (.bin .Add (.con (.int 1)) (.bin .Mod (.call ic (.cons (.var 0) (.cons (.bin .Add (.var 1) (.var 4)) .nil)) []) (.bin .Pow (.con (.int 10)) (.con (.int 8)))))) .nil)))) .nil)
noncomputable def qg (ic:Nat):Ts:=(.cons (.asgM 3 (.lst .nil)) (.cons (.fr (.nm 4) (.rng1 (.bi .len (.cons (.var 2) .nil))) (rQ ic)) (.cons (.ret (.bi .tuple (.cons (.mvr 3) .nil))) .nil)))
noncomputable def aA:Mx.D->List Mx.D
 | .tup [_,_,.tup ps]=>ps
 | _=>[]
theorem oz {α β:Type} {f:α->List β} {k:Nat}:∀{l:List α},(∀x∈l,(f x).length<=k)->(l.flatMap f).length<=l.length * k
 | [],_=>by simp
 | x::l,h=>by
  have h1:=h x Qm;have h2:=oz λy hy=>h y (Qj _ hy)
  rw[List.flatMap_cons,Qw,Qy,Nat.succ_mul]
  lia
noncomputable def iN:Ts:=(.cons (.ifs (.cmp .Eq (.idx (.var 0) (.con (.int 0))) (.con (.str "of"))) (.cons (.ret (.idx (.var 0) (.con (.int 2)))) .nil) .nil) (.cons (.ret (.tup .nil)) .nil))
theorem nQ (x:Str):ofD (c8 x)= .tup [.str "any",.str x]:=by simp[c8,ofD,aa]
theorem mY (x:Str) (ps:List Mx.D):ofD (ofT x ps)= .tup [.str "of",.str x,.tup (aa ps)]:=by simp[ofT,ofD,aa]
variable {fs:List Fn}
noncomputable def iL (L:Nat) (Q:Mx.D->Prop) (it:Mx.D):Prop:=(∃x,it=c8 x)\/∃x ps,it=ofT x ps/\ps.length<=L/\∀p∈ps,Q p
noncomputable def row (it:Mx.D) (c:Int):Mx.D:= .tup [it,.int c]
noncomputable def eY (L:Nat) (P:Int->Prop) (Q:Mx.D->Prop) (r:Mx.D):Prop:=∃it c,r=row it c/\P c/\iL L Q it
noncomputable def c7 (L:Nat) (P:Int->Prop):Nat->Mx.D->Prop
 | 0,_=>False
 | n + 1,d=>∃rs,d= .tup rs/\rs.length<=L/\∀r∈rs,eY L P (c7 L P n) r
section
variable {L L':Nat} {P P':Int->Prop}
theorem iL.imp {Q Q':Mx.D->Prop} {it:Mx.D} (hL:L<=L') (h:∀p,Q p->Q' p):iL L Q it->iL L' Q' it:=Or.imp id λ⟨x,ps,e,h1,h2⟩=>⟨x,ps,e,Qr h1 hL,λp hp=>h p (h2 p hp)⟩
theorem c7.mono (hL:L<=L') (hP:∀c,P c->P' c):∀{n m:Nat} {d:Mx.D},n<=m->c7 L P n d->c7 L' P' m d
 | 0,_,_,_,h=>h.elim
 | n + 1,0,_,h,_=>by lia
 | n + 1,m + 1,d,hn,⟨rs,e,h1,h2⟩=>⟨rs,e,Qr h1 hL,λr hr=>by
  obtain⟨it,c,e,h3,h4⟩:=h2 r hr;exact⟨it,c,e,hP c h3,h4.imp hL λp hp=>c7.mono hL hP (by lia) hp⟩⟩
theorem wz {m:Nat} {it:Mx.D} {Q:Mx.D->Prop} (hQ:∀d,Q d->Mx.D.dep d<=m) (h:iL L Q it):Mx.D.dep it<=m + 2:=by
 rcases h with ⟨x,rfl⟩ | ⟨x,ps,rfl,_,hp⟩
 ·simp[c8,Mx.D.dep,Mx.D.cL]
 ·have:=fK λp lg=>hQ p (hp p lg)
  simp[ofT,Mx.D.dep,Mx.D.cL]
  lia
theorem wA {m:Nat} {r:Mx.D} {Q:Mx.D->Prop} (hQ:∀d,Q d->Mx.D.dep d<=m) (h:eY L P Q r):Mx.D.dep r<=m + 3:=by
 obtain⟨it,c,rfl,_,hi⟩:=h;have:=wz hQ hi;simp[row,Mx.D.dep,Mx.D.cL]
 lia
theorem jZ:∀{n:Nat} {d:Mx.D},c7 L P n d->Mx.D.dep d<=4 * n
 | 0,d,h=>h.elim
 | n + 1,d,⟨rs,e,_,h⟩=>by
  subst e;have:Mx.D.cL rs<=4 * n + 3:=fK λr hr=>wA (λd hd=>jZ hd) (h r hr)
  simp only[Mx.D.dep]
  lia
theorem Hr {Q Q':Mx.D->Prop} {a b:Mx.D} (hq:∀p q,Q p->Q' q->jH p q=true) (ha:iL L Q a) (hb:iL L' Q' b):jH a b=true:=by
 rcases ha with ⟨x,rfl⟩ | ⟨x,ps,rfl,_,hp⟩ <;> rcases hb with ⟨y,rfl⟩ | ⟨y,qs,rfl,_,JA⟩
 ·simp[c8,jH,ib]
 ·simp[c8,ofT,jH,ib]
 ·simp[c8,ofT,jH,ib]
 ·simp only[ofT,jH,ib,Bool.true_and,Bool.and_true];exact qO λp gZ q K6=>hq p q (hp p gZ) (JA q K6)
theorem B7 {Q Q':Mx.D->Prop} {a b:Mx.D} (hq:∀p q,Q p->Q' q->jH p q=true) (ha:eY L P Q a) (hb:eY L' P' Q' b):jH a b=true:=by obtain⟨i,c,rfl,_,hi⟩:=ha;obtain⟨j,d,rfl,_,hj⟩:=hb;simp only[row,jH,ib,Bool.and_true];exact Hr hq hi hj
theorem DJ:∀{n m:Nat} {a b:Mx.D},c7 L P n a->c7 L' P' m b->jH a b=true
 | 0,_,_,_,h,_=>h.elim
 | _ + 1,0,_,_,_,h=>h.elim
 | n + 1,m + 1,a,b,⟨rs,e1,_,h1⟩,⟨qs,e2,_,h2⟩=>by subst e1 e2;simp only[jH];exact qO λr hr q hq=>B7 (λp q hp hq=>DJ hp hq) (h1 r hr) (h2 q hq)
theorem Gk {n:Nat} {ms:List Mx.D} (hn:n<=20) (hl:ms.length < 1000000) (h:∀m∈ms,eY L P (c7 L P n) m):iQ ms=true:=by
 refine wt .tt hl (fK λd hd=>?_) (λd hd=>?_) λd hd e he=>B7 (λp q hp hq=>DJ hp hq) (h d hd) (h e he)
 ·have:=wA (λd hd=>jZ hd) (h d hd)
  lia
 ·obtain⟨it,c,rfl,_,hi⟩:=h d hd;rcases hi with ⟨x,rfl⟩ | ⟨x,ps,rfl,_⟩ <;> rfl
end
noncomputable def a6:Mx.D->Mx.D
 | .tup (it::_)=>it
 | d=>d
noncomputable def dO:Mx.D->Int
 | .tup [_,.int c]=>c
 | _=>0
theorem aV (it:Mx.D) (c:Int):a6 (row it c)=it:=rfl
theorem cK (it:Mx.D) (c:Int):dO (row it c)=c:=rfl
noncomputable def gr (it:Mx.D) (c:Int):List Mx.D->List Mx.D
 | []=>[row it c]
 | r::rs=>if it=a6 r then gr (a6 r) (c + dO r) rs else row it c::gr (a6 r) (dO r) rs
noncomputable def oC:List Mx.D->List Mx.D
 | []=>[]
 | r::rs=>gr (a6 r) (dO r) rs
noncomputable def cu (ms:List Mx.D):List Mx.D:=oC (aR ms)
theorem mE (r:Mx.D):∀(rs:List Mx.D) (it:Mx.D) (c:Int),∃init gz c',gr it c rs=init++[row gz c']/\gr it c (rs++[r])=if gz=a6 r then init++[row (a6 r) (c' + dO r)] else init++[row gz c']++[row (a6 r) (dO r)]
 | [],it,c=>⟨[],it,c,rfl,by simp only[List.nil_append,gr];split <;> rfl⟩
 | s::rs,it,c=>by
  simp only[List.cons_append,gr];by_cases h:it=a6 s
  ·rw[if_pos h,if_pos h];exact mE r rs _ _
  ·rw[if_neg h,if_neg h];obtain⟨init,gz,c',h1,h2⟩:=mE r rs (a6 s) (dO s);refine⟨row it c::init,gz,c',by rw[h1];rfl,?_⟩;rw[h2];split <;> rfl
theorem mC:∀(rs:List Mx.D) (it:Mx.D) (c:Int),(gr it c rs).length<=rs.length + 1
 | [],it,c=>by simp[gr]
 | r::rs,it,c=>by
  rw[gr];split
  ·have:=mC rs (a6 r) (c + dO r);rw[Qy];lia
  ·have:=mC rs (a6 r) (dO r);rw[Qy,Qy];lia
theorem fA:∀(rs:List Mx.D) (it:Mx.D) (c:Int),(gr it c rs).map a6=it::uq (some it) (rs.map a6)
 | [],it,c=>by simp[gr,uq,aV]
 | r::rs,it,c=>by
  rw[gr,QY,uq];by_cases h:it=a6 r
  ·rw[if_pos h,if_pos (by rw[h]),fA rs,h]
  ·rw[if_neg h,if_neg (λz=>h (Option.some.inj z)),QY,fA rs,aV]
theorem mD {S:Mx.D->Prop} (hS:∀it c d,S (row it c)->0 < c->0 < d->S (row it (c + d))):∀(rs:List Mx.D) (it:Mx.D) (c:Int),S (row it c)->0 < c->(∀r∈rs,S r/\∃i k,r=row i k/\0 < k)->∀r∈gr it c rs,S r/\∃i k,r=row i k/\0 < k
 | [],it,c,h,hc,_,r,hr=>by simp only[gr,QO] at hr;subst hr;exact⟨h,it,c,rfl,hc⟩
 | q::rs,it,c,h,hc,hs,r,hr=>by
  obtain⟨hq,i,k,e,hk⟩:=hs q Qm;subst e;have vD:∀r∈rs,S r/\∃i k,r=row i k/\0 < k:=λr hr=>hs r (Qj _ hr)
  rw[gr,aV,cK] at hr;split at hr
  ·rename_i e;subst e;exact mD hS rs it (c + k) (hS _ _ _ h hc hk) (by lia) vD r hr
  ·rcases Qs.mp hr with rfl | hr
   ·exact⟨h,it,c,rfl,hc⟩
   ·exact mD hS rs i k hq hk vD r hr
theorem sG:∀(rs:List Mx.D) (it:Mx.D) (c:Int),(it::rs.map a6).Nodup->(∀r∈rs,∃i k,r=row i k)->gr it c rs=row it c::rs
 | [],it,c,_,_=>rfl
 | q::rs,it,c,hn,hs=>by obtain⟨i,k,e⟩:=hs q Qm;subst e;rw[QY,aV] at hn;have h1:=List.nodup_cons.mp hn;rw[gr,aV,cK,if_neg (λz=>h1.1 (by rw[z];exact Qm)),sG rs i k h1.2 λr hr=>hs r (Qj _ hr)]
theorem oE {rs:List Mx.D} (hn:(rs.map a6).Nodup) (hs:∀r∈rs,∃i k,r=row i k):oC rs=rs:=by
 cases rs with
 | nil=>rfl
 | cons q rs=>obtain⟨i,k,e⟩:=hs q Qm;subst e;exact sG rs i k hn λr hr=>hs r (Qj _ hr)
theorem xT {i j:Mx.D} {c d:Int} (h:Mx.D.lt i j=true):Mx.D.lt (row i c) (row j d)=true:=by
 have ne:i≠j:=λe=>by subst e;rw[Mx.D.lt_irrefl] at h;cases h
 simp only[row,Mx.D.lt];rw[Mx.D.dh,if_neg ne];exact h
theorem DI {i j:Mx.D} {c d:Int} (h:jG (row i c) (row j d)=true):jG i j=true:=by
 unfold jG at h ⊢;cases e:Mx.D.lt j i with
 | false=>rfl
 | true=>rw[xT e] at h;cases h
noncomputable def Up (rs:List Mx.D):Prop:=(rs.map a6).Pairwise λa b=>Mx.D.lt a b=true
theorem Up.nodup {rs:List Mx.D} (h:Up rs):(rs.map a6).Nodup:=List.Pairwise.imp (λ {a b} z e=>by subst e;rw[Mx.D.lt_irrefl] at z;cases z) h
theorem Up.sort {rs:List Mx.D} (h:Up rs) (hs:∀r∈rs,∃i k,r=row i k):aR rs=rs:=by
 have h1:rs.Pairwise λa b=>Mx.D.lt a b=true:=by
  have h2:rs.Pairwise λa b=>Mx.D.lt (a6 a) (a6 b)=true:=List.pairwise_map.mp h
  refine List.Pairwise.imp_of_mem (λ {a b} ha hb z=>?_) h2;obtain⟨i,k,rfl⟩:=hs a ha;obtain⟨j,l,rfl⟩:=hs b hb;exact xT z
 have hn:rs.Nodup:=List.Pairwise.imp (λ {a b} z e=>by subst e;rw[Mx.D.lt_irrefl] at z;cases z) h1;exact kO (pE hn) h1 λx=>cP
theorem Up.Kw {rs:List Mx.D} (h:Up rs) (hs:∀r∈rs,∃i k,r=row i k):cu rs=rs:=by unfold cu;rw[h.sort hs,oE h.nodup hs]
theorem j7 {ms:List Mx.D} (hn:(ms.map a6).Nodup) (hs:∀r∈ms,∃i k,r=row i k):cu ms=aR ms:=by unfold cu;exact oE (((bz ms).map a6).nodup_iff.mpr hn) λr hr=>hs r (cP.mp hr)
theorem oB (ms:List Mx.D):(cu ms).length<=ms.length:=by
 unfold cu;have:=(bz ms).length_eq;cases h:aR ms with
 | nil=>simp[oC]
 | cons r rs=>rw[h] at this;rw[<-this];exact mC rs _ _
theorem qy {ms:List Mx.D} (x:Mx.D):x∈(cu ms).map a6↔x∈ms.map a6:=by
 unfold cu;have e:x∈(aR ms).map a6↔x∈ms.map a6:=((bz ms).map a6).mem_iff;rw[<-e];cases aR ms with
 | nil=>rfl
 | cons r rs=>
  show x∈(gr (a6 r) (dO r) rs).map a6↔_;rw[fA,QY,Qs,Qs];have:=y8 (x:=x) (a:=rs.map a6) (p:=some (a6 r));constructor
  ·rintro(h | h)
   ·exact .inl h
   ·exact(this.mp (.inl h)).elim .inr λz=> .inl (Option.some.inj z).symm
  ·rintro(h | h)
   ·exact .inl h
   ·exact(this.mpr (.inl h)).elim .inr λz=> .inl (Option.some.inj z).symm
theorem Ak {ms:List Mx.D} (hs:∀r∈ms,∃i k,r=row i k):Up (cu ms):=by
 unfold cu Up;have h1:=iE ms;have vD:∀r∈aR ms,∃i k,r=row i k:=λr hr=>hs r (cP.mp hr)
 cases h:aR ms with
 | nil=>exact .nil
 | cons r rs=>
  rw[h] at h1 vD;show ((gr (a6 r) (dO r) rs).map a6).Pairwise _;rw[fA];have le:∀{a b:Mx.D},(∃i k,a=row i k)->(∃i k,b=row i k)->jG a b=true->jG (a6 a) (a6 b)=true:=λ {a b} ⟨i,k,e⟩ ⟨j,l,e'⟩ z=>by subst e e';exact DI z
  have h2:=List.pairwise_cons.mp h1;have h3:(rs.map a6).Pairwise λa b=>jG a b=true:=List.pairwise_map.mpr (List.Pairwise.imp_of_mem (λ {a b} ha hb z=>le (vD a (Qj _ ha)) (vD b (Qj _ hb)) z) h2.2)
  obtain⟨u1,u2⟩:=lV (p:=some (a6 r)) h3 λx hx y e=>by cases e;obtain⟨q,hq,rfl⟩:=QP.mp hx;exact le (vD r Qm) (vD q (Qj _ hq)) (h2.1 q hq)
  exact List.pairwise_cons.mpr ⟨λx hx=>u2 x hx _ rfl,u1⟩
theorem lG {S:Mx.D->Prop} (hS:∀it c d,S (row it c)->0 < c->0 < d->S (row it (c + d))) {ms:List Mx.D} (hs:∀r∈ms,S r/\∃i k,r=row i k/\0 < k):∀r∈cu ms,S r/\∃i k,r=row i k/\0 < k:=by
 unfold cu;have vD:∀r∈aR ms,S r/\∃i k,r=row i k/\0 < k:=λr hr=>hs r (cP.mp hr)
 cases h:aR ms with
 | nil=>intro r hr;cases hr
 | cons q rs=>rw[h] at vD;obtain⟨h1,i,k,e,hk⟩:=vD q Qm;subst e;exact mD hS rs i k h1 hk λr hr=>vD r (Qj _ hr)
noncomputable def Ga (t:C):Ts:=(.cons (.ifs (.and t (.cmp .Eq (.idx (.idx (.mvr 1) (.neg (.con (.int 1)))) (.con (.int 0))) (.var 2))) (.cons (.yF 1 (.neg (.con (.int 1))) (.tup (.cons (.var 2) (.cons (.bin .Add (.idx (.idx (.mvr 1) (.neg (.con (.int 1)))) (.con (.int 1))) (.var 3)) .nil)))) .nil) (.cons (.app 1 (.tup (.cons (.var 2) (.cons (.var 3) .nil)))) .nil)) .nil)
noncomputable def CI (t:C):Ts:=(.cons (.asgM 1 (.lst .nil)) (.cons (.fr (.tp [2,3]) (.seq (.bi .sorted (.cons (.var 0) .nil))) (Ga t)) (.cons (.ret (.bi .tuple (.cons (.mvr 1) .nil))) .nil)))
theorem xj {p:List Mx.D} {it:Mx.D} {c:Int}:(oC p=[]/\p=[]/\oC (p++[row it c])=[row it c])\/∃init gz c',oC p=init++[row gz c']/\oC (p++[row it c])=if gz=it then init++[row it (c' + c)] else init++[row gz c']++[row it c]:=by
 cases p with
 | nil=>exact .inl ⟨rfl,rfl,rfl⟩
 | cons r rs=>exact .inr (mE (row it c) rs _ _)
theorem wZ {ig:Nat} {t:C} (hf:fs[ig]?=some ⟨1,4,false,CI t⟩) {N n L:Nat} {P:Int->Prop} (hN:1<=N) (hn:n<=20) {ms:List Mx.D} (hl:ms.length < 1000000) (h:∀m∈ms,eY L P (c7 L P n) m)
  (ht:∀(rs:List Mx.D) (x y z:Option Dt),Mx.D.cL rs<=90->cX (az fs (N - 1)) t [x,some (.lst (aa rs)),y,z] none= .ok (!rs.isEmpty,none)):az fs N ig [.lst (aa ms)] none= .ok (.tup (aa (cu ms)),none):=by
 have iV:lim=1000000:=rfl;have hs:=(iO (Gk hn hl h)).1;have zy:(aR ms).length=ms.length:=(bz ms).length_eq;have JB:∀r∈aR ms,∃it c,r=row it c/\Mx.D.dep it<=82:=λr hr=>by obtain⟨it,c,e,_,hi⟩:=h r (cP.mp hr);have:=wz (λd hd=>jZ hd) hi;exact⟨it,c,e,by lia⟩
 have grows:∀{p q:List Mx.D},aR ms=p++q->∀r∈oC p,∃it c,r=row it c/\Mx.D.dep it<=82:=λ {p q} e r hr=>by
  have hi:a6 r∈(oC p).map a6:=QP.mpr ⟨r,hr,rfl⟩;have hp:∀r∈p,∃it c,r=row it c/\Mx.D.dep it<=82:=λr hr=>JB r (by rw[e];exact List.mem_append_left _ hr)
  have key:a6 r∈p.map a6/\∃i c,r=row i c:=by
   cases p with
   | nil=>cases hr
   | cons q0 rs=>
    have hi:a6 r∈(gr (a6 q0) (dO q0) rs).map a6:=hi;rw[fA] at hi;refine⟨?_,?_⟩
    ·rw[QY];rcases Qs.mp hi with e | e
     ·rw[e];exact Qm
     ·exact Qj _ (rK e)
    ·have:∀(rs:List Mx.D) (it:Mx.D) (c:Int),∀r∈gr it c rs,∃i c,r=row i c:=by
      intro rs
      induction rs with
      | nil=>intro it c r hr;simp only[gr,QO] at hr;exact⟨it,c,hr⟩
      | cons q rs ih=>
       intro it c r hr;rw[gr] at hr;split at hr
       ·exact ih _ _ r hr
       ·rcases Qs.mp hr with e | hr
        ·exact⟨it,c,e⟩
        ·exact ih _ _ r hr
     exact this rs _ _ r hr
  obtain⟨k1,i,c,e⟩:=key;subst e;obtain⟨q1,K6,e1⟩:=QP.mp k1;obtain⟨i',c',e2,hd⟩:=hp q1 K6;subst e2;rw[aV,aV] at e1;exact⟨i,c,rfl,by rw[<-e1];exact hd⟩
 have loop:=bU (S:=none) (tg:= .tp [2,3]) (body:=aP (az fs (N - 1)) (Ga t)) (ds:=aa (aR ms))
  (ρ:=[some (.lst (aa ms)),some (.lst []),none,none])
  (λpre ρ=>∃p a b,pre=aa p/\ρ=[some (.lst (aa ms)),some (.lst (aa (oC p))),a,b]) ⟨[],none,none,rfl,rfl⟩ (by
   rintro pre x post ρ e ⟨p,a,b,rfl,rfl⟩;obtain⟨p',y,q,e1,e2,rfl,rfl⟩:=dw e;have:=congrArg dz e2;rw[aQ,aQ] at this;cases this;obtain⟨it,c,rfl,hd⟩:=JB y (by rw[e1];simp);have lJ:p.length < ms.length:=by rw[<-zy,e1];simp
   have gl:(oC p).length<=p.length:=by
    cases p with
    | nil=>simp[oC]
    | cons r rs=>exact mC rs _ _
   have gd:Mx.D.cL (oC p)<=90:=fK λd hd=>by
    obtain⟨i,c,rfl,h⟩:=grows e1 d hd;simp[row,Mx.D.dep,Mx.D.cL]
    lia
   have Du:=ht (oC p) (some (.lst (aa ms))) (some (ofD it)) (some (.int c)) gd;have eo:aa (p++[row it c])=aa p++[ofD (row it c)]:=by rw[aK];simp[aa]
   have er:ofD (row it c)= .tup [ofD it,.int c]:=by simp[row,ofD,aa]
   refine⟨[some (.lst (aa ms)),some (.lst (aa (oC p))),some (ofD it),some (.int c)],[some (.lst (aa ms)),some (.lst (aa (oC (p++[row it c])))),some (ofD it),some (.int c)],by rw[er];rfl,?_,p++[row it c],some (ofD it),some (.int c),by rw[eo],rfl⟩;rcases xj (p:=p) (it:=it) (c:=c) with ⟨g1,g2,g3⟩ | ⟨init,gz,c',g1,g2⟩
   ·rw[g1] at Du ⊢;rw[g3];refine kz (S1:=none) (by simp only[RX,Du];rfl) (i5 (ds:=[]) (d:= .tup [ofD it,.int c]) (S1:=none) rfl (by simp only[RX]) rfl (by simp) ?_);simp[aa,er];rfl
   ·have As:Mx.D.dep gz<=82:=by obtain⟨i,k,e,hd⟩:=grows e1 (row gz c') (by rw[g1];simp);have:=congrArg a6 e;rw[aV,aV] at this;rw[this];exact hd
    have hq:=Ab (a:=gz) (b:=it) (by lia);rw[g1] at Du gl ⊢;have pZ:(!(init++[row gz c']).isEmpty)=true:=by cases init <;> rfl
    rw[pZ] at Du;have el:aa (init++[row gz c'])=aa init++[.tup [ofD gz,.int c']]:=by rw[aK];simp[row,ofD,aa]
    rw[el] at Du ⊢;rw[g2];rw[Qw] at gl;by_cases heq:gz=it
    ·rw[QJ heq] at hq;rw[if_pos heq];refine qR (S1:=none) (by simp only[RX,Du,ka,hq,if_true]) (nx (Ae (ds:=aa init++[.tup [ofD gz,.int c']]) (d:= .tup [ofD it,.int (c' + c)]) (S1:=none) (S2:=none) (n:= -1) (j:=init.length) rfl (by simp only[RX,ka]) (by simp only[RX]) rfl (by rw[Qw,ar];exact AI)) ?_);rw[Bv (aa init) _ _ (ar init).symm,aK];simp[row,ofD,aa];rfl
    ·rw[QF heq] at hq;rw[if_neg heq];refine kz (S1:=none) (by simp only[RX,Du,ka,hq,if_true]) (i5 (ds:=aa init++[.tup [ofD gz,.int c']]) (d:= .tup [ofD it,.int c]) (S1:=none) rfl (by simp only[RX]) rfl (by rw[Qw,ar];simp only[Qy,List.length_nil] at gl ⊢;lia) ?_);rw[aK (init++_),el];simp[row,ofD,aa];rfl)
 obtain⟨ρ1,bM,p,a,b,e1,rfl⟩:=loop;have:=congrArg dz e1;rw[aQ,aQ] at this;cases this;refine aF hf hN rfl ?_;show fin (aP (az fs (N - 1)) (CI t) [some (.lst (aa ms)),none,none,none] none)=_;exact dS (d:= .lst []) (S1:=none) rfl rfl (bF (ds:=aa (aR ms)) (S1:=none) (by simp only[RX,hs]) rfl bM (aq (by simp only[RX];rfl)))
noncomputable def IK:C:= .cmp .NotEq (.mvr 1) (.lst .nil)
theorem IR {F:FT} (rs:List Mx.D) (x y z:Option Dt) (h:Mx.D.cL rs<=90):cX F IK [x,some (.lst (aa rs)),y,z] none= .ok (!rs.isEmpty,none):=by
 rcases xO rs with rfl | ⟨a,b,rfl⟩
 ·rfl
 ·have e:(!(a++[b]).isEmpty)=true:=by cases a <;> rfl
  have eo:aa (a++[b])=aa a++[ofD b]:=by rw[aK];simp[aa]
  have:=ne_nil (ds:=aa a) (d:=ofD b) (by rw[<-eo];exact q9 _) (by rw[<-eo,qu];lia);rw[e,eo];unfold IK;simp only[RX,this]
theorem Mp {F:FT} (rs:List Mx.D) (x y z:Option Dt):cX F (.mvr 1) [x,some (.lst (aa rs)),y,z] none= .ok (!rs.isEmpty,none):=by cases rs <;> simp[cX,dG,dy,aa]
variable {fs:List Fn}
section
variable {F:FT} {S:Sx} {ρ:aj}
theorem dF (b:BI) (e:C):ev F (.bi b (.cons e .nil)) ρ S=(ev F e ρ S).bind λx=>(ei b [x.1]).bind λd=> .ok (d,x.2):=by simp only[RX];cases ev F e ρ S <;> rfl
theorem C0 {a b:C} {i j:Int} {S1 S2:Sx} (ha:ev F a ρ S= .ok (.int i,S1)) (hb:ev F b ρ S1= .ok (.int j,S2)):ev F (.bin .Add a b) ρ S= .ok (.int (i + j),S2):=by rw[ev,ha,R.ai,hb];rfl
theorem df {f:Dt->Sx->R (List Dt×Sx)} {g:Mx.D->Dt}:∀{ms:List Mx.D},(∀m∈ms,f (ofD m) S= .ok ([g m],S))->bh f (aa ms) S= .ok (ms.map g,S)
 | [],_=>rfl
 | m::ms,h=>by rw[aa,bh,h m Qm,R.ai,df λy hy=>h y (Qj _ hy)];rfl
theorem oh {f:Dt->Sx->R (List Dt×Sx)} {g:Mx.D->Dt} {k:Nat} {B:Prop}:∀{ms:List Mx.D},(∀m∈ms,f (ofD m) S= .ok ([g m],S)\/(B/\f (ofD m) S= .ex k))->bh f (aa ms) S= .ok (ms.map g,S)\/(B/\bh f (aa ms) S= .ex k)
 | [],_=> .inl rfl
 | m::ms,h=>by
  rw[aa,bh];rcases h m Qm with h1 | ⟨b,h1⟩
  ·rw[h1,R.ai];rcases oh λy hy=>h y (Qj _ hy) with h2 | ⟨b,h2⟩
   ·rw[h2];exact .inl rfl
   ·rw[h2];exact .inr ⟨b,rfl⟩
  ·rw[h1];exact .inr ⟨b,rfl⟩
theorem wI {cap:List (Option Nat)} {it:nN} {tg:Tg} {cs:Cs} {e:C} {ds:List Dt} {S1:Sx} {k:Nat} (h:e9 F it ρ S= .ok (ds,S1)) (hl:ds.length<=lim) (hk:(decide (uW it<=1)||iS F it ρ S)=true)
  (hc:bh (bB tg (cC F cs) (cF F e) (jl cap ρ)) ds S1= .ex k):ev F (.comp cap it tg cs e) ρ S= .ex k:=by
 rw[ev,h,R.ai,QJ hl,hk];show (bh (bB tg (cC F cs) (cF F e) (jl cap ρ)) ds S1).bind _=_;rw[hc];rfl
theorem Ai {tg:Tg} {body:aj->Sx->RS} {ds:List Dt} {k:Nat} {B:Prop} (P:List Dt->aj->Prop) (h0:P [] ρ)
  (step:∀pre x post ρ,ds=pre++x::post->P pre ρ->∃ρ1,du tg x ρ= .ok ρ1/\((∃ρ2,body ρ1 S= .ok (.next,ρ2,S)/\P (pre++[x]) ρ2)\/(B/\body ρ1 S= .ex k))):
  (∃ρ',forL tg body ds ρ S= .ok (.next,ρ',S)/\P ds ρ')\/(B/\forL tg body ds ρ S= .ex k):=by
 have key:∀(post pre:List Dt) (ρ:aj),ds=pre++post->P pre ρ->(∃ρ',forL tg body post ρ S= .ok (.next,ρ',S)/\P ds ρ')\/(B/\forL tg body post ρ S= .ex k):=by
  intro post
  induction post with
  | nil=>intro pre ρ e h;rw[QU] at e;subst e;exact .inl ⟨ρ,rfl,h⟩
  | cons x post ih=>
   intro pre ρ e h;obtain⟨ρ1,h1,⟨ρ2,h2,h3⟩ | ⟨b,h2⟩⟩:=step pre x post ρ e h
   ·rw[forL,h1,R.ai,h2,R.ai];exact ih (pre++[x]) ρ2 (by rw[e];simp) h3
   ·rw[forL,h1,R.ai,h2];exact .inr ⟨b,rfl⟩
 exact key ds [] ρ rfl h0
theorem wQ {tg:Tg} {it:nN} {b ts:Ts} {ds:List Dt} {S1:Sx} {k:Nat} (h:e9 F it ρ S= .ok (ds,S1)) (hl:uW it=0) (hf:forL tg (aP F b) ds ρ S1= .ex k):fin (aP F (.cons (.fr tg it b) ts) ρ S)= .ex k:=by rw[aP,ex,h,R.ai,QJ hl,Bool.true_or,guard_true,hf];rfl
theorem ints_map (l:List Int):intsOf (l.map Dt.int)=some l:=by
 induction l with
 | nil=>rfl
 | cons x l ih=>rw[QY,intsOf,ih];rfl
theorem qm (l:List Int):ei .sum [.lst (l.map Dt.int)]= .ok (.int l.sum):=by show (match intsOf (l.map Dt.int) with | some ns=>R.ok (Dt.int ns.sum) | none=> .bad)=_;rw[ints_map]
end
noncomputable def eW:Mx.D->List Mx.D
 | .tup rs=>rs
 | _=>[]
noncomputable def cV:Nat->Mx.D->Int
 | 0,_=>0
 | n + 1,d=>((eW d).map λr=>1 + ((aA (a6 r)).map (cV n)).sum).sum
theorem u4 (x:Str):aA (c8 x)=[]:=rfl
theorem o9 (x:Str) (ps:List Mx.D):aA (ofT x ps)=ps:=rfl
theorem yb {ip N L:Nat} (hf:fs[ip]?=some ⟨1,1,false,iN⟩) (hN:1<=N) {Q:Mx.D->Prop} {it:Mx.D} (h:iL L Q it):az fs N ip [ofD it] none= .ok (.tup (aa (aA it)),none):=by
 refine aF hf hN rfl ?_;rcases h with ⟨x,rfl⟩ | ⟨x,ps,rfl,_⟩
 ·rw[nQ];show fin (aP (az fs (N - 1)) iN [some (.tup [.str "any",.str x])] none)=_;exact cq (S1:=none) (by simp only[RX];rfl) (aq (by simp[RX,c8,aA,aa]))
 ·rw[mY];show fin (aP (az fs (N - 1)) iN [some (.tup [.str "of",.str x,.tup (aa ps)])] none)=_;exact dR (S1:=none) (by simp only[RX];rfl) (aq (by simp only[RX];rfl))
theorem fS {L:Nat} {Q:Mx.D->Prop} {it:Mx.D} (h:iL L Q it):(aA it).length<=L/\∀p∈aA it,Q p:=by
 rcases h with ⟨x,rfl⟩ | ⟨x,ps,rfl,h1,h2⟩
 ·exact⟨Nat.zero_le _,λp hp=>by cases hp⟩
 ·exact⟨h1,h2⟩
theorem fY {ρ:aj} {i j:Nat} (it:Mx.D) (c:Int):du (.tp [i,j]) (ofD (row it c)) ρ= .ok ((ρ.set i (some (ofD it))).set j (some (.int c))):=by
 have e:ofD (row it c)= .tup [ofD it,.int c]:=by simp[row,ofD,aa]
 rw[e];rfl
noncomputable def n8 (ip is:Nat):C:=(.bi .sum (.cons (.comp [none,none] (.seq (.call ip (.cons (.var 1) .nil) [])) (.nm 1) .nil (.call is (.cons (.var 1) .nil) [])) .nil))
noncomputable def zQ (ip is:Nat):Ts:=(.cons (.ret (.bi .sum (.cons (.comp [none,none,none] (.seq (.var 0)) (.tp [1,2]) .nil (.bin .Add (.con (.int 1)) (n8 ip is))) .nil))) .nil)
theorem yN {ip is L:Nat} {P:Int->Prop} (hp:fs[ip]?=some ⟨1,1,false,iN⟩) (hf:fs[is]?=some ⟨1,1,false,zQ ip is⟩) (hL:L<=lim):∀(n:Nat) {N:Nat} {d:Mx.D},n + 1<=N->c7 L P n d->az fs N is [ofD d] none= .ok (.int (cV n d),none)
 | 0,_,_,_,h=>h.elim
 | n + 1,N,d,hN,⟨rs,e,hl,hr⟩=>by
  subst e;refine aF hf (by lia) rfl ?_;show fin (aP (az fs (N - 1)) (zQ ip is) [some (ofD (.tup rs))] none)=_;have ed:ofD (.tup rs)= .tup (aa rs):=by simp[ofD]
  rw[ed];have inner:∀m∈rs,bB (.tp [1,2]) (cC (az fs (N - 1)) .nil) (cF (az fs (N - 1)) (.bin .Add (.con (.int 1)) (n8 ip is))) [none,none,none] (ofD m) none= .ok ([.int (1 + ((aA (a6 m)).map (cV n)).sum)],none):=by
   intro m hm;obtain⟨it,c,rfl,_,hi⟩:=hr m hm;obtain⟨p1,p2⟩:=fS hi;have OT:=yb (N:=N - 1) hp (by lia) hi;have oI:ev (az fs (N - 1)) (.call ip (.cons (.var 1) .nil) []) [none,some (ofD it),some (.int c)] none= .ok (.tup (aa (aA it)),none):=by simp only[RX,OT]
   have hc:bh (bB (.nm 1) (cC (az fs (N - 1)) .nil) (cF (az fs (N - 1)) (.call is (.cons (.var 1) .nil) [])) [none,none]) (aa (aA it)) none= .ok ((aA it).map λp=> .int (cV n p),none):=df λp lg=>by have:=yN hp hf hL n (N:=N - 1) (by lia) (p2 p lg);exact bY (ρ1:=[none,some (ofD p)]) rfl (by simp only[RX,this]) rfl
   have dg:=cn (cap:=[none,none]) (ρ:=[none,some (ofD it),some (.int c)]) (gA oI rfl) (by rw[ar];lia) (fO oI (by simp only[iJ];exact eD _)) hc;have Ds:ev (az fs (N - 1)) (n8 ip is) [none,some (ofD it),some (.int c)] none= .ok (.int ((aA it).map (cV n)).sum,none):=by
    unfold n8;rw[dF,dg,R.ai];have:((aA it).map λp=>Dt.int (cV n p))=((aA it).map (cV n)).map Dt.int:=by rw[List.map_map];rfl
    rw[this,qm];rfl
   exact bY (ρ1:=[none,some (ofD it),some (.int c)]) (by rw[fY];rfl) (by simp only[RX,Ds];rfl) rfl
  have dg:=cn (F:=az fs (N - 1)) (cap:=[none,none,none]) (it:= .seq (.var 0)) (tg:= .tp [1,2]) (cs:= .nil) (e:= .bin .Add (.con (.int 1)) (n8 ip is)) (ρ:=[some (.tup (aa rs))]) (S:=none) (ds:=aa rs) (S1:=none) rfl (by rw[ar];lia) rfl (df inner);refine aq ?_;rw[dF,dg,R.ai];have:(rs.map λm=>Dt.int (1 + ((aA (a6 m)).map (cV n)).sum))=(rs.map λr=>1 + ((aA (a6 r)).map (cV n)).sum).map Dt.int:=by rw[List.map_map];rfl
  rw[this,qm];rfl
noncomputable def vZ (is:Nat):Ts:=(.cons (.asg 1 (.bin .Add (.var 1) (.con (.int 1)))) (.cons (.ifs (.cmp .Eq (.idx (.var 2) (.con (.int 0))) (.con (.str "of"))) (.cons (.asg 1 (.bin .Add (.var 1) (.bi .sum (.cons (.comp [none,none] (.seq (.idx (.var 2) (.con (.int 2)))) (.nm 1) .nil (.call is (.cons (.var 1) .nil) [])) .nil)))) .nil) .nil) .nil))
noncomputable def vY (is:Nat):Ts:=(.cons (.asg 1 (.con (.int 0))) (.cons (.fr (.tp [2,3]) (.seq (.var 0)) (vZ is)) (.cons (.ret (.var 1)) .nil)))
theorem ua {is L:Nat} {P:Int->Prop} (hf:fs[is]?=some ⟨1,4,false,vY is⟩) (hL:L<=lim):∀(n:Nat) {N:Nat} {d:Mx.D},n + 1<=N->c7 L P n d->az fs N is [ofD d] none= .ok (.int (cV n d),none)
 | 0,_,_,_,h=>h.elim
 | n + 1,N,d,hN,⟨rs,e,hl,hr⟩=>by
  subst e;refine aF hf (by lia) rfl ?_;show fin (aP (az fs (N - 1)) (vY is) [some (ofD (.tup rs)),none,none,none] none)=_;have ed:ofD (.tup rs)= .tup (aa rs):=by simp[ofD]
  rw[ed];have loop:=bU (S:=none) (tg:= .tp [2,3]) (body:=aP (az fs (N - 1)) (vZ is)) (ds:=aa rs) (ρ:=[some (.tup (aa rs)),some (.int 0),none,none])
   (λpre ρ=>∃p a b,pre=aa p/\ρ=[some (.tup (aa rs)),some (.int (p.map λr=>1 + ((aA (a6 r)).map (cV n)).sum).sum),a,b]) ⟨[],none,none,rfl,rfl⟩ (by
    rintro pre x post ρ e ⟨p,a,b,rfl,rfl⟩;obtain⟨p',y,q,e1,e2,rfl,rfl⟩:=dw e;have:=congrArg dz e2;rw[aQ,aQ] at this;cases this;obtain⟨it,c,rfl,_,hi⟩:=hr y (by rw[e1];simp);generalize hT:(p.map λr=>1 + ((aA (a6 r)).map (cV n)).sum).sum=T;have eT:((p++[row it c]).map λr=>1 + ((aA (a6 r)).map (cV n)).sum).sum=T + 1 + ((aA it).map (cV n)).sum:=by
     rw[QZ,List.sum_append,hT];simp[aV]
     lia
    refine⟨_,_,fY it c,?_,p++[row it c],some (ofD it),some (.int c),by rw[aK];simp[aa],by rw[eT]⟩;refine bx (d:= .int (T + 1)) (S1:=none) (by simp only[RX]) rfl ?_;rcases hi with ⟨x,rfl⟩ | ⟨x,ps,rfl,lJ,Az⟩
    ·rw[nQ];refine kz (S1:=none) (by simp only[RX];rfl) ?_;rw[u4];simp;rfl
    ·rw[mY];refine qR (S1:=none) (by simp only[RX];rfl) ?_;have hc:bh (bB (.nm 1) (cC (az fs (N - 1)) .nil) (cF (az fs (N - 1)) (.call is (.cons (.var 1) .nil) [])) [none,none]) (aa ps) none= .ok (ps.map λp=> .int (cV n p),none):=df λp lg=>by have:=ua hf hL n (N:=N - 1) (by lia) (Az p lg);exact bY (ρ1:=[none,some (ofD p)]) rfl (by simp only[RX,this]) rfl
     have zu:ev (az fs (N - 1)) (.idx (.var 2) (.con (.int 2))) [some (.tup (aa rs)),some (.int (T + 1)),some (.tup [.str "of",.str x,.tup (aa ps)]),some (.int c)] none= .ok (.tup (aa ps),none):=by simp only[RX]
     have dg:=cn (cap:=[none,none]) (gA zu rfl) (by rw[ar];lia) (fO zu (by simp only[iJ];exact eD _)) hc;have Ds:ev (az fs (N - 1)) (.bi .sum (.cons (.comp [none,none] (.seq (.idx (.var 2) (.con (.int 2)))) (.nm 1) .nil (.call is (.cons (.var 1) .nil) [])) .nil)) [some (.tup (aa rs)),some (.int (T + 1)),some (.tup [.str "of",.str x,.tup (aa ps)]),some (.int c)] none= .ok (.int (ps.map (cV n)).sum,none):=by
      rw[dF,dg,R.ai];have:(ps.map λp=>Dt.int (cV n p))=(ps.map (cV n)).map Dt.int:=by rw[List.map_map];rfl
      rw[this,qm];rfl
     exact bx (d:= .int (T + 1 + (ps.map (cV n)).sum)) (S1:=none) (C0 rfl Ds) rfl (by rw[o9];rfl))
  obtain⟨ρ1,bM,p,a,b,e1,rfl⟩:=loop;have:=congrArg dz e1;rw[aQ,aQ] at this;cases this;exact aJ (d:= .int 0) (S1:=none) rfl rfl (bF (ds:=aa rs) (S1:=none) rfl rfl bM (aq (by simp only[RX];rfl)))
theorem rB {l:List Int} (h:∀x∈l,0<=x):0<=l.sum:=by
 induction l with
 | nil=>simp
 | cons x l ih=>
  have:=ih λy hy=>h y (Qj _ hy)
  have:=h x Qm;rw[List.sum_cons];lia
theorem rm:∀(n:Nat) (d:Mx.D),0<=cV n d
 | 0,_=>by simp[cV]
 | n + 1,d=>by
  unfold cV;refine rB λx hx=>?_
  obtain⟨r,_,rfl⟩:=QP.mp hx;have:=rB (l:=(aA (a6 r)).map (cV n)) λx hx=>by obtain⟨p,_,rfl⟩:=QP.mp hx;exact rm n p
  lia
theorem uf {l:List Int} {x:Int} (h:∀y∈l,0<=y) (hx:x∈l):x<=l.sum:=by
 induction l with
 | nil=>cases hx
 | cons y l ih=>
  have h1:∀z∈l,0<=z:=λz hz=>h z (Qj _ hz)
  have hy:=h y Qm;have hs:=rB h1;rw[List.sum_cons];rcases Qs.mp hx with e | e
  ·lia
  ·have:=ih h1 e;lia
theorem yM {n:Nat} {d r p:Mx.D} (hr:r∈eW d) (hp:p∈aA (a6 r)):cV n p < cV (n + 1) d:=by
 have h1:cV n p<=((aA (a6 r)).map (cV n)).sum:=uf (λy hy=>by obtain⟨q,_,rfl⟩:=QP.mp hy;exact rm n q) (QP.mpr ⟨p,hp,rfl⟩);have hs:∀y∈(eW d).map λr=>1 + ((aA (a6 r)).map (cV n)).sum,0<=y:=λy hy=>by obtain⟨q,_,rfl⟩:=QP.mp hy;have:=rm (n + 1) (.tup [q]);simp[cV,eW] at this;exact this
 have h2:1 + ((aA (a6 r)).map (cV n)).sum<=cV (n + 1) d:=by show _<=((eW d).map λr=>1 + ((aA (a6 r)).map (cV n)).sum).sum;exact uf hs (QP.mpr ⟨r,hr,rfl⟩)
 lia
variable {fs:List Fn}
noncomputable abbrev Pos (c:Int):Prop:=0 < c
noncomputable abbrev kW (c:Int):Prop:=0 < c/\c < 18446744073709551616
noncomputable def bT (p:Str×Mx.D):Mx.D:= .tup [.str p.1,p.2]
noncomputable def bf (W:List (Str×Mx.D)):Dt:= .tup (aa (W.map bT))
noncomputable def gX:List (Str×Mx.D)->Str->Option Mx.D
 | [],_=>none
 | p::r,x=>if p.1=x then some p.2 else gX r x
noncomputable def je (x:Str):Mx.D:= .tup [row (c8 x) 1]
noncomputable def et (W:List (Str×Mx.D)) (x:Str):Mx.D:=(gX W x).getD (je x)
noncomputable def mulR (c:Int) (f:Mx.D):List Mx.D:=(eW f).map λr=>row (a6 r) (c * dO r)
noncomputable def b7 (f:Mx.D->Mx.D) (W:List (Str×Mx.D)):Mx.D->Mx.D
 | .tup [_,.str x]=>et W x
 | .tup [_,.str x,.tup ps]=> .tup [row (ofT x (ps.map f)) 1]
 | d=>d
noncomputable def putL (W:List (Str×Mx.D)):Nat->Mx.D->Mx.D
 | 0,d=>d
 | n + 1,d=> .tup (cu ((eW d).flatMap λr=>mulR (dO r) (b7 (putL W n) W (a6 r))))
theorem ue (f:Mx.D->Mx.D) (W:List (Str×Mx.D)) (x:Str):b7 f W (c8 x)=et W x:=rfl
theorem kP (f:Mx.D->Mx.D) (W:List (Str×Mx.D)) (x:Str) (ps:List Mx.D):b7 f W (ofT x ps)= .tup [row (ofT x (ps.map f)) 1]:=rfl
theorem Ap {W:List (Str×Mx.D)} {x:Str} {f:Mx.D} (h:gX W x=some f):∃p∈W,p.2=f:=by
 induction W with
 | nil=>cases h
 | cons p W ih=>
  rw[gX] at h;split at h
  ·cases h;exact⟨p,Qm,rfl⟩
  ·obtain⟨q,h1,h2⟩:=ih h;exact⟨q,Qj _ h1,h2⟩
theorem xJ {L n:Nat} (hL:1<=L) (x:Str) (c:Int) (hc:0 < c):c7 L Pos (n + 1) (.tup [row (c8 x) c]):=⟨_,rfl,hL,λr hr=>by rw[QO] at hr;subst hr;exact⟨_,_,rfl,hc,.inl ⟨x,rfl⟩⟩⟩
section
variable {W:List (Str×Mx.D)} {m:Nat} (hW:∀p∈W,c7 200 Pos m p.2) (hm:1<=m)
include hW hm
theorem BZ (x:Str):c7 200 Pos m (et W x):=by
 unfold et;cases h:gX W x with
 | none=>obtain⟨k,rfl⟩:∃k,m=k + 1:=⟨m - 1,by lia⟩;exact xJ (by decide) x 1 (by decide)
 | some f=>obtain⟨p,h1,h2⟩:=Ap h;exact h2▸hW p h1
theorem ud {n:Nat} {it:Mx.D} (ih:∀d,c7 200 kW n d->c7 40000 Pos (n + m) (putL W n d)) (hi:iL 200 (c7 200 kW n) it):c7 40000 Pos (n + m + 1) (b7 (putL W n) W it)/\(eW (b7 (putL W n) W it)).length<=200:=by
 rcases hi with ⟨x,rfl⟩ | ⟨x,ps,rfl,h1,h2⟩
 ·rw[ue];have h:=BZ hW hm x;refine⟨h.mono (by decide) (λc h=>h) (by lia),?_⟩;obtain⟨k,rfl⟩:∃k,m=k + 1:=⟨m - 1,by lia⟩;obtain⟨rs,e,hl,_⟩:=h;rw[e];exact hl
 ·rw[kP];refine⟨⟨_,rfl,by simp,λr hr=>?_⟩,by simp[eW]⟩;rw[QO] at hr;subst hr;refine⟨_,_,rfl,by decide,.inr ⟨x,_,rfl,by rw[Qp];lia,λp hp=>?_⟩⟩;obtain⟨q,hq,rfl⟩:=QP.mp hp;exact ih q (h2 q hq)
omit hW hm in
theorem xV {k:Nat} {f:Mx.D} {c:Int} (hf:c7 40000 Pos (k + 1) f) (hc:0 < c):∀q∈mulR c f,eY 40000 Pos (c7 40000 Pos k) q/\∃i z,q=row i z/\0 < z:=by obtain⟨rs,e,_,h⟩:=hf;subst e;intro q hq;obtain⟨r,hr,rfl⟩:=QP.mp hq;obtain⟨it,d,rfl,hd,hi⟩:=h r hr;have:0 < c * d:=Int.mul_pos hc hd;exact⟨⟨it,c * d,rfl,this,hi⟩,it,c * d,rfl,this⟩
theorem m9 {n:Nat} {rs:List Mx.D} (ih:∀d,c7 200 kW n d->c7 40000 Pos (n + m) (putL W n d)) (hl:rs.length<=200) (hr:∀r∈rs,eY 200 kW (c7 200 kW n) r):
  (rs.flatMap λr=>mulR (dO r) (b7 (putL W n) W (a6 r))).length<=40000/\∀q∈rs.flatMap λr=>mulR (dO r) (b7 (putL W n) W (a6 r)),eY 40000 Pos (c7 40000 Pos (n + m)) q/\∃i z,q=row i z/\0 < z:=by
 constructor
 ·have:=oz (f:=λr=>mulR (dO r) (b7 (putL W n) W (a6 r))) (k:=200) (l:=rs) λr h=>by obtain⟨it,c,rfl,hc,hi⟩:=hr r h;unfold mulR;rw[Qp];exact(ud hW hm ih hi).2
  lia
 ·intro q hq;obtain⟨r,h,hq⟩:=List.mem_flatMap.mp hq;obtain⟨it,c,rfl,hc,hi⟩:=hr r h;exact xV (ud hW hm ih hi).1 hc.1 q hq
theorem jh:∀{n:Nat} {d:Mx.D},c7 200 kW n d->c7 40000 Pos (n + m) (putL W n d)
 | 0,_,h=>h.elim
 | n + 1,d,⟨rs,e,hl,hr⟩=>by subst e;obtain⟨p1,p2⟩:=m9 hW hm (n:=n) (λd h=>jh h) hl hr;rw[show n + 1 + m=n + m + 1 by lia];refine⟨_,rfl,Qr (oB _) p1,λr h=>?_⟩;refine(lG (S:=eY 40000 Pos (c7 40000 Pos (n + m))) (λit c d ⟨i,k,e,h1,h2⟩ hc hd=>⟨it,c + d,rfl,by show 0 < c + d;lia,?_⟩) p2 r h).1;have:=congrArg a6 e;rw[aV,aV] at this;rw[this];exact h2
end
noncomputable def l8:Ts:=(.cons (.ifs (.cmp .Eq (.var 0) (.con (.int 0))) (.cons (.ret (.tup .nil)) .nil) .nil) (.cons (.ret (.bi .tuple (.cons (.comp [none,none,none,some 0] (.seq (.var 1)) (.tp [1,2]) .nil (.tup (.cons (.var 1) (.cons (.bin .Mult (.var 3) (.var 2)) .nil)))) .nil))) .nil))
theorem aX (rs:List Mx.D):ofD (.tup rs)= .tup (aa rs):=by simp[ofD]
theorem dC (it:Mx.D) (c:Int):ofD (row it c)= .tup [ofD it,.int c]:=by simp[row,ofD,aa]
theorem oZ {F:FT} {c:Int} {L k:Nat} {P:Int->Prop} {rs:List Mx.D} (hc:kW c) (hr:∀r∈rs,eY L P (c7 L P k) r):
  bh (bB (.tp [1,2]) (cC F .nil) (cF F (.tup (.cons (.var 1) (.cons (.bin .Mult (.var 3) (.var 2)) .nil)))) [none,none,none,some (.int c)]) (aa rs) none= .ok (aa (mulR c (.tup rs)),none):=by
 have e:aa (mulR c (.tup rs))=rs.map λr=>ofD (row (a6 r) (c * dO r)):=by unfold mulR;rw[br,List.map_map];rfl
 rw[e];refine df λr h=>?_
 obtain⟨it,d,rfl,_,_⟩:=hr r h;have m1:=bo (i:=c) (j:=d) (.inl (by have:=hc.1;have:=hc.2;lia));exact bY (ρ1:=[none,some (ofD it),some (.int d),some (.int c)]) (by rw[fY];rfl) (by simp only[RX,m1,aV,cK,dC]) rfl
theorem yX {it N L k:Nat} {P:Int->Prop} (hf:fs[it]?=some ⟨2,2,false,l8⟩) (hN:1<=N) (hL:L<=lim) {c:Int} (hc:kW c) {f:Mx.D} (h:c7 L P k f):az fs N it [.int c,ofD f] none= .ok (.tup (aa (mulR c f)),none):=by
 obtain⟨k,rfl⟩:∃j,k=j + 1:=by cases k with | zero=>exact h.elim | succ m=>exact⟨m,rfl⟩
 obtain⟨rs,e,hl,hr⟩:=h;subst e;refine aF hf hN rfl ?_;show fin (aP (az fs (N - 1)) l8 [some (.int c),some (ofD (.tup rs))] none)=_;rw[aX];have c0:(c==0)=false:=beq_eq_false_iff_ne.mpr (by have:=hc.1;lia);refine cq (S1:=none) (by simp only[RX,c0]) (aq ?_);have dg:=cn (F:=az fs (N - 1)) (cap:=[none,none,none,some 0]) (it:= .seq (.var 1)) (tg:= .tp [1,2]) (cs:= .nil) (e:= .tup (.cons (.var 1) (.cons (.bin .Mult (.var 3) (.var 2)) .nil))) (ρ:=[some (.int c),some (.tup (aa rs))]) (S:=none) (ds:=aa rs) (S1:=none) rfl (by rw[ar];lia) rfl (oZ hc hr);rw[dF,dg];rfl
noncomputable def nX:Ts:=(.cons (.ret (.tup (.cons (.tup (.cons (.tup (.cons (.con (.str "any")) (.cons (.var 0) .nil))) (.cons (.con (.int 1)) .nil))) .nil))) .nil)
theorem qJ (x:Str):ofD (je x)= .tup [.tup [.tup [.str "any",.str x],.int 1]]:=by simp[je,row,c8,ofD,aa]
theorem AJ {ij N:Nat} (hf:fs[ij]?=some ⟨1,1,false,nX⟩) (hN:1<=N) (x:Str):az fs N ij [.str x] none= .ok (ofD (je x),none):=by refine aF hf hN rfl ?_;show fin (aP (az fs (N - 1)) nX [some (.str x)] none)=_;exact aq (by rw[qJ];simp only[RX])
noncomputable def zP (ij:Nat):Ts:=(.cons (.fr (.tp [2,3]) (.seq (.var 0)) (.cons (.ifs (.cmp .Eq (.var 2) (.var 1)) (.cons (.ret (.var 3)) .nil) .nil) .nil)) (.cons (.ret (.call ij (.cons (.var 1) .nil) [])) .nil))
theorem mG {x:Str}:∀{P Q:List (Str×Mx.D)},(∀p∈P,p.1≠x)->gX (P++Q) x=gX Q x
 | [],_,_=>rfl
 | p::P,Q,h=>by rw[List.cons_append,gX,if_neg (h p Qm)];exact mG λq hq=>h q (Qj _ hq)
theorem yG {ρ:aj} {i j:Nat} (p:Str×Mx.D):du (.tp [i,j]) (ofD (bT p)) ρ= .ok ((ρ.set i (some (.str p.1))).set j (some (ofD p.2))):=by
 have e:ofD (bT p)= .tup [.str p.1,ofD p.2]:=by simp[bT,ofD,aa]
 rw[e];rfl
theorem vj {W:List (Str×Mx.D)} {pre post:List Dt} {x:Dt} (h:aa (W.map bT)=pre++x::post):∃P p Q,W=P++p::Q/\pre=aa (P.map bT)/\x=ofD (bT p):=by obtain⟨a,y,b,e,e1,e2,_⟩:=dw h;obtain⟨P,Q',e3,e4,e5⟩:=List.map_eq_append_iff.mp e;obtain⟨p,Q,rfl,e6,_⟩:=List.map_eq_cons_iff.mp e5;exact⟨P,p,Q,e3,by rw[e1,e4],by rw[e2,e6]⟩
theorem pR {P Q:List (Str×Mx.D)} (h:aa (P.map bT)=aa (Q.map bT)):P=Q:=by
 have:=congrArg dz h;rw[aQ,aQ] at this
 replace this:=Option.some.inj this
 clear h
 induction P generalizing Q with
 | nil=>cases Q with | nil=>rfl | cons=>cases this
 | cons p P ih=>
  cases Q with
  | nil=>cases this
  | cons q Q=>rw[QY,QY] at this;injection this with h1 h2;obtain⟨a,b⟩:=p;obtain⟨c,d⟩:=q;simp[bT] at h1;rw[ih h2,h1.1,h1.2]
theorem xm {ij ih N:Nat} (hj:fs[ij]?=some ⟨1,1,false,nX⟩) (hf:fs[ih]?=some ⟨2,4,false,zP ij⟩) (hN:2<=N) (W:List (Str×Mx.D)) (x:Str):az fs N ih [bf W,.str x] none= .ok (ofD (et W x),none):=by
 have loop:=wW (S:=none) (tg:= .tp [2,3]) (body:=aP (az fs (N - 1)) (.cons (.ifs (.cmp .Eq (.var 2) (.var 1)) (.cons (.ret (.var 3)) .nil) .nil) .nil)) (ds:=aa (W.map bT)) (ρ:=[some (bf W),some (.str x),none,none])
  (λpre ρ=>∃P a b,pre=aa (P.map bT)/\(∀p∈P,p.1≠x)/\ρ=[some (bf W),some (.str x),a,b]) (λd=>d=ofD (et W x)) ⟨[],none,none,rfl,by simp,rfl⟩ (by
   rintro pre y post ρ e ⟨P,a,b,e1,hP,rfl⟩;obtain⟨P',p,Q,e2,e3,rfl⟩:=vj e;have:=pR (e1.symm.trans e3);subst this;refine⟨_,[some (bf W),some (.str x),some (.str p.1),some (ofD p.2)],yG p,?_⟩;by_cases h:p.1=x
   ·refine .inr ⟨ofD p.2,?_,?_⟩
    ·have hb:(p.1==x)=true:=by rw[h];exact beq_self_eq_true _
     exact qR (S1:=none) (by simp only[RX,hb]) (DZ rfl)
    ·unfold et;rw[e2,mG hP,gX,if_pos h];rfl
   ·have hb:(p.1==x)=false:=beq_eq_false_iff_ne.mpr h;refine .inl ⟨kz (S1:=none) (by simp only[RX,hb]) rfl,P++[p],some (.str p.1),some (ofD p.2),by rw[e3,QZ,aK];simp[aa],λq hq=>?_,rfl⟩;rcases QC.mp hq with hq | hq
    ·exact hP q hq
    ·rw[QO] at hq;subst hq;exact h)
 refine aF hf (by lia) rfl ?_;show fin (aP (az fs (N - 1)) (zP ij) [some (bf W),some (.str x),none,none] none)=_;rcases loop with ⟨ρ',h1,P,a,b,e1,hP,rfl⟩ | ⟨d,ρ',h1,h2⟩
 ·have:=pR e1;subst this;have hn:gX W x=none:=by have:=mG (Q:=[]) hP;rw[QU] at this;exact this
  have j:=AJ (N:=N - 1) hj (by lia) x;refine bF (ds:=aa (W.map bT)) (S1:=none) rfl rfl h1 (aq ?_);simp only[RX,j];unfold et;rw[hn];rfl
 ·subst h2;refine my (ρ1:=ρ') (S1:=none) ?_;rw[ex];show (ag _ (forL _ _ _ _ _))=_;exact h1
variable {fs:List Fn}
section
variable {F:FT} {S:Sx} {ρ:aj} {ts:Ts} {k:Nat}
theorem wM {t:T} (h:ex F t ρ S= .ex k):fin (aP F (.cons t ts) ρ S)= .ex k:=by rw[aP,h];rfl
theorem HD {t:T} (h:ex F t ρ S= .ex k):aP F (.cons t ts) ρ S= .ex k:=by rw[aP,h];rfl
theorem E9 {tg:Tg} {e:C} {d:Dt} {ρ1:aj} (hs:du tg d ρ= .ok ρ1) (he:ev F e ρ1 S= .ex k):bB tg (cC F .nil) (cF F e) ρ d S= .ex k:=by unfold bB cF;rw[hs,R.ai];show (R.ok (true,S)).bind _=_;rw[R.ai,if_pos rfl,he];rfl
theorem A2 {i:Nat} {c:C} {ds es:List Dt} {S1:Sx} {r:RS} (hl:ρ[i]?=some (some (.lst ds))) (h:ev F c ρ S= .ok (.tup es,S1)) (hs:lk c<=1) (hz:ds.length + es.length<=lim) (k:aP F ts (ρ.set i (some (.lst (ds++es)))) S1=r):aP F (.cons (.xtd i c) ts) ρ S=r:=by refine nx ?_ k;rw[ex,mL hl,guard_true,h,R.ai,QJ hs,guard_true,mU hl,R.ai];show ag (decide (ds.length + es.length<=lim)) _=_;rw[QJ hz];rfl
end
noncomputable def nY (ih iu:Nat):Ts:=(.cons (.ifs (.cmp .Eq (.idx (.var 0) (.con (.int 0))) (.con (.str "any"))) (.cons (.ret (.call ih (.cons (.var 1) (.cons (.idx (.var 0) (.con (.int 1))) .nil)) [])) .nil) .nil) (.cons (.asg 3 (.bi .tuple (.cons (.comp [none,none,some 2,some 1] (.seq (.idx (.var 0) (.con (.int 2)))) (.nm 1) .nil (.call iu (.cons (.var 1) (.cons (.var 3) (.cons (.var 2) .nil))) [])) .nil))) (.cons (.ret (.tup (.cons (.tup (.cons (.tup (.cons (.con (.str "of")) (.cons (.idx (.var 0) (.con (.int 1))) (.cons (.var 3) .nil)))) (.cons (.con (.int 1)) .nil))) .nil))) .nil)))
noncomputable def vX (it ii:Nat):Ts:=(.cons (.xtd 3 (.call it (.cons (.var 5) (.cons (.call ii (.cons (.var 4) (.cons (.var 1) (.cons (.var 2) .nil))) []) .nil)) [])) .nil)
noncomputable def vW (it ii ig is:Nat):Ts:=(.cons (.asgM 3 (.lst .nil)) (.cons (.fr (.tp [4,5]) (.seq (.var 0)) (vX it ii)) (.cons (.asg 6 (.call ig (.cons (.mvr 3) .nil) [])) (.cons (.ifs (.and (.cmp .IsNot (.var 2) (.con .bb)) (.cmp .Gt (.call is (.cons (.var 6) .nil) []) (.var 2))) (.cons (.rs 0 [2]) .nil) .nil) (.cons (.ret (.var 6)) .nil)))))
structure vL (fs:List Fn) (ip ig it is ij ih iu ii:Nat):Prop where
 p:fs[ip]?=some ⟨1,1,false,iN⟩
 g:fs[ig]?=some ⟨1,4,false,CI (.mvr 1)⟩
 t:fs[it]?=some ⟨2,2,false,l8⟩
 s:fs[is]?=some ⟨1,1,false,zQ ip is⟩
 j:fs[ij]?=some ⟨1,1,false,nX⟩
 h:fs[ih]?=some ⟨2,4,false,zP ij⟩
 u:fs[iu]?=some ⟨3,7,false,vW it ii ig is⟩
 i:fs[ii]?=some ⟨3,4,false,nY ih iu⟩
section
variable {ip ig it is ij ih iu ii:Nat} (H:vL fs ip ig it is ij ih iu ii) {W:List (Str×Mx.D)}
include H
theorem AH {n N:Nat} {x:Mx.D} {most:Int} {B:Prop} (hN:3<=N) (hi:iL 200 (c7 200 kW n) x)
  (hu:∀p∈aA x,az fs (N - 1) iu [ofD p,bf W,.int most] none= .ok (ofD (putL W n p),none)\/(B/\az fs (N - 1) iu [ofD p,bf W,.int most] none= .ex 0)):
  az fs N ii [ofD x,bf W,.int most] none= .ok (ofD (b7 (putL W n) W x),none)\/(B/\az fs N ii [ofD x,bf W,.int most] none= .ex 0):=by
 have iV:lim=1000000:=rfl;rcases hi with ⟨y,rfl⟩ | ⟨y,ps,rfl,hl,hp⟩
 ·refine .inl (aF H.i (by lia) rfl ?_);show fin (aP (az fs (N - 1)) (nY ih iu) [some (ofD (c8 y)),some (bf W),some (.int most),none] none)=_;rw[nQ];have h:=xm (N:=N - 1) H.j H.h (by lia) W y;exact dR (S1:=none) (by simp only[RX];rfl) (aq (by simp only[RX,h,ue]))
 ·have zu:ev (az fs (N - 1)) (.idx (.var 0) (.con (.int 2))) [some (.tup [.str "of",.str y,.tup (aa ps)]),some (bf W),some (.int most),none] none= .ok (.tup (aa ps),none):=by simp only[RX]
  have comp:=oh (k:=0) (B:=B) (S:=none) (ms:=ps) (g:=λp=>ofD (putL W n p)) (f:=bB (.nm 1) (cC (az fs (N - 1)) .nil) (cF (az fs (N - 1)) (.call iu (.cons (.var 1) (.cons (.var 3) (.cons (.var 2) .nil))) [])) [none,none,some (.int most),some (bf W)]) (λp lg=>by
   rcases hu p lg with h | ⟨b,h⟩
   ·exact .inl (bY (ρ1:=[none,some (ofD p),some (.int most),some (bf W)]) rfl (by simp only[RX,h]) rfl)
   ·exact .inr ⟨b,E9 (ρ1:=[none,some (ofD p),some (.int most),some (bf W)]) rfl (by simp only[RX,h];rfl)⟩)
  have hb:∀{r:R (Dt×Sx)},fin (aP (az fs (N - 1)) (nY ih iu) [some (.tup [.str "of",.str y,.tup (aa ps)]),some (bf W),some (.int most),none] none)=r->az fs N ii [ofD (ofT y ps),bf W,.int most] none=r:=λ {r} h=>by refine aF H.i (by lia) rfl ?_;show fin (aP (az fs (N - 1)) (nY ih iu) [some (ofD (ofT y ps)),some (bf W),some (.int most),none] none)=_;rw[mY];exact h
  rcases comp with h | ⟨b,h⟩
  ·refine .inl (hb (cq (S1:=none) (by simp only[RX];rfl) ?_));have dg:=cn (cap:=[none,none,some 2,some 1]) (gA zu rfl) (by rw[ar];lia) (fO zu (by simp only[iJ];exact eD _)) h;have e:(ps.map λp=>ofD (putL W n p))=aa (ps.map (putL W n)):=by rw[br,List.map_map];rfl
   refine aJ (d:= .tup (aa (ps.map (putL W n)))) (S1:=none) (by rw[dF,dg,R.ai,e];rfl) rfl (aq ?_);simp only[RX,kP,aX,aa,dC,mY]
  ·refine .inr ⟨b,hb (cq (S1:=none) (by simp only[RX];rfl) (wM ?_))⟩;have dg:=wI (cap:=[none,none,some 2,some 1]) (gA zu rfl) (by rw[ar];lia) (fO zu (by simp only[iJ];exact eD _)) h;rw[ex,dF,dg];rfl
theorem tQ {m:Nat} {most:Int} (hW:∀p∈W,c7 200 Pos m p.2) (hm:1<=m) (Aw:m<=8) (h0:0<=most) (h1:most < 10 ^ 19):∀(n:Nat) {N:Nat} {d:Mx.D},n<=8->3 * n + m + 10<=N->c7 200 kW n d->
  az fs N iu [ofD d,bf W,.int most] none=if most < cV (n + m) (putL W n d) then .ex 0 else .ok (ofD (putL W n d),none)
 | 0,_,_,_,_,h=>h.elim
 | n + 1,N,d,hn,hN,hd=>by
  have iV:lim=1000000:=rfl;have ih:=λ(N:Nat) (d:Mx.D) (hN:3 * n + m + 10<=N) (h:c7 200 kW n d)=>tQ hW hm Aw h0 h1 n (N:=N) (d:=d) (by lia) hN h
  have K5:c7 40000 Pos (n + 1 + m) (putL W (n + 1) d):=jh hW hm hd;obtain⟨rs,e,hl,hr⟩:=hd;subst e;obtain⟨p1,p2⟩:=m9 hW hm (n:=n) (λd h=>jh hW hm h) hl hr;have loop:=Ai (S:=none) (k:=0) (B:=most < cV (n + 1 + m) (putL W (n + 1) (.tup rs))) (tg:= .tp [4,5]) (body:=aP (az fs (N - 1)) (vX it ii)) (ds:=aa rs)
   (ρ:=[some (.tup (aa rs)),some (bf W),some (.int most),some (.lst []),none,none,none])
   (λpre ρ=>∃p a b,pre=aa p/\ρ=[some (.tup (aa rs)),some (bf W),some (.int most),some (.lst (aa (p.flatMap λr=>mulR (dO r) (b7 (putL W n) W (a6 r))))),a,b,none]) ⟨[],none,none,rfl,rfl⟩ (by
    rintro pre x post ρ e ⟨p,a,b,rfl,rfl⟩;obtain⟨p',y,q,e1,e2,rfl,rfl⟩:=dw e;have:=congrArg dz e2;rw[aQ,aQ] at this;cases this;have hy:y∈rs:=by rw[e1];simp
    obtain⟨i,c,rfl,hc,hi⟩:=hr y hy;refine⟨_,fY i c,?_⟩;have hit:=AH H (N:=N - 1) (W:=W) (n:=n) (most:=most) (B:=∃p∈aA i,most < cV (n + m) (putL W n p)) (by lia) hi (λp hp=>by
     have:=ih (N - 1 - 1) p (by lia) ((fS hi).2 p hp);rw[this];by_cases hb:most < cV (n + m) (putL W n p)
     ·rw[if_pos hb];exact .inr ⟨⟨p,hp,hb⟩,rfl⟩
     ·rw[if_neg hb];exact .inl rfl)
    rcases hit with h | ⟨⟨p0,M9,hb⟩,h⟩
    ·left;obtain⟨s1,s2⟩:=ud hW hm (n:=n) (λd h=>jh hW hm h) hi;have ht:=yX (N:=N - 1) H.t (by lia) (by decide) hc s1;have fl:(p.flatMap λr=>mulR (dO r) (b7 (putL W n) W (a6 r))).length + (mulR c (b7 (putL W n) W i)).length<=40000:=by
      refine Qr ?_ p1;rw[e1,List.flatMap_append,List.flatMap_cons,Qw,Qw,aV,cK]
      lia
     refine⟨_,A2 (ds:=aa (p.flatMap λr=>mulR (dO r) (b7 (putL W n) W (a6 r)))) (es:=aa (mulR c (b7 (putL W n) W i))) (S1:=none) rfl (by simp only[RX,h,ht]) (by simp[lk,nJ]) (by rw[ar,ar];lia) rfl,p++[row i c],some (ofD i),some (.int c),by rw[aK];simp[aa],?_⟩;rw[List.flatMap_append,aK];simp[aV,cK]
    ·right;refine⟨?_,HD ?_⟩
     ·rcases hi with ⟨z,rfl⟩ | ⟨z,ps,rfl,_,_⟩
      ·cases M9
      ·have hg:ofT z (ps.map (putL W n))∈(cu (rs.flatMap λr=>mulR (dO r) (b7 (putL W n) W (a6 r)))).map a6:=(qy _).mpr (QP.mpr ⟨row (ofT z (ps.map (putL W n))) (c * 1),List.mem_flatMap.mpr ⟨row (ofT z ps) c,hy,by rw[aV,cK,kP];exact QP.mpr ⟨_,QO.mpr rfl,rfl⟩⟩,rfl⟩);obtain⟨r',eU,er⟩:=QP.mp hg;have:=yM (n:=n + m) (d:=putL W (n + 1) (.tup rs)) (r:=r') (p:=putL W n p0) eU (by rw[er];exact QP.mpr ⟨p0,M9,rfl⟩);rw[show n + 1 + m=n + m + 1 by lia]
       lia
     ·rw[ex];simp only[RX,h];rfl)
  refine aF H.u (by lia) rfl ?_;show fin (aP (az fs (N - 1)) (vW it ii ig is) [some (ofD (.tup rs)),some (bf W),some (.int most),none,none,none,none] none)=_;rw[aX];refine dS (d:= .lst []) (S1:=none) rfl rfl ?_;rcases loop with ⟨ρ1,bM,p,a,b,e1,rfl⟩ | ⟨hB,bM⟩
  ·have:=congrArg dz e1;rw[aQ,aQ] at this;cases this;have hg:=wZ H.g (N:=N - 1) (by lia) (n:=n + m) (by lia) (L:=40000) (P:=Pos) (ms:=rs.flatMap λr=>mulR (dO r) (b7 (putL W n) W (a6 r))) (by lia) (λq hq=>(p2 q hq).1) λrs x y z _=>Mp rs x y z
   have hs:=yN H.p H.s (L:=40000) (P:=Pos) (by decide) (n + 1 + m) (N:=N - 1) (by lia) K5;have hd:ofD (putL W (n + 1) (.tup rs))= .tup (aa (cu (rs.flatMap λr=>mulR (dO r) (b7 (putL W n) W (a6 r))))):=by rw[putL,aX];rfl
   refine bF (ds:=aa rs) (S1:=none) rfl rfl bM (aJ (d:=ofD (putL W (n + 1) (.tup rs))) (S1:=none) (by simp only[RX,hg,hd]) (by unfold bR;rw[bQ,Bool.or_true]) ?_);generalize hz:putL W (n + 1) (.tup rs)=z at hs;by_cases hb:most < cV (n + 1 + m) z
   ·rw[if_pos hb];refine dR (S1:=none) (by simp only[RX,hs,QJ hb];rfl) (wM ?_);rw[ex];have:(List.all [2] (DT [some (.tup (aa rs)),some (bf W),some (.int most),some (.lst (aa (rs.flatMap λr=>mulR (dO r) (b7 (putL W n) W (a6 r))))),a,b,some (ofD z)]))=true:=by show ((decide (0<=most)&&decide (most < 10 ^ 19))&&true)=true;rw[QJ h0,QJ h1];rfl
    exact(congrArg (ag · _) this).trans rfl
   ·rw[if_neg hb];exact cq (S1:=none) (by simp only[RX,hs,QF hb];rfl) (aq (by simp only[RX]))
  ·rw[if_pos hB];exact wQ (ds:=aa rs) (S1:=none) rfl rfl bM
end
variable {fs:List Fn}
noncomputable def fg (W:List (Str×Mx.D)):Dt:= .obj (W.map (·.1)) (W.map λp=>ofD p.2)
theorem tx (x:Str):∀W:List (Str×Mx.D),A4 x (W.map (·.1)) (W.map λp=>ofD p.2)=(gX W x).map ofD
 | []=>rfl
 | p::W=>by rw[QY,QY,A4,gX,tx x W];split <;> rfl
theorem Al (W:List (Str×Mx.D)) (x:Str):xZ (fg W) (.str x) (ofD (je x))= .ok (ofD (et W x)):=by show R.ok ((A4 x (W.map (·.1)) (W.map λp=>ofD p.2)).getD (ofD (je x)))=_;rw[tx];unfold et;cases gX W x <;> rfl
theorem ou:∀W:List (Str×Mx.D),uD (aa (W.map bT))=some (W.map λp=>(p.1,ofD p.2))
 | []=>rfl
 | p::W=>by
  rw[QY,aa,uD,ou W];have e:wC (ofD (bT p))=some (p.1,ofD p.2):=by simp[bT,ofD,aa,wC]
  rw[e];rfl
theorem rW {W:List (Str×Mx.D)} (h:(W.map (·.1)).Nodup):ei .dict [bf W]= .ok (fg W):=by
 have Lq:ag (decide ((W.map λp=>(p.1,ofD p.2)).map (·.1)).Nodup) (R.ok (Dt.obj ((W.map λp=>(p.1,ofD p.2)).map (·.1)) ((W.map λp=>(p.1,ofD p.2)).map (·.2))))= .ok (fg W):=by
  have e1:(W.map λp=>(p.1,ofD p.2)).map (·.1)=W.map (·.1):=by rw[List.map_map];rfl
  have e2:(W.map λp=>(p.1,ofD p.2)).map (·.2)=W.map λp=>ofD p.2:=by rw[List.map_map];rfl
  rw[e1,e2,QJ h];rfl
 show ei .dict [.tup (aa (W.map bT))]=_;unfold ei;simp only[ou];exact Lq
theorem wJ {F:FT} {ρ:aj} {S S1 S2 S3:Sx} {o k e:C} {W:List (Str×Mx.D)} {x:Str} (h1:ev F o ρ S= .ok (fg W,S1)) (h2:ev F k ρ S1= .ok (.str x,S2)) (h3:ev F e ρ S2= .ok (ofD (je x),S3)):ev F (.gtO o k e) ρ S= .ok (ofD (et W x),S3):=by rw[ev,h1,R.ai];show ((ev F k ρ S1).bind _)=_;rw[h2,R.ai,h3,R.ai,Al];rfl
noncomputable def qk:C:=(.comp [none,none,none,some 4] (.seq (.var 5)) (.tp [1,2]) .nil (.tup (.cons (.var 1) (.cons (.bin .Mult (.var 3) (.var 2)) .nil))))
noncomputable def qj (il:Nat):C:=(.bi .tuple (.cons (.comp [none,none,some 1] (.seq (.idx (.var 3) (.con (.int 2)))) (.nm 1) .nil (.call il (.cons (.var 1) (.cons (.var 2) .nil)) [])) .nil))
noncomputable def qi (il:Nat):Ts:=(.cons (.asg 5 (.tup (.cons (.tup (.cons (.var 3) (.cons (.con (.int 1)) .nil))) .nil))) (.cons (.ifs (.cmp .Eq (.idx (.var 3) (.con (.int 0))) (.con (.str "any"))) (.cons (.asg 5 (.gtO (.var 1) (.idx (.var 3) (.con (.int 1))) (.var 5))) .nil) (.cons (.asg 6 (.tup (.cons (.con (.str "of")) (.cons (.idx (.var 3) (.con (.int 1))) (.cons (qj il) .nil))))) (.cons (.asg 5 (.tup (.cons (.tup (.cons (.var 6) (.cons (.con (.int 1)) .nil))) .nil))) .nil))) (.cons (.asg 2 (.bin .Add (.var 2) qk)) .nil)))
noncomputable def vV (il ig:Nat):Ts:=(.cons (.asg 2 (.lst .nil)) (.cons (.fr (.tp [3,4]) (.seq (.var 0)) (qi il)) (.cons (.ret (.call ig (.cons (.var 2) .nil) [])) .nil)))
theorem tP {il ig:Nat} (hg:fs[ig]?=some ⟨1,4,false,CI IK⟩) (hf:fs[il]?=some ⟨2,7,false,vV il ig⟩) {W:List (Str×Mx.D)} {m:Nat} (hW:∀p∈W,c7 200 Pos m p.2) (hm:1<=m) (Aw:m<=8):∀(n:Nat) {N:Nat} {d:Mx.D},n<=8->n + 2<=N->c7 200 kW n d->
  az fs N il [ofD d,fg W] none= .ok (ofD (putL W n d),none)
 | 0,_,_,_,_,h=>h.elim
 | n + 1,N,d,hn,hN,hd=>by
  have iV:lim=1000000:=rfl;have ih:=λ(d:Mx.D) (h:c7 200 kW n d)=>tP hg hf hW hm Aw n (N:=N - 1) (d:=d) (by lia) (by lia) h
  obtain⟨rs,e,hl,hr⟩:=hd;subst e;obtain⟨p1,p2⟩:=m9 hW hm (n:=n) (λd h=>jh hW hm h) hl hr;have loop:=bU (S:=none) (tg:= .tp [3,4]) (body:=aP (az fs (N - 1)) (qi il)) (ds:=aa rs)
   (ρ:=[some (.tup (aa rs)),some (fg W),some (.lst []),none,none,none,none])
   (λpre ρ=>∃p a b c d,pre=aa p/\ρ=[some (.tup (aa rs)),some (fg W),some (.lst (aa (p.flatMap λr=>mulR (dO r) (b7 (putL W n) W (a6 r))))),a,b,c,d]) ⟨[],none,none,none,none,rfl,rfl⟩ (by
    rintro pre x post ρ e ⟨p,a,b,c5,c6,rfl,rfl⟩;obtain⟨p',y,q,e1,e2,rfl,rfl⟩:=dw e;have:=congrArg dz e2;rw[aQ,aQ] at this;cases this;have hy:y∈rs:=by rw[e1];simp
    obtain⟨i,c,rfl,hc,hi⟩:=hr y hy;obtain⟨s1,s2⟩:=ud hW hm (n:=n) (λd h=>jh hW hm h) hi;have fl:(p.flatMap λr=>mulR (dO r) (b7 (putL W n) W (a6 r))).length + (mulR c (b7 (putL W n) W i)).length<=40000:=by
     refine Qr ?_ p1;rw[e1,List.flatMap_append,List.flatMap_cons,Qw,Qw,aV,cK]
     lia
    generalize hp:(p.flatMap λr=>mulR (dO r) (b7 (putL W n) W (a6 r)))=acc at fl;have tail:∀(f:Mx.D) (x6:Option Dt),b7 (putL W n) W i=f->aP (az fs (N - 1)) (.cons (.asg 2 (.bin .Add (.var 2) qk)) .nil) [some (.tup (aa rs)),some (fg W),some (.lst (aa acc)),some (ofD i),some (.int c),some (ofD f),x6] none= .ok (.next,[some (.tup (aa rs)),some (fg W),some (.lst (aa (acc++mulR c f))),some (ofD i),some (.int c),some (ofD f),x6],none):=by intro f x6 hf';rw[hf'] at s1 s2 fl;obtain⟨fr,ef,PQ,NU⟩:=s1;subst ef;have dg:=cn (F:=az fs (N - 1)) (cap:=[none,none,none,some 4]) (it:= .seq (.var 5)) (tg:= .tp [1,2]) (cs:= .nil) (e:= .tup (.cons (.var 1) (.cons (.bin .Mult (.var 3) (.var 2)) .nil))) (ρ:=[some (.tup (aa rs)),some (fg W),some (.lst (aa acc)),some (ofD i),some (.int c),some (ofD (.tup fr)),x6]) (S:=none) (ds:=aa fr) (S1:=none) (by rw[aX];rfl) (by rw[ar];lia) rfl (oZ hc NU);refine bx (d:= .lst (aa (acc++mulR c (.tup fr)))) (S1:=none) ?_ rfl rfl;unfold qk;rw[ev];show ((ev (az fs (N - 1)) _ _ none).bind λy=>(p8 .Add (.lst (aa acc)) y.1).bind λd=>R.ok (d,y.2))=_;rw[dg,R.ai];show (ag (decide ((aa acc).length + (aa (mulR c (.tup fr))).length<=lim)) _).bind _=_;rw[QJ (by rw[ar,ar];lia),guard_true,aK];rfl
    suffices hh:∃x6,aP (az fs (N - 1)) (qi il) [some (.tup (aa rs)),some (fg W),some (.lst (aa acc)),some (ofD i),some (.int c),c5,c6] none= .ok (.next,[some (.tup (aa rs)),some (fg W),some (.lst (aa (acc++mulR c (b7 (putL W n) W i)))),some (ofD i),some (.int c),some (ofD (b7 (putL W n) W i)),x6],none) by obtain⟨x6,hh⟩:=hh;refine⟨_,_,fY i c,hh,p++[row i c],some (ofD i),some (.int c),some (ofD (b7 (putL W n) W i)),x6,by rw[aK];simp[aa],?_⟩;rw[List.flatMap_append,hp];simp[aV,cK]
    rcases hi with ⟨z,rfl⟩ | ⟨z,ps,rfl,lJ,Az⟩
    ·refine⟨c6,?_⟩;have t:=tail (et W z) c6 rfl;rw[nQ] at t ⊢;refine bx (d:=ofD (je z)) (S1:=none) (by rw[qJ];simp only[RX]) (by unfold bR;rw[bQ,Bool.or_true]) (qR (S1:=none) (by simp only[RX];rfl) (bx (d:=ofD (et W z)) (S1:=none) (wJ (S1:=none) (S2:=none) (S3:=none) rfl (by simp only[RX]) rfl) (by unfold bR;rw[bQ,Bool.or_true]) t))
    ·refine⟨some (ofD (ofT z (ps.map (putL W n)))),?_⟩;have t:=tail _ (some (ofD (ofT z (ps.map (putL W n))))) (kP (putL W n) W z ps);rw[kP];have GV:bh (bB (.nm 1) (cC (az fs (N - 1)) .nil) (cF (az fs (N - 1)) (.call il (.cons (.var 1) (.cons (.var 2) .nil)) [])) [none,none,some (fg W)]) (aa ps) none= .ok (ps.map λp=>ofD (putL W n p),none):=df λp lg=>by have:=ih p (Az p lg);exact bY (ρ1:=[none,some (ofD p),some (fg W)]) rfl (by simp only[RX,this]) rfl
     have ee:(ps.map λp=>ofD (putL W n p))=aa (ps.map (putL W n)):=by rw[br,List.map_map];rfl
     rw[mY] at t ⊢;have zu:ev (az fs (N - 1)) (.idx (.var 3) (.con (.int 2))) [some (.tup (aa rs)),some (fg W),some (.lst (aa acc)),some (.tup [.str "of",.str z,.tup (aa ps)]),some (.int c),some (.tup [.tup [.tup [.str "of",.str z,.tup (aa ps)],.int 1]]),c6] none= .ok (.tup (aa ps),none):=by simp only[RX]
     have dg:=cn (cap:=[none,none,some 1]) (gA zu rfl) (by rw[ar];lia) (fO zu (by simp only[iJ];exact eD _)) GV;have hC:ev (az fs (N - 1)) (qj il) [some (.tup (aa rs)),some (fg W),some (.lst (aa acc)),some (.tup [.str "of",.str z,.tup (aa ps)]),some (.int c),some (.tup [.tup [.tup [.str "of",.str z,.tup (aa ps)],.int 1]]),c6] none= .ok (.tup (aa (ps.map (putL W n))),none):=by unfold qj;rw[dF,dg,R.ai,ee];rfl
     refine bx (d:= .tup [.tup [.tup [.str "of",.str z,.tup (aa ps)],.int 1]]) (S1:=none) (by simp only[RX]) rfl (kz (S1:=none) (by simp only[RX];rfl) (bx (d:=ofD (ofT z (ps.map (putL W n)))) (S1:=none) (by simp only[RX,hC,mY]) (by unfold bR;rw[bQ,Bool.or_true]) (bx (d:=ofD (.tup [row (ofT z (ps.map (putL W n))) 1])) (S1:=none) (by simp only[RX,aX,aa,dC]) (by unfold bR;rw[bQ,Bool.or_true]) t))))
  obtain⟨ρ1,bM,p,a,b,c,d,e1,rfl⟩:=loop;have:=congrArg dz e1;rw[aQ,aQ] at this;cases this;have OA:=wZ hg (N:=N - 1) (by lia) (n:=n + m) (by lia) (L:=40000) (P:=Pos) (ms:=rs.flatMap λr=>mulR (dO r) (b7 (putL W n) W (a6 r))) (by lia) (λq hq=>(p2 q hq).1) λrs x y z h=>IR rs x y z h
  refine aF hf (by lia) rfl ?_;show fin (aP (az fs (N - 1)) (vV il ig) [some (ofD (.tup rs)),some (fg W),none,none,none,none,none] none)=_;rw[aX];refine aJ (d:= .lst []) (S1:=none) rfl rfl (bF (ds:=aa rs) (S1:=none) rfl rfl bM (aq ?_));simp only[RX,OA];rw[putL,aX];rfl
variable {fs:List Fn}
noncomputable abbrev P3 (c:Int):Prop:=0 < c/\c<=3
noncomputable def jw (P:Int->Prop):Nat->Mx.D->Prop
 | 0,_=>False
 | n + 1,d=>∃rs,d= .tup rs/\rs.length<=5/\Up rs/\∀r∈rs,eY 3 P (jw P n) r
theorem jw.N {P:Int->Prop}:∀{n:Nat} {d:Mx.D},jw P n d->c7 5 P n d
 | 0,_,h=>h.elim
 | n + 1,d,⟨rs,e,h1,_,h2⟩=>⟨rs,e,h1,λr hr=>by
  obtain⟨it,c,e,h3,h4⟩:=h2 r hr;exact⟨it,c,e,h3,h4.imp (by decide) λp hp=>hp.N⟩⟩
theorem jw.mono {P P':Int->Prop} (h:∀c,P c->P' c):∀{n:Nat} {d:Mx.D},jw P n d->jw P' n d
 | 0,_,h=>h.elim
 | n + 1,d,⟨rs,e,h1,h0,h2⟩=>⟨rs,e,h1,h0,λr hr=>by
  obtain⟨it,c,e,h3,h4⟩:=h2 r hr;exact⟨it,c,e,h c h3,h4.imp (Ql _) λp hp=>hp.mono h⟩⟩
theorem tS {P:Int->Prop}:∀{n:Nat} {d:Mx.D},jw P n d->putL [] n d=d
 | 0,_,h=>h.elim
 | n + 1,d,⟨rs,e,h1,h0,h2⟩=>by
  subst e;rw[putL];have hs:∀r∈rs,∃i k,r=row i k:=λr hr=>by obtain⟨it,c,e,_⟩:=h2 r hr;exact⟨it,c,e⟩
  have fl:∀l:List Mx.D,(∀r∈l,r∈rs)->(l.flatMap λr=>mulR (dO r) (b7 (putL [] n) [] (a6 r)))=l:=by
   intro l
   induction l with
   | nil=>intro _;rfl
   | cons r l ih=>
    intro h;rw[List.flatMap_cons,ih λq hq=>h q (Qj _ hq)];obtain⟨it,c,rfl,_,hi⟩:=h2 r (h r Qm);rw[aV,cK];have:mulR c (b7 (putL [] n) [] it)=[row it c]:=by
     rcases hi with ⟨x,rfl⟩ | ⟨x,ps,rfl,_,hp⟩
     ·show [row (c8 x) (c * 1)]=_;rw[Int.mul_one]
     ·have em:ps.map (putL [] n)=ps:=by
       have:∀l:List Mx.D,(∀p∈l,jw P n p)->l.map (putL [] n)=l:=by
        intro l
        induction l with
        | nil=>intro _;rfl
        | cons p l ih=>intro h;rw[QY,tS (h p Qm),ih λq hq=>h q (Qj _ hq)]
       exact this ps hp
      show [row (ofT x (ps.map (putL [] n))) (c * 1)]=_;rw[em,Int.mul_one]
    rw[this];rfl
  rw[show eW (.tup rs)=rs from rfl,fl rs λr h=>h,h0.Kw hs]
noncomputable def vi:Nat->Int
 | 0=>0
 | n + 1=>5 * (1 + 3 * vi n)
theorem rA {k:Int} (hk:0<=k):∀{l:List Int},(∀x∈l,x<=k)->l.sum<=l.length * k
 | [],_=>by simp
 | x::l,h=>by
  have h1:=h x Qm;have h2:=rA hk λy hy=>h y (Qj _ hy)
  rw[List.sum_cons,Qy];have:((l.length + 1:Nat):Int) * k=l.length * k + k:=by rw[Int.natCast_add,Int.add_mul];simp
  rw[this]
  lia
theorem yL:∀n,0<=vi n
 | 0=>by simp[vi]
 | n + 1=>by have:=yL n;simp only[vi];lia
theorem Cm {P:Int->Prop}:∀{n:Nat} {d:Mx.D},jw P n d->cV n d<=vi n
 | 0,_,h=>h.elim
 | n + 1,d,⟨rs,e,h1,_,h2⟩=>by
  subst e;have hb:=yL n;have:=rA (k:=1 + 3 * vi n) (by lia) (l:=rs.map λr=>1 + ((aA (a6 r)).map (cV n)).sum) (λx hx=>by
   obtain⟨r,hr,rfl⟩:=QP.mp hx;obtain⟨it,c,rfl,_,hi⟩:=h2 r hr;obtain⟨p1,p2⟩:=fS hi;have:=rA (k:=vi n) hb (l:=(aA it).map (cV n)) λx hx=>by obtain⟨p,hp,rfl⟩:=QP.mp hx;exact Cm (p2 p hp)
   rw[Qp] at this;have h3:((aA it).length:Int) * vi n<=3 * vi n:=Int.mul_le_mul_of_nonneg_right (by lia) hb;rw[aV]
   lia)
  rw[Qp] at this;have h3:(rs.length:Int) * (1 + 3 * vi n)<=5 * (1 + 3 * vi n):=Int.mul_le_mul_of_nonneg_right (by lia) (by lia);show (rs.map λr=>1 + ((aA (a6 r)).map (cV n)).sum).sum<=_;simp only[vi]
  lia
theorem tu {ip ix ig im:Nat} (hp:ju fs ip) (hx:fs[ix]?=some ⟨2,2,false,rT⟩) (hg:fs[ig]?=some ⟨1,4,false,CI IK⟩) (hf:fs[im]?=some ⟨6,14,false,CJ ip ix ig im⟩) {ns:List Int} {a b c a' b' c':Str}:
  ∀(deep:Nat),deep<=6->∀{N k most:Nat},deep + 3<=N->k < 1000000->most<=5->∃rs,az fs N im [.bc ns,.int k,.int deep,.lst [.str a,.str b,.str c],.lst [.str a',.str b',.str c'],.int most] none= .ok (.tup (aa rs),none)/\jw P3 (deep + 1) (.tup rs):=λdeep=>by
  induction deep using Nat.strongRecOn with | _ deep ih=>?_
  intro hdp N k most hN hk hmost;have iV:lim=1000000:=rfl;generalize lI:Dt.lst [.str a,.str b,.str c]=nm;generalize hsg:Dt.lst [.str a',.str b',.str c']=sg;have P:=λ(k many:Nat) (h1:k < 1000000) (h2:0 < many)=>fT hp (n:=N - 1) (by lia) (ns:=ns) h1 h2
  have gZ:=cy (ns:=ns) (k:=k) (many:=most + 1) (by lia);have loop:=bU (S:=none) (tg:= .nm 7) (ds:=a9 0 (aZ ns k (most + 1))) (ρ:=[some (.bc ns),some (.int k),some (.int deep),some nm,some sg,some (.int most),some (.lst []),none,none,none,none,none,none,none])
   (body:=aP (az fs (N - 1)) (BN ip ix im))
   (λpre ρ=>∃ms x7 x8 x9 Fi Fj zD zE,ms.length=pre.length/\(∀m∈ms,eY 3 Pos (jw P3 deep) m)/\ρ=[some (.bc ns),some (.int k),some (.int deep),some nm,some sg,some (.int most),some (.lst (aa ms)),x7,x8,x9,Fi,Fj,zD,zE])
   ⟨[],none,none,none,none,none,none,none,rfl,by simp,by simp[aa]⟩ (by
    rintro pre x post ρ e ⟨ms,x7,x8,x9,Fi,Fj,zD,zE,B2,hr,rfl⟩;obtain⟨h1,rfl⟩:=d5 e;have HC:=mW hx (n:=N - 1) (by lia) (k:=k) (j:=pre.length);have Pi:=kr (k:=k) (j:=pre.length);generalize ir k pre.length=at' at HC Pi;have p0:=P at' 4 (by lia) (by decide);have p1:=P (at' + 1) 3 (by lia) (by decide);have l1:=cy (ns:=ns) (k:=at' + 1) (many:=3) (by decide);have p2:=P (at' + 2) 3 (by lia) (by decide);have l2:=cy (ns:=ns) (k:=at' + 2) (many:=3) (by decide);have p3:=P (at' + 3) 4 (by lia) (by decide);generalize aZ ns at' 4=kd at p0;generalize aZ ns (at' + 1) 3=v1 at p1 l1;generalize aZ ns (at' + 2) 3=v2 at p2 l2;generalize aZ ns (at' + 3) 4=v3 at p3;have q0:az fs (N - 1) ip [.bc ns,.int at',.int 4] none= .ok (.int kd,none):=p0;have q1:az fs (N - 1) ip [.bc ns,.int ((at':Int) + 1),.int 3] none= .ok (.int v1,none):=p1;have q2:az fs (N - 1) ip [.bc ns,.int ((at':Int) + 2),.int 3] none= .ok (.int v2,none):=p2;have q3:az fs (N - 1) ip [.bc ns,.int ((at':Int) + 3),.int 4] none= .ok (.int v3,none):=p3;obtain⟨vE,qG⟩:=pK (a:=a') (b:=b') (c:=c') l1;obtain⟨LB,AA⟩:=pK (a:=a) (b:=b) (c:=c) l1;rw[hsg] at qG;rw[lI] at AA;have ln:ei .len [nm]= .ok (.int 3):=by rw[<-lI];rfl
    have fd:=qW (i:=v3) (j:=3) (by decide) (by decide);have tl:∀(it:Mx.D) (Fy Fz:Option Dt),iL 3 (jw P3 deep) it->∃ρ2,aP (az fs (N - 1)) (vT ip) [some (.bc ns),some (.int k),some (.int deep),some nm,some sg,some (.int most),some (.lst (aa ms)),some (.int pre.length),some (.int at'),some (.int kd),some (.str vE),some (ofD it),Fy,Fz] none= .ok (.next,ρ2,none)/\
      ∃ms x7 x8 x9 Fi Fj zD zE,ms.length=(pre++[Dt.int pre.length]).length/\(∀m∈ms,eY 3 Pos (jw P3 deep) m)/\ρ2=[some (.bc ns),some (.int k),some (.int deep),some nm,some sg,some (.int most),some (.lst (aa ms)),x7,x8,x9,Fi,Fj,zD,zE]:=by
     intro it Fy Fz hi;refine⟨_,i5 (ds:=aa ms) (d:= .tup [ofD it,.int (1 + v3 / 3)]) (S1:=none) rfl (by simp only[RX,q3,fd]) rfl (by rw[ar];lia) rfl,ms++[.tup [it,.int (1 + v3 / 3)]],some (.int pre.length),some (.int at'),some (.int kd),some (.str vE),some (ofD it),Fy,Fz,by simp[B2],λm hm=>?_,?_⟩
     ·rcases QC.mp hm with hm | hm
      ·exact hr m hm
      ·rw[QO] at hm;subst hm;exact⟨it,_,rfl,by show (0:Int) < 1 + v3 / 3;lia,hi⟩
     ·rw[aK];simp[ofD,aa]
    suffices hh:∃it Fy Fz,iL 3 (jw P3 deep) it/\∀r,aP (az fs (N - 1)) (vT ip) [some (.bc ns),some (.int k),some (.int deep),some nm,some sg,some (.int most),some (.lst (aa ms)),some (.int pre.length),some (.int at'),some (.int kd),some (.str vE),some (ofD it),Fy,Fz] none=r->
      aP (az fs (N - 1)) (BO ip ix im) [some (.bc ns),some (.int k),some (.int deep),some nm,some sg,some (.int most),some (.lst (aa ms)),some (.int pre.length),some (.int at'),some (.int kd),some (.str vE),some (.tup [.str "of",.str vE,.tup []]),zD,zE] none=r by
     obtain⟨it,Fy,Fz,hi,hh⟩:=hh;obtain⟨ρ2,t1,t2⟩:=tl it Fy Fz hi;exact⟨[some (.bc ns),some (.int k),some (.int deep),some nm,some sg,some (.int most),some (.lst (aa ms)),some (.int pre.length),x8,x9,Fi,Fj,zD,zE],ρ2,rfl,bx (d:= .int at') (S1:=none) (by simp only[RX,HC]) rfl (bx (d:= .int kd) (S1:=none) (by simp only[RX,q0]) rfl (bx (d:= .str vE) (S1:=none) (by simp only[RX,q1,qG]) rfl (bx (d:= .tup [.str "of",.str vE,.tup []]) (S1:=none) (by simp only[RX]) rfl (hh _ t1)))),t2⟩
    by_cases c1:(kd:Int) < 2
    ·refine⟨c8 LB,zD,zE,.inl ⟨LB,rfl⟩,λr eU=>?_⟩;refine qR (S1:=none) (by simp only[RX,ln,QJ c1,if_true];rfl) (bx (d:=ofD (c8 LB)) (S1:=none) (by simp only[RX,ln,q1,AA];simp[c8,ofD,aa]) rfl eU)
    ·by_cases c2:(kd:Int)=3/\(0:Int) < deep
     ·have KS:1<=deep:=by lia
      have e1:((1 + v2:Nat):Int)=1 + (v2:Int):=by lia
      obtain⟨qs,k1,k2,k3⟩:=og (f:=bB (.nm 1) (cC (az fs (N - 1)) .nil) (cF (az fs (N - 1)) (vS ix im)) [none,none,some (.int at'),some (.int deep),some nm,some (.bc ns),some sg]) (S:=none) (ds:=a9 0 (1 + v2)) (jw P3 deep) (by
       intro x nI;obtain⟨i,hi,rfl⟩:=Br nI;have LH:=mW hx (n:=N - 1) (by lia) (k:=at') (j:=5 + i);have P7:=kr (k:=at') (j:=5 + i);obtain⟨rs,r1,r2⟩:=ih (deep - 1) (by lia) (by lia) (N:=N - 1) (k:=ir at' (5 + i)) (most:=2) (by lia) (by lia) (by lia);rw[lI,hsg] at r1;refine⟨.tup rs,bY (ρ1:=[none,some (.int i),some (.int at'),some (.int deep),some nm,some (.bc ns),some sg]) rfl ?_ rfl,by rw[show deep=deep - 1 + 1 by lia];exact r2⟩;have Pj:az fs (N - 1) ix [.int at',.int (5 + (i:Int))] none= .ok (.int (ir at' (5 + i)),none):=LH;have r3:az fs (N - 1) im [.bc ns,.int (ir at' (5 + i)),.int ((deep:Int) - 1),nm,sg,.int 2] none= .ok (.tup (aa rs),none):=by rw[show (deep:Int) - 1=((deep - 1:Nat):Int) by lia];exact r1
       simp only[vS,RX,Pj,r3,ofD])
      refine⟨ofT vE qs,some (.int (1 + v2)),some (.lst (aa qs)),.inr ⟨vE,qs,rfl,by rw[k2];simp[a9];lia,k3⟩,λr eU=>?_⟩;refine kz (S1:=none) (by simp only[RX,QF c1];rfl) (qR (S1:=none) (by simp only[RX,c2.1,QJ c2.2];rfl) ?_);refine bx (d:= .int (1 + v2)) (S1:=none) (by simp only[RX,q2]) rfl (bx (d:= .lst (aa qs)) (S1:=none) (cn (ds:=a9 0 (1 + v2)) (S1:=none) (ey (n:=1 + v2) (by simp only[RX];rw[<-e1]) (by lia)) (by simp[a9];lia) rfl k1) rfl ?_);exact bx (d:=ofD (ofT vE qs)) (S1:=none) (by simp only[RX];simp[ofT,ofD,aa]) rfl eU
     ·refine⟨ofT vE [],zD,zE,.inr ⟨vE,[],rfl,by simp,by simp⟩,λr eU=>?_⟩;have c3:(((kd:Int)==3)&&decide ((0:Int) < deep))=false:=by
       cases h:((kd:Int)==3) with
       | false=>rfl
       | true=>have:=QD h;rw[Bool.true_and];exact QF λz=>c2 ⟨this,z⟩
      refine kz (S1:=none) (by simp only[RX,QF c1];rfl) (kz (S1:=none) ?_ ?_)
      ·simp only[RX];cases h:((kd:Int)==3) with
       | false=>rfl
       | true=>rw[h,Bool.true_and] at c3;rw[if_pos rfl,c3]
      ·exact eU)
  obtain⟨ρ1,bM,ms,x7,x8,x9,Fi,Fj,zD,zE,B2,hr,rfl⟩:=loop;have P0:ms.length<=most:=by rw[B2];simp[a9];lia
  have JB:∀q∈ms,eY 200 Pos (c7 200 Pos deep) q:=λq hq=>by obtain⟨it,c,e,h1,h2⟩:=hr q hq;exact⟨it,c,e,h1,h2.imp (by decide) λp hp=>hp.N.mono (by decide) (λc h=>h.1) (Ql _)⟩
  have g1:=wZ hg (N:=N - 1) (by lia) (n:=deep) (by lia) (ms:=ms) (by lia) JB λrs x y z h=>IR rs x y z h
  have K7:∀r∈ms,eY 3 Pos (jw P3 deep) r/\∃i k,r=row i k/\0 < k:=λr h=>by obtain⟨it,c,e,h1,h2⟩:=hr r h;exact⟨⟨it,c,e,h1,h2⟩,it,c,e,h1⟩
  have g3:=lG (S:=eY 3 Pos (jw P3 deep)) (λit c d ⟨i,k,e,h1,h2⟩ hc hd=>⟨it,c + d,rfl,by show 0 < c + d;lia,by
   have:=congrArg a6 e;rw[aV,aV] at this;rw[this];exact h2⟩) K7
  have gl:=oB ms;have gu:=Ak (ms:=ms) λr h=>by obtain⟨it,c,e,_⟩:=hr r h;exact⟨it,c,e⟩
  generalize cu ms=rs at g1 g3 gl gu;have oI:ev (az fs (N - 1)) (.call ig (.cons (.mvr 6) .nil) []) [some (.bc ns),some (.int k),some (.int deep),some nm,some sg,some (.int most),some (.lst (aa ms)),x7,x8,x9,Fi,Fj,zD,zE] none= .ok (.tup (aa rs),none):=by simp only[RX,g1]
  have k1:bh (bB (.tp [1,2]) (cC (az fs (N - 1)) .nil) (cF (az fs (N - 1)) (.tup (.cons (.var 1) (.cons (.bi .min2 (.cons (.con (.int 3)) (.cons (.var 2) .nil))) .nil)))) [none,none,none]) (aa rs) none= .ok (rs.map λr=>ofD (row (a6 r) (if dO r < 3 then dO r else 3)),none):=df λr h=>by obtain⟨_,it,c,rfl,_⟩:=g3 r h;exact bY (ρ1:=[none,some (ofD it),some (.int c)]) (by rw[fY];rfl) (by simp only[RX,dC,aV,cK];rfl) rfl
  have eq:(rs.map λr=>ofD (row (a6 r) (if dO r < 3 then dO r else 3)))=aa (rs.map λr=>row (a6 r) (if dO r < 3 then dO r else 3)):=by rw[br,List.map_map];rfl
  rw[eq] at k1;refine⟨rs.map λr=>row (a6 r) (if dO r < 3 then dO r else 3),aF hf (by lia) rfl ?_,_,rfl,by rw[Qp];lia,?_,λr h=>?_⟩
  ·show fin (aP (az fs (N - 1)) (CJ ip ix ig im) [some (.bc ns),some (.int k),some (.int deep),some nm,some sg,some (.int most),none,none,none,none,none,none,none,none] none)=_;refine dS (d:= .lst []) (S1:=none) rfl rfl (bF (ds:=a9 0 (aZ ns k (most + 1))) (S1:=none) (ey (by simp only[RX];exact congrArg (R.bind · _) (P k (most + 1) (by lia) (by lia))) (by lia)) rfl bM (aq ?_));rw[dF,cn (ds:=aa rs) (S1:=none) (gA oI rfl) (by rw[ar];lia) (fO oI (bQ (.tup rs))) k1];rfl
  ·show ((rs.map _).map a6).Pairwise _;rw[List.map_map];exact gu
  ·obtain⟨q,hq,rfl⟩:=QP.mp h;obtain⟨⟨it,c,e,h1,h2⟩,_⟩:=g3 q hq;subst e;exact⟨it,_,rfl,by rw[cK];show 0 < (if c < 3 then c else 3)/\(if c < 3 then c else 3)<=3;have:0 < c:=h1;split <;> lia,h2⟩
theorem uL {ic ig:Nat} (hc:fs[ic]?=some ⟨2,3,false,nW⟩) (hf:fs[ig]?=some ⟨3,5,false,qg ic⟩) {N k n:Nat} (hN:2<=N) (hk:k < 100000) {ns:List Int} {rs:List Mx.D} (h:jw P3 n (.tup rs)):∃qs,az fs N ig [.bc ns,.int k,.tup (aa rs)] none= .ok (.tup (aa qs),none)/\jw kW n (.tup qs):=by
 have iV:lim=1000000:=rfl;obtain⟨n,rfl⟩:∃m,n=m + 1:=by cases n with | zero=>exact h.elim | succ m=>exact⟨m,rfl⟩
 obtain⟨P9,e,hl,Lb,hr⟩:=h;cases e;have loop:=bU (S:=none) (tg:= .nm 4) (ds:=a9 0 rs.length) (ρ:=[some (.bc ns),some (.int k),some (.tup (aa rs)),some (.lst []),none])
  (body:=aP (az fs (N - 1)) (rQ ic))
  (λpre ρ=>∃ms x,ms.length=pre.length/\(∀m∈ms,eY 3 kW (jw P3 n) m)/\ms.map a6=(rs.take pre.length).map a6/\ρ=[some (.bc ns),some (.int k),some (.tup (aa rs)),some (.lst (aa ms)),x]) ⟨[],none,rfl,by simp,by simp,by simp[aa]⟩ (by
   rintro pre x post ρ e ⟨ms,x,B2,hm,hit,rfl⟩;obtain⟨h1,rfl⟩:=d5 e;obtain⟨it,c,e1,MX,hi⟩:=hr rs[pre.length] (List.getElem_mem h1);have mH:=(Dw (ds:=aa rs) (k:=pre.length) (d:= .tup [ofD it,.int c]) (by rw[br,Qz,QE h1,e1];simp[row,ofD,aa])).1;have B0:=rZ hc (n:=N - 1) (by lia) (ns:=ns) (k:=k + pre.length) (by lia);generalize gU ns (k + pre.length)=y at B0;have KR:az fs (N - 1) ic [.bc ns,.int ((k:Int) + pre.length)] none= .ok (.int y,none):=B0;have pw:p8 .Pow (.int 10) (.int 8)= .ok (.int 100000000):=rfl;have m1:=cU (i:=y) (j:=100000000) (by decide);have r1:=QS y (b:=100000000) (by decide);have r2:=QT y (b:=100000000) (by decide);have m2:=bo (i:=c) (j:=1 + y % 100000000) (.inr (by lia));have K4:kW (c * (1 + y % 100000000)):=by
    have h3:0 < c:=MX.1;have h4:c<=3:=MX.2;refine⟨Int.mul_pos h3 (by lia),?_⟩;have:=Int.mul_le_mul_of_nonneg_right h4 (show 0<=1 + y % 100000000 by lia)
    lia
   refine⟨_,_,rfl,i5 (ds:=aa ms) (d:= .tup [ofD it,.int (c * (1 + y % 100000000))]) (S1:=none) rfl (by simp only[RX,mH,KR,pw,m1,m2]) rfl (by rw[ar];lia) rfl,ms++[.tup [it,.int (c * (1 + y % 100000000))]],some (.int pre.length),by simp[B2],λm hm'=>?_,?_,?_⟩
   ·rcases QC.mp hm' with hm' | hm'
    ·exact hm m hm'
    ·rw[QO] at hm';subst hm';exact⟨it,_,rfl,K4,hi⟩
   ·rw[QZ,hit,Qw,List.length_singleton,List.take_add_one,QZ,QE h1,e1];rfl
   ·rw[aK];simp[ofD,aa])
 obtain⟨ρ1,bM,ms,x,B2,hm,hit,rfl⟩:=loop;have OL:(a9 0 rs.length).length=rs.length:=by simp[a9]
 rw[OL,List.take_length] at hit;refine⟨ms,aF hf (by lia) rfl ?_,ms,rfl,by lia,by unfold Up;rw[hit];exact Lb,λr h=>?_⟩
 rotate_left
 ·obtain⟨it,c,e,h1,h2⟩:=hm r h;exact⟨it,c,e,h1,h2.imp (Ql _) λp hp=>hp.mono λc z=>⟨z.1,by have:c<=3:=z.2;lia⟩⟩
 show fin (aP (az fs (N - 1)) (qg ic) [some (.bc ns),some (.int k),some (.tup (aa rs)),none,none] none)=_;exact dS (d:= .lst []) (S1:=none) rfl rfl (bF (ds:=a9 0 rs.length) (S1:=none) (ey (n:=rs.length) (by simp only[RX,ar]) (by lia)) rfl bM (aq (by simp only[RX])))
end Rx
end
section
namespace Rx
open PySem PySem.W PySem.Spec PyProof.Rows L2 PySem.SeqAt
theorem yE {fs:List Fn} {n k:Nat} {g:Fn} {args:List Dt} {S:Sx} (h:fs[k]?=some g):az fs (n + 1) k args S=gp (az fs n) g args S:=by show (match fs[k]? with | some g=>gp (az fs n) g args S | none=>R.bad)=_;rw[h]
section
variable {g:G} {K:Frag} {mg:Str->Option Value} {P:Program} {w:World} {base:Heap} {fs:List Fn}
theorem qM {n L m:Nat} {params:Arguments} {body:List Stmt} {scope:Scope} {dV kV doc pm fj ct oc:Value} {an od:Option Addr} {tB:Array (Option Value)} {f:Addr} {N ps:List Str} {M:List Bool} {δ κ:Option Nat} {fF:Bool} {ts:Ts}
  {xv:Nat->Value} (hm:MG g mg) (AD:XG g K mg xv) (ok:nM g K mg 0 g.fns fs) (lk:K.lookup f=some ⟨oc,od,.func (PySem.W.fnOf "law" "law" params body scope dV kV doc pm an fj ct),tB⟩) (vz:PySem.W.codeIn K fj "law"=true) (S:eg N ps scope)
  (hM:∀i,i < ps.length->M[i]?≠some true) (hp:ps.length=1) (hc:CT m g ⟨scope.names,N,M,δ,κ⟩ false fF body=some ts) (hf:fs[L]?=some ⟨1,N.length,false,ts⟩)
  (hn:∀ns:List Int,ns.length<=63->∃S,az fs (n + 1) L [.bc ns] none= .ok (.bl true,S)):
  iK P w K mg base (nE P w) (n + 1) f (PySem.W.fnOf "law" "law" params body scope dV kV doc pm an fj ct) ps (t9 K):=by
 have h:=lF (xv:=xv) (P:=P) (w:=w) (base:=base) lk vz S hm AD (kE (P:=P) (w:=w) (base:=base) (xv:=xv) hm AD ok n) hM (λz=>by cases z) hc;refine h.imp λvs H Q E q=>?_
 obtain⟨a,ns,rfl,hs,hl,hq⟩:=q;obtain⟨S',hS⟩:=hn ns hl;rw[yE hf] at hS;rw[hp];refine⟨rfl,N0,none,[.bc ns],none,[.ref a],⟨rfl,rfl,rfl⟩,ao.cons ?_ ao.nil,λb z=>z.elim,?_⟩
 ·unfold RV;refine⟨a,rfl,?_⟩;rcases hs with hs | hs
  ·exact .inl ⟨hs,λz=>z⟩
  ·exact .inr hs
 ·rw[hS];intro v H' fo;rw[fo.val.ay];exact hq H'
end
theorem walkR {l:PySem.W.OpenLaw} {q:Program} {k:Nat} {loose:List Str} {XP:(Str->Option Value)->Heap->Prop} {YP:World->Heap->Prop} {d:DefRec} {K:Params->PySem.W.Frag} (hn:l.most=some 63) (G1:d.params.defaults=[]) (hr:gP k callerA)
  (hY:∀(w:World) (h:Heap),YP w h->(K w.params).In h)
  (F:∀(w:World) (mg:Str->Option Value) (fa:Addr) (h:Heap),(K w.params).In h->h.Ns mainGlobals mg->mg d.name=some (.ref fa)->
   ∃fd:FuncData,(∀(s:Shared) (u:Value),BindsTo s fd ⟨[u],[]⟩ [("_law_script",u)])/\∀base:Heap,(K w.params).In base->base.Ns mainGlobals mg->iK l.prog w (K w.params) mg base (nE l.prog w) k fa fd ["_law_script"] (t9 (K w.params))):
  PySem.W.WalkO q loose XP YP l.row.toRowW d [] (λf vs=>PySem.call f vs):=
 L2.BH (n:=63) (k:=k) (x:="_law_script") (CX:=λw=>nE l.prog w) (sp:=λw=>t9 (K w.params)) hn (by decide) G1 hr hY F (λ_ _ a ns hl _ hS=>⟨a,ns,rfl,hS,hl,λ_=>rfl⟩) λ_ _ _ _ _ z=>by obtain⟨_,_,_,_,_,_,_,_,_,z⟩:=z;exact z
structure Row where
 nm:Str
 s:Stmt
 ps:List Str
 ms:List Str:=[]
 dr:Option Str:=none
 dp:Bool:=false
 fy:List Dt:=[]
 dk:Option Str:=none
namespace Row
noncomputable def N (r:Row):List Str:=Pf (bA r.s).names r.ps
noncomputable def gm (r:Row):Gm:=⟨(bA r.s).names,r.N,FQ r.N r.ms,if r.dp then some 0 else r.dr.bind (xI · r.N),r.dk.bind (xI · r.N)⟩
noncomputable def fn (g:G) (j:Nat) (r:Row):Option Fn:=(CT 60 g r.gm r.dp (g.fr j) (gV r.s)).map λts=>⟨r.ps.length,r.N.length,r.dp,ts⟩
noncomputable def ent (r:Row):Str×Nat×List Dt×Bool:=(r.nm,r.ps.length,r.fy,r.dp)
noncomputable def ok (r:Row):Bool:=
 ((bA r.s).kind== .function)&& !(bA r.s).isCoroutine&& !(bA r.s).isGenerator&&decide r.N.Nodup&&decide (r.N.take r.ps.length=r.ps)&&
 (r.ps.all λx=>(bA r.s).names.lookup x==some .local||(bA r.s).names.lookup x==some .cell)&&((bA r.s).names.all λy=>y.2 != .free)&&
 ((FQ r.N r.ms).take r.ps.length).all (λb=> !b)&&r.fy.all nK
theorem scope {r:Row} (h:r.ok=true):eg r.N r.ps (bA r.s)/\(∀i,i < r.ps.length->(FQ r.N r.ms)[i]?≠some true)/\r.fy.all nK=true:=by
 unfold ok at h;simp only[Qf] at h;obtain⟨⟨⟨⟨⟨⟨⟨⟨h1,h2⟩,h3⟩,h4⟩,h5⟩,h6⟩,h7⟩,h8⟩,h9⟩:=h;refine⟨⟨QD h1,by simpa using h2,by simpa using h3,Qh h4,Qh h5,λx hx=>?_,λy hy e=>?_⟩,Hv h8,h9⟩
 ·have:=QQ.mp h6 x hx;rcases Bool.or_eq_true_iff.mp this with z | z
  ·exact .inl (QD z)
  ·exact .inr (QD z)
 ·have:=QQ.mp h7 y hy;rw[e] at this;cases this
end Row
noncomputable def oA (g:G):Nat->List Row->Option (List Fn)
 | _,[]=>some []
 | j,r::rs=>(r.fn g j).bind λf=>(oA g (j + 1) rs).map (f:: ·)
noncomputable def Fd (K:Frag) (nm:Str) (s:Stmt) (ps:List Str) (fy:List Dt):Prop:=∃(fa:Addr) (oc dV kV doc pm fj ct:Value) (od an:Option Addr) (tB:Array (Option Value)),
 nsIn K mainGlobals nm=some (some (.ref fa))/\K.lookup fa=some ⟨oc,od,.func (fnOf nm nm (mh s) (gV s) (bA s) dV kV doc pm an fj ct),tB⟩/\codeIn K fj nm=true/\keepIn K (.ref fa)=true/\(fy=[]->dV= .none)/\
 ∀j,j<=fy.length->∃ds,aw ((fy.drop j).map p9) ds/\Binds K (fnOf nm nm (mh s) (gV s) (bA s) dV kV doc pm an fj ct) ps ds
noncomputable def Jf (K:Frag):List Row->Prop
 | []=>True
 | r::rs=>Fd K r.nm r.s r.ps r.fy/\Jf K rs
section
variable {g:G} {K:Frag} {mg:Str->Option Value} {h:Heap} {fs:List Fn}
theorem wV (X:K.In h) (Gs:h.Ns mainGlobals mg):∀{rs:List Row} {i:Nat} {fs:List Fn},rs.all Row.ok=true->oA g i rs=some fs->Jf K rs->nM g K mg i (rs.map Row.ent) fs
 | [],i,fs,_,e,_=>by cases e;trivial
 | r::rs,i,fs,hk,e,F=>by rw[List.all_cons,Qf] at hk;obtain⟨f,e1,e⟩:=Qc.mp e;obtain⟨Ku,e2,rfl⟩:=Qv.mp e;obtain⟨ts,c1,rfl⟩:=Qv.mp e1;obtain⟨⟨fa,oc,dV,kV,doc,pm,fj,ct,od,an,tB,a,l,c,k,_,b⟩,F⟩:=F;obtain⟨s1,s2,s3⟩:=Row.scope hk.1;exact⟨⟨fa,r.ps,r.N,_,_,_,60,oc,od,an,tB,_,_,_,dV,kV,doc,pm,fj,ct,l,c,k,mg_of X Gs a,s1,s2,λz=>if_pos z,rfl,c1,rfl,rfl,rfl,b,s3⟩,wV X Gs hk.2 e2 F⟩
theorem C4 {rs:List Row}:∀{L i:Nat} {fs:List Fn} {r:Row},oA g i rs=some fs->rs[L]?=some r->∃ts,CT 60 g r.gm r.dp (g.fr (i + L)) (gV r.s)=some ts/\fs[L]?=some ⟨r.ps.length,r.N.length,r.dp,ts⟩:=by
 induction rs with
 | nil=>intro L i fs r _ e;simp at e
 | cons r0 rs ih=>
  intro L i fs r e hr;obtain⟨f,e1,e⟩:=Qc.mp e;obtain⟨Ku,e2,rfl⟩:=Qv.mp e;cases L with
  | zero=>cases hr;obtain⟨ts,c1,rfl⟩:=Qv.mp e1;exact⟨ts,c1,rfl⟩
  | succ L=>obtain⟨ts,c1,c2⟩:=ih e2 (by simpa using hr);exact⟨ts,by rw[show i + (L + 1)=i + 1 + L by lia];exact c1,by simpa using c2⟩
theorem wL:∀{rs:List Row} {L:Nat} {r:Row},Jf K rs->rs[L]?=some r->Fd K r.nm r.s r.ps r.fy
 | [],L,r,_,e=>by simp at e
 | r0::rs,0,r,F,e=>by cases e;exact F.1
 | r0::rs,L + 1,r,F,e=>wL F.2 (by simpa using e)
noncomputable def J0 (K:Frag):List Str->Prop
 | []=>True
 | x::xs=>nsIn K mainGlobals x=some none/\J0 K xs
noncomputable def JV (K:Frag):List (Str×Dt)->Prop
 | []=>True
 | x::xs=>(∃u,nsIn K mainGlobals x.1=some (some u)/\nK x.2=true/\RelV (p9 x.2) u)/\JV K xs
theorem xX {x:Str}:∀{xs:List Str},J0 K xs->x∈xs->nsIn K mainGlobals x=some none
 | y::xs,h,hx=>by
  rcases Qs.mp hx with rfl | hx
  ·exact h.1
  ·exact xX h.2 hx
theorem wy {x:Str} {d:Dt}:∀{xs:List (Str×Dt)},JV K xs->xs.lookup x=some d->∃u,nsIn K mainGlobals x=some (some u)/\nK d=true/\RelV (p9 d) u
 | [],_,e=>by simp at e
 | y::xs,h,e=>by
  rw[QG] at e;split at e
  ·rename_i q;cases e;rw[QD q];exact h.1
  ·exact wy h.2 e
noncomputable def J5 (K:Frag) (C:Addr):List (Str×Bool)->Prop
 | []=>True
 | x::xs=>(∃c,(nsIn K mainGlobals x.1=some (some c)/\(∃D,c= .ref D)\/nsIn K mainGlobals x.1=some none/\x.1="ValueError"/\c= .type "ValueError")/\kitOne K (.ref C) c=some x.2/\(x.2=true->exmOne K (.ref C) c=some true))/\J5 K C xs
noncomputable def J4 (K:Frag):List (Str×List (Str×Bool))->Prop
 | []=>True
 | x::xs=>(∃C,nsIn K mainGlobals x.1=some (some (.ref C))/\excIn K C CP "ValueError.__new__"=true/\vO K C/\J5 K C x.2)/\J4 K xs
theorem zh (X:K.In h) (Gs:h.Ns mainGlobals mg) {C:Addr} {t:Str} {b:Bool}:∀{xs:List (Str×Bool)},J5 K C xs->xs.lookup t=some b->∃c,(mg t=some c/\(∃D,c= .ref D)\/mg t=none/\t="ValueError"/\c= .type "ValueError")/\kitOne K (.ref C) c=some b/\(b=true->exmOne K (.ref C) c=some true)
 | [],_,e=>by simp at e
 | y::xs,hx,e=>by
  rw[QG] at e;split at e
  ·rename_i q;cases e;rw[QD q];obtain⟨c,h1,h2⟩:=hx.1;exact⟨c,h1.imp (λz=>⟨mg_of X Gs z.1,z.2⟩) λz=>⟨mg_none_of X Gs z.1,z.2⟩,h2⟩
  ·exact zh X Gs hx.2 e
noncomputable def Je (g:G) (mg:Str->Option Value) (k:Nat):Value:=((g.xs[k]?).bind λx=>mg x.1).getD .none
theorem ze (X:K.In h) (Gs:h.Ns mainGlobals mg):∀{xs:List (Str×List (Str×Bool))} {k:Nat} {x:Str} {ts:List (Str×Bool)},J4 K xs->xs[k]?=some (x,ts)->∃C,mg x=some (.ref C)/\FC K mg C ts
 | [],k,x,ts,_,e=>by simp at e
 | y::xs,0,x,ts,hx,e=>by cases e;obtain⟨C,h1,h2,h3,h4⟩:=hx.1;exact⟨C,mg_of X Gs h1,h2,h3,λt b q=>zh X Gs h4 q⟩
 | y::xs,k + 1,x,ts,hx,e=>ze X Gs hx.2 (by simpa using e)
theorem law_mk {l:OpenLaw} {w:World} {fa:Addr} {rs:List Row} {cons:List (Str×Dt)} {bls:List Str} {fr:Nat->Bool} {xs:List (Str×List (Str×Bool))} {L n:Nat} {sL:Stmt} {ms:List Str} {dr kd:Option Str} (X:K.In h) (Gs:h.Ns mainGlobals mg) (Ox:mg "law"=some (.ref fa))
  (hL:rs[L]?=some ⟨"law",sL,["_law_script"],ms,dr,false,[],kd⟩) (hk:rs.all Row.ok=true) (hfs:oA ⟨rs.map Row.ent,cons,bls,fr,xs⟩ 0 rs=some fs)
  (hb:∀(s:Shared) (v:Value) (kV doc pm fj ct:Value) (an:Option Addr),BindsTo s (fnOf "law" "law" (mh sL) (gV sL) (bA sL) .none kV doc pm an fj ct) ⟨[v],[]⟩ [("_law_script",v)])
  (hn:∀ns:List Int,ns.length<=63->∃S,az fs (n + 1) L [.bc ns] none= .ok (.bl true,S)) (B:J0 K bls) (C:JV K cons) (F:Jf K rs) (E:J4 K xs):
  ∃fd:FuncData,(∀(s:Shared) (v:Value),BindsTo s fd ⟨[v],[]⟩ [("_law_script",v)])/\∀base:Heap,K.In base->base.Ns mainGlobals mg->iK l.prog w K mg base (nE l.prog w) (n + 1) fa fd ["_law_script"] (t9 K):=by
 have AD:XG ⟨rs.map Row.ent,cons,bls,fr,xs⟩ K mg (Je ⟨rs.map Row.ent,cons,bls,fr,xs⟩ mg):=λk x ts e=>by obtain⟨C,h1,h2⟩:=ze X Gs E e;have e:xs[k]?=some (x,ts):=e;exact⟨C,by simp[Je,e,h1],h1,h2⟩
 have hm:MG ⟨rs.map Row.ent,cons,bls,fr,xs⟩ mg:=⟨λx d hx=>by
   obtain⟨u,k1,k2,k3⟩:=wy C hx;exact⟨u,k2,mg_of X Gs k1,k3⟩,λx hx=>mg_none_of X Gs (xX B hx)⟩
 have ok:=wV (g:=⟨rs.map Row.ent,cons,bls,fr,xs⟩) X Gs hk hfs F;obtain⟨PP,oc,dV,kV,doc,pm,fj,ct,od,an,tB,a,lk,c,k,hd,b⟩:=wL F hL;cases hd rfl;have e:=Ox.symm.trans (mg_of X Gs a);cases e;obtain⟨ts,c1,c2⟩:=C4 hfs hL;have hok:=Row.scope (QQ.mp hk _ (List.mem_iff_getElem?.mpr ⟨L,hL⟩));exact⟨_,λs v=>hb s v kV doc pm fj ct an,λbase _ _=>qM hm AD ok lk c hok.1 hok.2.1 rfl c1 c2 hn⟩
end
end Rx
end
section
namespace K31
open PySem PySem.W PySem.Spec PyProof.Rows L2 Mx Rx
noncomputable def top (i:Nat):Stmt:=PySem.Challenge.pw_mixform_k31_put_in.main.body.getD i (.Pass ⟨0,0,0,0⟩)
noncomputable abbrev rows:List Rx.Row:=[⟨"parts_of",top 7,["item"],[],none,false,[],none⟩,
 ⟨"gathered",top 8,["pairs"],["whole"],none,false,[],none⟩,
 ⟨"times",top 9,["number","form"],[],none,false,[],none⟩,
 ⟨"spread",top 11,["form"],[],none,false,[],none⟩,
 ⟨"just",top 14,["name"],[],none,false,[],none⟩,
 ⟨"has",top 15,["way","name"],[],none,false,[],none⟩,
 ⟨"put",top 16,["form","way"],[],none,false,[],none⟩,
 ⟨"put_up_to",top 17,["form","way","most"],["pairs"],none,false,[],none⟩,
 ⟨"put_item",top 18,["item","way","most"],[],none,false,[],none⟩,
 ⟨"_law_cell",top 20,["_law_script","_law_k"],[],none,false,[],none⟩,
 ⟨"_law_pick",top 21,["_law_script","_law_k","_law_many"],[],none,false,[],none⟩,
 ⟨"_law_names",top 22,["_law_script","_law_k","_law_letters"],["_law_names_here"],none,false,[],none⟩,
 ⟨"_law_unknowns",top 23,["_law_script","_law_k"],[],none,false,[],none⟩,
 ⟨"_law_signs",top 24,["_law_script","_law_k"],[],none,false,[],none⟩,
 ⟨"_law_next",top 25,["_law_k","_law_j"],[],none,false,[],none⟩,
 ⟨"_law_mix",top 26,["_law_script","_law_k","_law_deep","_law_names_here","_law_signs_here","_law_most"],["_law_pairs"],none,false,[],none⟩,
 ⟨"_law_gathered",top 27,["_law_pairs"],["_law_found"],none,false,[],none⟩,
 ⟨"_law_put",top 28,["_law_form","_law_known"],[],none,false,[],none⟩,
 ⟨"_law_great",top 29,["_law_script","_law_k","_law_form"],["_law_found"],none,false,[],none⟩,
 ⟨"_law_way",top 30,["_law_script","_law_k","_law_names_here","_law_inner","_law_signs_here","_law_most"],["_law_pairs"],none,false,[],none⟩,
 ⟨"_law_same",top 31,["_law_found","_law_due"],[],none,false,[],none⟩,
 ⟨"_law_spread",top 32,["_law_form"],[],none,false,[],none⟩,
 ⟨"_law_refused",top 33,["_law_form","_law_way_here"],[],none,false,[],none⟩,
 ⟨"_law_edge",top 34,["_law_script","_law_names_here","_law_signs_here"],[],none,false,[],none⟩,
 ⟨"law",top 35,["_law_script"],[],none,false,[],none⟩]
noncomputable abbrev cons:List (Str×Dt):=[("MOST_SPREAD",(.int 2000))]
noncomputable abbrev bls:List Str:=["bool","dict","int","isinstance","len","list","min","range","sorted","str","sum","tuple","zip"]
noncomputable abbrev fr (i:Nat):Bool:=[false,false,false,false,false,false,false,false,false,false,true,true,true,true,true,false,false,false,false,false,false,false,false,false,false].getD i false
noncomputable abbrev xs:List (Str×List (Str×Bool)):=[("TooMany",[("MixError",true),("NoRow",false),("NoRule",false),("NoText",false),("TooMany",true),("ValueError",true)])]
noncomputable def b6:Ts:=(.cons (.ret (.call 7 (.cons (.var 0) (.cons (.var 1) (.cons (.con (.int 2000)) .nil))) [])) .nil)
noncomputable def J8:Ts:=(.cons (.ret (.call 11 (.cons (.var 0) (.cons (.var 1) (.cons (.con (.str "abcdefghijklmnopqrstuvwxyz")) .nil))) [])) .nil)
noncomputable def J9:Ts:=(.cons (.ret (.call 11 (.cons (.var 0) (.cons (.var 1) (.cons (.con (.str "ABCDEFGHIJKLMNOPQRSTUVWXYZ")) .nil))) [])) .nil)
noncomputable def Ka:Ts:=(.cons (.asgM 6 (.lst .nil)) (.cons (.fr (.nm 7) (.rng1 (.bi .len (.cons (.var 2) .nil))) (.cons (.ifs (.cmp .Gt (.call 10 (.cons (.var 0) (.cons (.bin .Add (.var 1) (.var 7)) (.cons (.con (.int 4)) .nil))) []) (.con (.int 0))) (.cons (.asg 8 (.call 15 (.cons (.var 0) (.cons (.call 14 (.cons (.var 1) (.cons (.bin .Add (.con (.int 20)) (.var 7)) .nil)) []) (.cons (.con (.int 1)) (.cons (.var 3) (.cons (.var 4) (.cons (.var 5) .nil)))))) [])) (.cons (.app 6 (.tup (.cons (.idx (.var 2) (.var 7)) (.cons (.var 8) .nil)))) .nil)) .nil) .nil)) (.cons (.ret (.bi .tuple (.cons (.bi .sorted (.cons (.mvr 6) .nil)) .nil))) .nil)))
noncomputable def Kb:Ts:=(.cons (.tr (.cons (.Gv (.call 6 (.cons (.var 0) (.cons (.var 1) .nil)) [])) .nil) [some true]) (.cons (.ret (.con (.bl false))) .nil))
noncomputable def Kc:Ts:=(.cons (.asg 3 (.bin .Add (.con (.int 8)) (.call 10 (.cons (.var 0) (.cons (.con (.int 2)) (.cons (.con (.int 33)) .nil))) []))) (.cons (.asg 4 (.bin .Sub (.bin .Add (.bin .FloorDiv (.con (.int 2000)) (.bin .Add (.con (.int 1)) (.bin .Mult (.con (.int 2)) (.var 3)))) (.call 10 (.cons (.var 0) (.cons (.con (.int 3)) (.cons (.con (.int 3)) .nil))) [])) (.con (.int 1)))) (.cons (.asg 5 (.tup (.cons (.con (.str "of")) (.cons (.idx (.var 2) (.con (.int 0))) (.cons (.tup .nil) .nil))))) (.cons (.asg 6 (.tup (.cons (.tup (.cons (.idx (.var 1) (.con (.int 0))) (.cons (.bi .tuple (.cons (.comp [none,none,some 2,some 5] (.rng1 (.var 3)) (.nm 1) .nil (.tup (.cons (.tup (.cons (.con (.str "of")) (.cons (.idx (.var 2) (.con (.int 1))) (.cons (.tup (.cons (.tup (.cons (.tup (.cons (.var 3) (.cons (.bin .Add (.var 1) (.con (.int 1))) .nil))) .nil)) .nil)) .nil)))) (.cons (.con (.int 1)) .nil)))) .nil)) .nil))) .nil))) (.cons (.asg 7 (.bi .tuple (.cons (.comp [none,none,some 1,some 2] (.rng1 (.var 4)) (.nm 1) .nil (.tup (.cons (.tup (.cons (.con (.str "of")) (.cons (.idx (.var 3) (.con (.int 2))) (.cons (.tup (.cons (.tup (.cons (.tup (.cons (.tup (.cons (.con (.str "any")) (.cons (.idx (.var 2) (.con (.int 0))) .nil))) (.cons (.bin .Add (.var 1) (.con (.int 1))) .nil))) .nil)) .nil)) .nil)))) (.cons (.con (.int 1)) .nil)))) .nil))) (.cons (.ifs (.cmp .Gt (.bin .Mult (.var 4) (.bin .Add (.con (.int 1)) (.bin .Mult (.con (.int 2)) (.var 3)))) (.con (.int 2000))) (.cons (.ret (.call 22 (.cons (.var 7) (.cons (.var 6) .nil)) [])) .nil) .nil) (.cons (.ret (.call 20 (.cons (.call 6 (.cons (.var 7) (.cons (.var 6) .nil)) []) (.cons (.call 17 (.cons (.var 7) (.cons (.bi .dict (.cons (.var 6) .nil)) .nil)) []) .nil)) [])) .nil)))))))
noncomputable def Kd:Ts:=(.cons (.asg 1 (.call 12 (.cons (.var 0) (.cons (.con (.int 0)) .nil)) [])) (.cons (.asg 2 (.call 13 (.cons (.var 0) (.cons (.con (.int 7)) .nil)) [])) (.cons (.ifs (.cmp .Eq (.call 10 (.cons (.var 0) (.cons (.con (.int 1)) (.cons (.con (.int 8)) .nil))) []) (.con (.int 0))) (.cons (.ret (.call 23 (.cons (.var 0) (.cons (.var 1) (.cons (.var 2) .nil))) [])) .nil) .nil) (.cons (.asg 3 (.call 15 (.cons (.var 0) (.cons (.con (.int 20)) (.cons (.con (.int 2)) (.cons (.var 1) (.cons (.var 2) (.cons (.con (.int 5)) .nil)))))) [])) (.cons (.ifs (.cmp .Eq (.call 10 (.cons (.var 0) (.cons (.con (.int 4)) (.cons (.con (.int 2)) .nil))) []) (.con (.int 0))) (.cons (.asg 3 (.call 18 (.cons (.var 0) (.cons (.con (.int 5)) (.cons (.var 3) .nil))) [])) .nil) .nil) (.cons (.asg 4 (.call 19 (.cons (.var 0) (.cons (.con (.int 40)) (.cons (.var 1) (.cons (.var 1) (.cons (.var 2) (.cons (.con (.int 3)) .nil)))))) [])) (.cons (.ifs (.cmp .Eq (.call 10 (.cons (.var 0) (.cons (.con (.int 5)) (.cons (.con (.int 4)) .nil))) []) (.con (.int 0))) (.cons (.asg 4 (.bi .tuple (.cons (.bi .sorted (.cons (.lst (.cons (.tup (.cons (.idx (.var 1) (.con (.int 0))) (.cons (.tup (.cons (.tup (.cons (.tup (.cons (.con (.str "any")) (.cons (.idx (.var 1) (.con (.int 1))) .nil))) (.cons (.con (.int 1)) .nil))) .nil)) .nil))) (.cons (.tup (.cons (.idx (.var 1) (.con (.int 1))) (.cons (.tup (.cons (.tup (.cons (.tup (.cons (.con (.str "any")) (.cons (.idx (.var 1) (.con (.int 0))) .nil))) (.cons (.con (.int 2)) .nil))) .nil)) .nil))) .nil))) .nil)) .nil))) .nil) .nil) (.cons (.asg 5 (.call 17 (.cons (.var 3) (.cons (.bi .dict (.cons (.var 4) .nil)) .nil)) [])) (.cons (.ifs (.cmp .Gt (.call 21 (.cons (.var 5) .nil) []) (.con (.int 2000))) (.cons (.ret (.call 22 (.cons (.var 3) (.cons (.var 4) .nil)) [])) .nil) .nil) (.cons (.ifs (.nt (.call 20 (.cons (.call 6 (.cons (.var 3) (.cons (.var 4) .nil)) []) (.cons (.var 5) .nil)) [])) (.cons (.ret (.con (.bl false))) .nil) .nil) (.cons (.fr (.nm 6) (.seq (.bin .Add (.var 1) (.lst (.cons (.con (.str "qqqqqq")) .nil)))) (.cons (.ifs (.nt (.call 20 (.cons (.call 5 (.cons (.var 4) (.cons (.var 6) .nil)) []) (.cons (.gtO (.bi .dict (.cons (.var 4) .nil)) (.var 6) (.tup (.cons (.tup (.cons (.tup (.cons (.con (.str "any")) (.cons (.var 6) .nil))) (.cons (.con (.int 1)) .nil))) .nil))) .nil)) [])) (.cons (.ret (.con (.bl false))) .nil) .nil) .nil)) (.cons (.ret (.and (.call 20 (.cons (.call 6 (.cons (.var 3) (.cons (.tup .nil) .nil)) []) (.cons (.var 3) .nil)) []) (.call 20 (.cons (.call 6 (.cons (.tup .nil) (.cons (.var 4) .nil)) []) (.cons (.tup .nil) .nil)) []))) .nil))))))))))))
noncomputable def fs:List Fn:=[⟨1,1,false,iN⟩,⟨1,4,false,CI (.mvr 1)⟩,⟨2,2,false,l8⟩,⟨1,1,false,zQ 0 3⟩,⟨1,1,false,nX⟩,⟨2,4,false,zP 4⟩,⟨2,2,false,b6⟩,⟨3,7,false,vW 2 8 1 3⟩,⟨3,4,false,nY 5 7⟩,⟨2,3,false,nW⟩,⟨3,4,false,vU 9⟩,⟨3,9,false,qh 10⟩,⟨2,2,false,J8⟩,⟨2,2,false,J9⟩,⟨2,2,false,rT⟩,⟨6,14,false,CJ 10 14 16 15⟩,⟨1,4,false,CI IK⟩,⟨2,7,false,vV 17 16⟩,⟨3,5,false,qg 9⟩,⟨6,9,false,Ka⟩,⟨2,4,false,nZ 20⟩,⟨1,4,false,vY 21⟩,⟨2,4,false,Kb⟩,⟨3,8,false,Kc⟩,⟨1,7,false,Kd⟩]
theorem hok:rows.all Rx.Row.ok=true:=by decide +kernel
theorem hfs:oA ⟨rows.map Rx.Row.ent,cons,bls,fr,xs⟩ 0 rows=some fs:=by kernel_rfl
theorem jd:ju fs 10:=⟨9,rfl,rfl⟩
theorem KJ:vL fs 0 1 2 3 4 5 7 8:=⟨rfl,rfl,rfl,rfl,rfl,rfl,rfl,rfl⟩
theorem td (n:Nat) (hn:4<=n) (ns:List Int) (k:Nat) (hk:k < 1000):(∃a b c,az fs n 12 [.bc ns,.int k] none= .ok (.lst [.str a,.str b,.str c],none)/\a≠b/\b≠c/\a≠c)/\∃a b c,az fs n 13 [.bc ns,.int k] none= .ok (.lst [.str a,.str b,.str c],none):=by
 obtain⟨a,b,c,h1,kX⟩:=o4 (fs:=fs) jd (im:=11) rfl (n:=n - 1) (by lia) (ns:=ns) (k:=k) (L:="abcdefghijklmnopqrstuvwxyz") (by lia) rfl (by decide);obtain⟨a',b',c',h2,_⟩:=o4 (fs:=fs) jd (im:=11) rfl (n:=n - 1) (by lia) (ns:=ns) (k:=k) (L:="ABCDEFGHIJKLMNOPQRSTUVWXYZ") (by lia) rfl (by decide);refine⟨⟨a,b,c,aF (body:=J8) rfl (by lia) rfl ?_,kX⟩,⟨a',b',c',aF (body:=J9) rfl (by lia) rfl ?_⟩⟩
 ·show fin (aP (az fs (n - 1)) J8 [some (.bc ns),some (.int k)] none)=_;exact aq (by simp only[RX,h1])
 ·show fin (aP (az fs (n - 1)) J9 [some (.bc ns),some (.int k)] none)=_;exact aq (by simp only[RX,h2])
section
variable {W:List (Str×Mx.D)} {m n:Nat} {d:Mx.D} (hW:∀p∈W,c7 200 Pos m p.2) (hm:1<=m) (Aw:m<=8) (hn:n<=8) (hd:c7 200 kW n d)
include hW hm Aw hn hd
theorem HU {N:Nat} (hN:3 * n + m + 11<=N):az fs N 6 [ofD d,bf W] none=if 2000 < cV (n + m) (putL W n d) then .ex 0 else .ok (ofD (putL W n d),none):=by
 have h:=tQ KJ hW hm Aw (most:=2000) (by decide) (by decide) n (N:=N - 1) hn (by lia) hd;refine aF (body:=b6) rfl (by lia) rfl ?_;show fin (aP (az fs (N - 1)) b6 [some (ofD d),some (bf W)] none)=_;by_cases hb:2000 < cV (n + m) (putL W n d)
 ·rw[if_pos hb] at h ⊢;refine wM ?_;rw[ex];simp only[RX,h];rfl
 ·rw[if_neg hb] at h ⊢;exact aq (by simp only[RX,h])
theorem jM {N:Nat} (hN:3 * n + m + 11<=N) (hb:cV (n + m) (putL W n d)<=2000):az fs N 6 [ofD d,bf W] none= .ok (ofD (putL W n d),none):=by rw[HU hW hm Aw hn hd hN,if_neg (by lia)]
theorem refused {N:Nat} (hN:3 * n + m + 12<=N) (hb:2000 < cV (n + m) (putL W n d)):az fs N 22 [ofD d,bf W] none= .ok (.bl true,none):=by
 have h:=HU hW hm Aw hn hd (N:=N - 1) (by lia);rw[if_pos hb] at h;refine aF (body:=Kb) rfl (by lia) rfl ?_;show fin (aP (az fs (N - 1)) Kb [some (ofD d),some (bf W),none,none] none)=_;refine my (ρ1:=[some (ofD d),some (bf W),none,none]) (S1:=none) ?_;have e:aP (az fs (N - 1)) (.cons (.Gv (.call 6 (.cons (.var 0) (.cons (.var 1) .nil)) [])) .nil) [some (ofD d),some (bf W),none,none] none= .ex 0:=by refine HD ?_;rw[ex];simp only[RX,h];rfl
 rw[ex,e];rfl
theorem B4 {N:Nat} (hN:n + 2<=N):az fs N 17 [ofD d,fg W] none= .ok (ofD (putL W n d),none):=tP (fs:=fs) (il:=17) (ig:=16) rfl rfl hW hm Aw n hn hN hd
theorem yC {N:Nat} (hN:4 * (n + m) < N):az fs N 20 [ofD (putL W n d),ofD (putL W n d)] none= .ok (.bl true,none):=
 iC (fs:=fs) (is:=20) rfl N _ (tZ _) (by rw[om];have:=jZ (jh hW hm hd);lia)
end
noncomputable def JM:Mx.D->Str×Mx.D
 | .tup [.str x,f]=>(x,f)
 | d=>("",d)
theorem Fc (p:Str×Mx.D):JM (bT p)=p:=rfl
theorem tm {α:Type} {g:α->α}:∀{l:List α},(∀y∈l,g y=y)->l.map g=l
 | [],_=>rfl
 | y::l,h=>by rw[QY,h y Qm,tm λz hz=>h z (Qj _ hz)]
theorem pP {V:List (Str×Mx.D)} (hV:∀p∈V,c7 200 Pos 2 p.2) (hl:V.length<=3):∃W:List (Str×Mx.D),aR (V.map bT)=W.map bT/\W.Perm V/\iQ (V.map bT)=true:=by
 have pm:=bz (V.map bT);refine⟨(aR (V.map bT)).map JM,?_,?_,?_⟩
 ·rw[List.map_map];refine(tm λy hy=>?_).symm;obtain⟨p,_,rfl⟩:=QP.mp (pm.mem_iff.mp hy);rfl
 ·have:=pm.map JM;rw[List.map_map,show (JM ∘ bT)=id from funext Fc,List.map_id] at this;exact this
 ·refine wt .ts (by rw[Qp];lia) (fK λd hd=>?_) (λd hd=>?_) λd hd e he=>?_
  ·obtain⟨p,hp,rfl⟩:=QP.mp hd;have:=jZ (hV p hp);simp[bT,Mx.D.dep,Mx.D.cL]
   lia
  ·obtain⟨p,hp,rfl⟩:=QP.mp hd;rfl
  ·obtain⟨p,hp,rfl⟩:=QP.mp hd;obtain⟨q,hq,rfl⟩:=QP.mp he;have:=DJ (hV p hp) (hV q hq);simp[bT,jH,ib,this]
noncomputable def wB:Ts:=(.cons (.ifs (.cmp .Gt (.call 10 (.cons (.var 0) (.cons (.bin .Add (.var 1) (.var 7)) (.cons (.con (.int 4)) .nil))) []) (.con (.int 0))) (.cons (.asg 8 (.call 15 (.cons (.var 0) (.cons (.call 14 (.cons (.var 1) (.cons (.bin .Add (.con (.int 20)) (.var 7)) .nil)) []) (.cons (.con (.int 1)) (.cons (.var 3) (.cons (.var 4) (.cons (.var 5) .nil)))))) [])) (.cons (.app 6 (.tup (.cons (.idx (.var 2) (.var 7)) (.cons (.var 8) .nil)))) .nil)) .nil) .nil)
theorem CB {n:Nat} {f:Mx.D} (h:jw P3 n f):c7 200 Pos n f:=h.N.mono (by decide) (λc z=>z.1) (Ql _)
structure vM (W:List (Str×Mx.D)):Prop where
 nd:(W.map (·.1)).Nodup
 fm:∀p∈W,c7 200 Pos 2 p.2
theorem vm {a b c:Str} {k:Nat} (h:k < 3):∃x,cc (.lst [.str a,.str b,.str c]) (.int k)= .ok (.str x)/\[a,b,c][k]?=some x:=by
 match k,h with
 | 0,_=>exact⟨a,rfl,rfl⟩
 | 1,_=>exact⟨b,rfl,rfl⟩
 | 2,_=>exact⟨c,rfl,rfl⟩
theorem Fh (ns:List Int) {a b c a' b' c':Str} (eS:a≠b) (GR:b≠c) (GO:a≠c):∃W:List (Str×Mx.D),az fs 59 19 [.bc ns,.int 40,.lst [.str a,.str b,.str c],.lst [.str a,.str b,.str c],.lst [.str a',.str b',.str c'],.int 3] none= .ok (bf W,none)/\vM W:=by
 have iV:lim=1000000:=rfl;generalize lI:Dt.lst [.str a,.str b,.str c]=nm;generalize hsg:Dt.lst [.str a',.str b',.str c']=sg;have P:=λ(k many:Nat) (h1:k < 1000000) (h2:0 < many)=>fT (fs:=fs) jd (n:=58) (by decide) (ns:=ns) h1 h2
 have loop:=bU (S:=none) (tg:= .nm 7) (ds:=a9 0 3) (ρ:=[some (.bc ns),some (.int 40),some nm,some nm,some sg,some (.int 3),some (.lst []),none,none]) (body:=aP (az fs 58) wB)
  (λpre ρ=>∃(V:List (Str×Mx.D)) (x y:Option Dt),V.length<=pre.length/\(∀p∈V,c7 200 Pos 2 p.2)/\(V.map (·.1)).Sublist ([a,b,c].take pre.length)/\ρ=[some (.bc ns),some (.int 40),some nm,some nm,some sg,some (.int 3),some (.lst (aa (V.map bT))),x,y])
  ⟨[],none,none,by simp,by simp,by simp,by simp[aa]⟩ (by
   rintro pre x post ρ e ⟨V,x7,x8,hl,hV,xD,rfl⟩;obtain⟨h1,rfl⟩:=d5 e;generalize hj:pre.length=j at *;have p0:=P (40 + j) 4 (by lia) (by decide);generalize aZ ns (40 + j) 4=w at p0;have q0:az fs 58 10 [.bc ns,.int (40 + (j:Int)),.int 4] none= .ok (.int w,none):=p0;have HC:=mW (fs:=fs) (i:=14) rfl (n:=58) (by decide) (k:=40) (j:=20 + j);have nl:=kr (k:=40) (j:=20 + j);generalize ir 40 (20 + j)=at' at HC nl;have LH:az fs 58 14 [.int 40,.int (20 + (j:Int))] none= .ok (.int at',none):=HC;obtain⟨rs,m1,m2⟩:=tu (fs:=fs) (ip:=10) (ix:=14) (ig:=16) (im:=15) jd rfl rfl rfl (ns:=ns) (a:=a) (b:=b) (c:=c) (a':=a') (b':=b') (c':=c') 1 (by decide) (N:=58) (k:=at') (most:=3) (by decide) (by lia) (by decide);rw[lI,hsg] at m1;have m3:az fs 58 15 [.bc ns,.int at',.int 1,nm,sg,.int 3] none= .ok (.tup (aa rs),none):=m1;obtain⟨x,hx,nI⟩:=vm (a:=a) (b:=b) (c:=c) h1;rw[lI] at hx;have tk:[a,b,c].take (j + 1)=[a,b,c].take j++[x]:=by rw[List.take_add_one,nI];rfl
   by_cases hw:(0:Int) < w
   ·refine⟨_,_,rfl,qR (S1:=none) (by simp only[RX,q0,QJ hw]) (bx (d:= .tup (aa rs)) (S1:=none) (by simp only[RX,LH,m3]) (by unfold bR;rw[<-aX,bQ,Bool.or_true]) (i5 (ds:=aa (V.map bT)) (d:=ofD (bT (x,.tup rs))) (S1:=none) rfl (by simp only[RX,hx];simp[bT,ofD,aa]) (by unfold bR;rw[bQ,Bool.or_true]) (by rw[ar,Qp];lia) rfl)),V++[(x,.tup rs)],some (.int j),some (.tup (aa rs)),by simp;lia,λp hp=>?_,?_,?_⟩
    ·rcases QC.mp hp with hp | hp
     ·exact hV p hp
     ·rw[QO] at hp;subst hp;exact CB m2
    ·rw[QZ,Qw,hj,List.length_singleton,tk];exact xD.append (List.Sublist.refl _)
    ·rw[QZ,aK];simp[aa]
   ·refine⟨_,_,rfl,kz (S1:=none) (by simp only[RX,q0,QF hw]) rfl,V,some (.int j),x8,by simp;lia,hV,?_,rfl⟩;rw[Qw,hj,List.length_singleton,tk];exact xD.trans (List.sublist_append_left _ _))
 obtain⟨ρ1,bM,V,x7,x8,hl,hV,xD,rfl⟩:=loop;have FM:V.length<=3:=by simpa [a9] using hl
 obtain⟨W,w1,w2,w3⟩:=pP hV FM;have hs:=(iO w3).1;refine⟨W,aF (body:=Ka) rfl (by decide) rfl ?_,?_,λp hp=>hV p (w2.mem_iff.mp hp)⟩
 ·show fin (aP (az fs 58) Ka [some (.bc ns),some (.int 40),some nm,some nm,some sg,some (.int 3),none,none,none] none)=_;have ln:ei .len [nm]= .ok (.int 3):=by rw[<-lI];rfl
  refine dS (d:= .lst []) (S1:=none) rfl rfl (bF (ds:=a9 0 3) (S1:=none) (ey (n:=3) (by simp only[RX,ln];rfl) (by lia)) rfl bM (aq ?_));simp only[RX,hs,w1];rfl
 ·refine((w2.map (·.1)).nodup_iff.mpr ?_);refine List.Nodup.sublist (xD.trans (List.take_sublist _ _)) ?_;simp[eS,GR,GO]
theorem iR {f:Dt->Sx->R (List Dt×Sx)} {S:Sx} {g:Nat->Dt}:∀{l:List Nat},(∀i∈l,f (.int i) S= .ok ([g i],S))->bh f (l.map λ(i:Nat)=>Dt.int i) S= .ok (l.map g,S)
 | [],_=>rfl
 | i::l,h=>by rw[QY,bh,h i Qm,R.ai,iR λy hy=>h y (Qj _ hy)];rfl
theorem tX (n:Nat):a9 0 n=(List.range n).map λ(i:Nat)=>Dt.int i:=by unfold a9;exact List.map_congr_left λi _=>by rw[Int.zero_add]
theorem pH {a b:List Int} (h:a.Perm b):a.sum=b.sum:=by
 induction h with
 | nil=>rfl
 | cons x _ ih=>rw[List.sum_cons,List.sum_cons,ih]
 | swap x y l=>simp only[List.sum_cons];lia
 | trans _ _ h1 h2=>exact h1.trans h2
theorem i9 {c:Int}:∀{l:List Int},(∀x∈l,x=c)->l.sum=l.length * c
 | [],_=>by simp
 | x::l,h=>by
  rw[List.sum_cons,h x Qm,i9 λy hy=>h y (Qj _ hy),Qy,Int.natCast_add,Int.add_mul]
  lia
theorem pG {L:Nat} {P:Int->Prop}:∀{n k:Nat} {d:Mx.D},c7 L P n d->n<=k->cV k d=cV n d
 | 0,_,_,h,_=>h.elim
 | n + 1,0,_,_,h=>by lia
 | n + 1,k + 1,d,⟨rs,e,_,hr⟩,hk=>by
  subst e;show (rs.map λr=>1 + ((aA (a6 r)).map (cV k)).sum).sum=(rs.map λr=>1 + ((aA (a6 r)).map (cV n)).sum).sum;congr 1;refine List.map_congr_left λr h=>?_
  obtain⟨it,c,rfl,_,hi⟩:=hr r h;rw[aV];congr 2;exact List.map_congr_left λp hp=>pG ((fS hi).2 p hp) (by lia)
section
variable (s0 s1 s2 x:Str) (M:Nat)
noncomputable def p7 (j:Nat):Mx.D:=ofT s1 [.tup [row (ofT s0 []) (j + 1)]]
noncomputable def kF:Mx.D:= .tup ((List.range M).map λj=>row (p7 s0 s1 j) 1)
noncomputable def pF (k:Nat):Mx.D:= .tup [row (c8 x) (k + 1)]
noncomputable def fF (w:Nat):Mx.D:= .tup ((List.range w).map λk=>row (ofT s2 [pF x k]) 1)
noncomputable def qF (k:Nat):Mx.D:=putL [(x,kF s0 s1 M)] 1 (pF x k)
variable {s0 s1 s2 x M}
theorem Lo (hM:M<=200):c7 200 Pos 2 (kF s0 s1 M):=⟨_,rfl,by simpa using hM,λr h=>by
 obtain⟨j,_,rfl⟩:=QP.mp h;refine⟨_,_,rfl,by decide,.inr ⟨s1,_,rfl,by simp,λp hp=>?_⟩⟩;rw[QO] at hp;subst hp;refine⟨_,rfl,by simp,λr h=>?_⟩;rw[QO] at h;subst h;exact⟨_,_,rfl,by show (0:Int) < j + 1;lia,.inr ⟨s0,[],rfl,by simp,λp hp=>by cases hp⟩⟩⟩
theorem Kr {w:Nat} (hw:w<=200):c7 200 kW 2 (fF s2 x w):=⟨_,rfl,by simpa using hw,λr h=>by
 obtain⟨k,hk,rfl⟩:=QP.mp h;have:=Q1.mp hk;refine⟨_,_,rfl,by decide,.inr ⟨s2,_,rfl,by simp,λp hp=>?_⟩⟩;rw[QO] at hp;subst hp;refine⟨_,rfl,by simp,λr h=>?_⟩;rw[QO] at h;subst h;exact⟨_,_,rfl,⟨by show (0:Int) < k + 1;lia,by show (k:Int) + 1 < _;lia⟩,.inl ⟨x,rfl⟩⟩⟩
theorem AK {i j:Nat} (h:p7 s0 s1 i=p7 s0 s1 j):i=j:=by
 simp[p7,ofT,row] at h
 lia
theorem nodup_range {α:Type} {f:Nat->α} (h:∀i j,f i=f j->i=j) (n:Nat):((List.range n).map f).Nodup:=List.Pairwise.map f (λi j n e=>n (h i j e)) List.nodup_range
theorem rg (k:Nat):qF s0 s1 x M k= .tup (aR ((List.range M).map λj=>row (p7 s0 s1 j) ((k + 1) * 1))):=by
 have e:((eW (pF x k)).flatMap λr=>mulR (dO r) (b7 (putL [(x,kF s0 s1 M)] 0) [(x,kF s0 s1 M)] (a6 r)))=(List.range M).map λj=>row (p7 s0 s1 j) (((k:Int) + 1) * 1):=by
  show mulR (k + 1) (et [(x,kF s0 s1 M)] x)++[]=_;have:et [(x,kF s0 s1 M)] x=kF s0 s1 M:=by unfold et;rw[gX,if_pos rfl];rfl
  rw[this,QU];show (((List.range M).map λj=>row (p7 s0 s1 j) 1).map λr=>row (a6 r) ((k + 1) * dO r))=_;rw[List.map_map];rfl
 unfold qF;rw[Rx.putL,e,j7]
 ·rw[List.map_map];exact nodup_range (λi j h=>AK (s0:=s0) (s1:=s1) h) M
 ·intro r hr;obtain⟨j,_,rfl⟩:=QP.mp hr;exact⟨_,_,rfl⟩
theorem HY (hM:0 < M) {i j:Nat} (h:qF s0 s1 x M i=qF s0 s1 x M j):i=j:=by
 rw[rg,rg] at h;injection h with h;have m:row (p7 s0 s1 0) (((i:Int) + 1) * 1)∈aR ((List.range M).map λj'=>row (p7 s0 s1 j') (((j:Int) + 1) * 1)):=by rw[<-h];exact cP.mpr (QP.mpr ⟨0,Q1.mpr hM,rfl⟩)
 obtain⟨j',_,e⟩:=QP.mp (cP.mp m);have:=congrArg dO e;rw[cK,cK] at this
 lia
theorem LN (k:Nat):cV 3 (qF s0 s1 x M k)=M * 2:=by
 rw[rg];show ((aR ((List.range M).map λj=>row (p7 s0 s1 j) (((k:Int) + 1) * 1))).map λr=>1 + ((aA (a6 r)).map (cV 2)).sum).sum=_;rw[pH ((bz _).map _),i9 (c:=2)]
 ·simp
 ·intro y hy;obtain⟨r,hr,rfl⟩:=QP.mp hy;obtain⟨j,_,rfl⟩:=QP.mp hr;rfl
theorem Ks (hM:0 < M) (w:Nat):cV 4 (putL [(x,kF s0 s1 M)] 2 (fF s2 x w))=w * (1 + 2 * M):=by
 have e:((eW (fF s2 x w)).flatMap λr=>mulR (dO r) (b7 (putL [(x,kF s0 s1 M)] 1) [(x,kF s0 s1 M)] (a6 r)))=(List.range w).map λk=>row (ofT s2 [qF s0 s1 x M k]) 1:=by show (((List.range w).map λk=>row (ofT s2 [pF x k]) 1).flatMap _)=_;rw[List.flatMap_map];exact jc (λk=>row (ofT s2 [qF s0 s1 x M k]) 1) (List.range w)
 rw[Rx.putL,e,j7]
 ·show ((aR ((List.range w).map λk=>row (ofT s2 [qF s0 s1 x M k]) 1)).map λr=>1 + ((aA (a6 r)).map (cV 3)).sum).sum=_;rw[pH ((bz _).map _),i9 (c:=1 + 2 * M)]
  ·simp
  ·intro y hy;obtain⟨r,hr,rfl⟩:=QP.mp hy;obtain⟨k,_,rfl⟩:=QP.mp hr;rw[aV,o9];simp only[QY,List.map_nil,List.sum_cons,List.sum_nil,LN]
   lia
 ·rw[List.map_map];refine nodup_range (λi j h=>?_) w;have h:ofT s2 [qF s0 s1 x M i]=ofT s2 [qF s0 s1 x M j]:=h;simp[ofT] at h;exact HY hM h
 ·intro r hr;obtain⟨j,_,rfl⟩:=QP.mp hr;exact⟨_,_,rfl⟩
end
noncomputable def eK:C:=(.tup (.cons (.tup (.cons (.con (.str "of")) (.cons (.idx (.var 2) (.con (.int 1))) (.cons (.tup (.cons (.tup (.cons (.tup (.cons (.var 3) (.cons (.bin .Add (.var 1) (.con (.int 1))) .nil))) .nil)) .nil)) .nil)))) (.cons (.con (.int 1)) .nil)))
noncomputable def Kk:C:=(.bi .tuple (.cons (.comp [none,none,some 2,some 5] (.rng1 (.var 3)) (.nm 1) .nil eK) .nil))
noncomputable def eF:C:=(.tup (.cons (.tup (.cons (.con (.str "of")) (.cons (.idx (.var 3) (.con (.int 2))) (.cons (.tup (.cons (.tup (.cons (.tup (.cons (.tup (.cons (.con (.str "any")) (.cons (.idx (.var 2) (.con (.int 0))) .nil))) (.cons (.bin .Add (.var 1) (.con (.int 1))) .nil))) .nil)) .nil)) .nil)))) (.cons (.con (.int 1)) .nil)))
theorem Ad (ns:List Int) (a b c s0 s1 s2:Str):az fs 59 23 [.bc ns,.lst [.str a,.str b,.str c],.lst [.str s0,.str s1,.str s2]] none= .ok (.bl true,none):=by
 have iV:lim=1000000:=rfl;generalize lI:Dt.lst [.str a,.str b,.str c]=nm;generalize hsg:Dt.lst [.str s0,.str s1,.str s2]=sg;have n0:cc nm (.int 0)= .ok (.str a):=by rw[<-lI];rfl
 have g0:cc sg (.int 0)= .ok (.str s0):=by rw[<-hsg];rfl
 have g1:cc sg (.int 1)= .ok (.str s1):=by rw[<-hsg];rfl
 have g2:cc sg (.int 2)= .ok (.str s2):=by rw[<-hsg];rfl
 have P:=λ(k many:Nat) (h1:k < 1000000) (h2:0 < many)=>fT (fs:=fs) jd (n:=58) (by decide) (ns:=ns) h1 h2
 have p2:=P 2 33 (by decide) (by decide);have p3:=P 3 3 (by decide) (by decide);have l2:=cy (ns:=ns) (k:=2) (many:=33) (by decide);have l3:=cy (ns:=ns) (k:=3) (many:=3) (by decide);generalize aZ ns 2 33=u at p2 l2;generalize aZ ns 3 3=v at p3 l3;have q2:az fs 58 10 [.bc ns,.int 2,.int 33] none= .ok (.int u,none):=p2;have q3:az fs 58 10 [.bc ns,.int 3,.int 3] none= .ok (.int v,none):=p3;obtain⟨M,hM⟩:∃M:Nat,M=8 + u:=⟨_,rfl⟩;have eM:(8:Int) + u=M:=by lia
 have m1:=bo (i:=2) (j:=(M:Int)) (.inl (by decide));have f1:=qW (i:=2000) (j:=1 + 2 * (M:Int)) (by lia) (by
  have:(1 + 2 * (M:Int)).natAbs < 2 ^ 9000:=QB (show _ < 2 ^ 10 by lia) (Nat.pow_le_pow_right (by decide) (by decide));exact(Nat.log2_lt (by lia)).mpr this)
 have d1:2000 / (1 + 2 * (M:Int))>=1:=Int.le_ediv_of_mul_le (by lia) (by lia);have d2:2000 / (1 + 2 * (M:Int))<=117:=by
  have:2000 / (1 + 2 * (M:Int)) < 118:=Int.ediv_lt_of_lt_mul (by lia) (by lia)
  lia
 obtain⟨w,hw⟩:∃w:Nat,(w:Int)=2000 / (1 + 2 * (M:Int)) + v - 1:=⟨(2000 / (1 + 2 * (M:Int)) + v - 1).toNat,by lia⟩;have P5:w<=119:=by lia
 have m2:=bo (i:=(w:Int)) (j:=1 + 2 * (M:Int)) (.inl (by lia));have W:=Lo (s0:=s0) (s1:=s1) (M:=M) (by lia);have uM:∀p∈[(a,kF s0 s1 M)],c7 200 Pos 2 p.2:=λp hp=>by rw[QO] at hp;subst hp;exact W
 have hF:=Kr (s2:=s2) (x:=a) (w:=w) (by lia);have sp:=Ks (s0:=s0) (s1:=s1) (s2:=s2) (x:=a) (M:=M) (by lia) w;have t0:ofD (ofT s0 [])= .tup [.str "of",.str s0,.tup []]:=by rw[mY];rfl
 have ck:bh (bB (.nm 1) (cC (az fs 58) .nil) (cF (az fs 58) eK) [none,none,some sg,some (.tup [.str "of",.str s0,.tup []])]) (a9 0 M) none= .ok ((List.range M).map λj=>ofD (row (p7 s0 s1 j) 1),none):=by
  rw[tX];refine iR λj _=>bY (ρ1:=[none,some (.int j),some sg,some (.tup [.str "of",.str s0,.tup []])]) rfl ?_ rfl
  unfold eK;simp only[RX,g1];rw[dC,p7,mY,aa,aa,aX,aa,aa,dC,t0]
 have cf:bh (bB (.nm 1) (cC (az fs 58) .nil) (cF (az fs 58) eF) [none,none,some nm,some sg]) (a9 0 w) none= .ok ((List.range w).map λk=>ofD (row (ofT s2 [pF a k]) 1),none):=by
  rw[tX];refine iR λj _=>bY (ρ1:=[none,some (.int j),some nm,some sg]) rfl ?_ rfl
  unfold eF;simp only[RX,g2,n0];rw[dC,mY,aa,aa,pF,aX,aa,aa,dC,nQ]
 have ek:((List.range M).map λj=>ofD (row (p7 s0 s1 j) 1))=aa ((List.range M).map λj=>row (p7 s0 s1 j) 1):=by rw[br,List.map_map];rfl
 have ef:((List.range w).map λk=>ofD (row (ofT s2 [pF a k]) 1))=aa ((List.range w).map λk=>row (ofT s2 [pF a k]) 1):=by rw[br,List.map_map];rfl
 rw[ek] at ck;rw[ef] at cf;have Lh:bf [(a,kF s0 s1 M)]= .tup [.tup [.str a,.tup (aa ((List.range M).map λj=>row (p7 s0 s1 j) 1))]]:=by simp[bf,bT,kF,ofD,aa]
 have Oy:ofD (fF s2 a w)= .tup (aa ((List.range w).map λk=>row (ofT s2 [pF a k]) 1)):=by rw[fF,aX]
 refine aF (body:=Kc) rfl (by decide) rfl ?_;show fin (aP (az fs 58) Kc [some (.bc ns),some nm,some sg,none,none,none,none,none] none)=_;refine aJ (d:= .int M) (S1:=none) (by simp only[RX,q2,eM]) rfl (aJ (d:= .int w) (S1:=none) (by simp only[RX,q3,m1,f1,hw]) rfl (aJ (d:= .tup [.str "of",.str s0,.tup []]) (S1:=none) (by simp only[RX,g0]) rfl ?_));have h6:=cn (F:=az fs 58) (cap:=[none,none,some 2,some 5]) (it:= .rng1 (.var 3)) (tg:= .nm 1) (cs:= .nil) (e:=eK) (ρ:=[some (.bc ns),some nm,some sg,some (.int M),some (.int w),some (.tup [.str "of",.str s0,.tup []]),none,none]) (S:=none) (ds:=a9 0 M) (S1:=none) (ey (n:=M) rfl (by lia)) (by simp[a9];lia) rfl ck;have N5:ev (az fs 58) Kk [some (.bc ns),some nm,some sg,some (.int M),some (.int w),some (.tup [.str "of",.str s0,.tup []]),none,none] none= .ok (.tup (aa ((List.range M).map λj=>row (p7 s0 s1 j) 1)),none):=by unfold Kk;rw[dF,h6];rfl
 refine aJ (c:= .tup (.cons (.tup (.cons (.idx (.var 1) (.con (.int 0))) (.cons Kk .nil))) .nil)) (d:=bf [(a,kF s0 s1 M)]) (S1:=none) (by simp only[RX,n0,N5,Lh]) (by unfold bR bf;rw[<-aX,bQ,Bool.or_true]) ?_;have h7:=cn (F:=az fs 58) (cap:=[none,none,some 1,some 2]) (it:= .rng1 (.var 4)) (tg:= .nm 1) (cs:= .nil) (e:=eF) (ρ:=[some (.bc ns),some nm,some sg,some (.int M),some (.int w),some (.tup [.str "of",.str s0,.tup []]),some (bf [(a,kF s0 s1 M)]),none]) (S:=none) (ds:=a9 0 w) (S1:=none) (ey (n:=w) rfl (by lia)) (by simp[a9];lia) rfl cf;refine aJ (d:=ofD (fF s2 a w)) (S1:=none) (by rw[dF];refine(congrArg (R.bind · _) h7).trans ?_;rw[Oy];rfl) (by unfold bR;rw[bQ,Bool.or_true]) ?_;by_cases hb:2000 < (w:Int) * (1 + 2 * (M:Int))
 ·have hr:=refused uM (by decide) (by decide) (by decide) hF (N:=58) (by decide) (by rw[sp];exact hb);exact dR (S1:=none) (by simp only[RX,m1,m2,QJ hb]) (aq (by simp only[RX,hr]))
 ·have h1:=jM uM (by decide) (by decide) (by decide) hF (N:=58) (by decide) (by rw[sp];lia);have h2:=B4 uM (by decide) (by decide) (by decide) hF (N:=58) (by decide);have h3:=yC uM (by decide) (by decide) (by decide) hF (N:=58) (by decide);have As:=rW (W:=[(a,kF s0 s1 M)]) (by simp);exact cq (S1:=none) (by simp only[RX,m1,m2,QF hb]) (aq (by simp only[RX,h1,h2,h3,As]))
theorem pv (W:List (Str×Mx.D)):Rx.putL W 1 (.tup [])= .tup []:=by show Mx.D.tup (cu [])=_;simp[cu,aR,oC]
noncomputable def gT:C:=(.gtO (.bi .dict (.cons (.var 4) .nil)) (.var 6) (.tup (.cons (.tup (.cons (.tup (.cons (.con (.str "any")) (.cons (.var 6) .nil))) (.cons (.con (.int 1)) .nil))) .nil)))
noncomputable def bL:Ts:=(.cons (.ifs (.nt (.call 20 (.cons (.call 5 (.cons (.var 4) (.cons (.var 6) .nil)) []) (.cons gT .nil)) [])) (.cons (.ret (.con (.bl false))) .nil) .nil) .nil)
noncomputable def tL:Ts:=(.cons (.fr (.nm 6) (.seq (.bin .Add (.var 1) (.lst (.cons (.con (.str "qqqqqq")) .nil)))) bL) (.cons (.ret (.and (.call 20 (.cons (.call 6 (.cons (.var 3) (.cons (.tup .nil) .nil)) []) (.cons (.var 3) .nil)) []) (.call 20 (.cons (.call 6 (.cons (.tup .nil) (.cons (.var 4) .nil)) []) (.cons (.tup .nil) .nil)) []))) .nil))
noncomputable def tR:Ts:=(.cons (.asg 5 (.call 17 (.cons (.var 3) (.cons (.bi .dict (.cons (.var 4) .nil)) .nil)) [])) (.cons (.ifs (.cmp .Gt (.call 21 (.cons (.var 5) .nil) []) (.con (.int 2000))) (.cons (.ret (.call 22 (.cons (.var 3) (.cons (.var 4) .nil)) [])) .nil) .nil) (.cons (.ifs (.nt (.call 20 (.cons (.call 6 (.cons (.var 3) (.cons (.var 4) .nil)) []) (.cons (.var 5) .nil)) [])) (.cons (.ret (.con (.bl false))) .nil) .nil) tL)))
noncomputable def tM:Ts:=(.cons (.asg 4 (.call 19 (.cons (.var 0) (.cons (.con (.int 40)) (.cons (.var 1) (.cons (.var 1) (.cons (.var 2) (.cons (.con (.int 3)) .nil)))))) [])) (.cons (.ifs (.cmp .Eq (.call 10 (.cons (.var 0) (.cons (.con (.int 5)) (.cons (.con (.int 4)) .nil))) []) (.con (.int 0))) (.cons (.asg 4 (.bi .tuple (.cons (.bi .sorted (.cons (.lst (.cons (.tup (.cons (.idx (.var 1) (.con (.int 0))) (.cons (.tup (.cons (.tup (.cons (.tup (.cons (.con (.str "any")) (.cons (.idx (.var 1) (.con (.int 1))) .nil))) (.cons (.con (.int 1)) .nil))) .nil)) .nil))) (.cons (.tup (.cons (.idx (.var 1) (.con (.int 1))) (.cons (.tup (.cons (.tup (.cons (.tup (.cons (.con (.str "any")) (.cons (.idx (.var 1) (.con (.int 0))) .nil))) (.cons (.con (.int 2)) .nil))) .nil)) .nil))) .nil))) .nil)) .nil))) .nil) .nil) tR))
theorem tV (ns:List Int) {a b c:Str} {sg:Dt} {d:Mx.D} {W:List (Str×Mx.D)} (hd:jw kW 3 d) (hW:vM W):fin (aP (az fs 59) tR [some (.bc ns),some (.lst [.str a,.str b,.str c]),some sg,some (ofD d),some (bf W),none,none] none)= .ok (.bl true,none):=by
 have iV:lim=1000000:=rfl;have dN:c7 200 kW 3 d:=hd.N.mono (by decide) (λc z=>z) (Ql _);have As:=rW hW.nd;have N1:=B4 hW.fm (by decide) (by decide) (by decide) dN (N:=59) (by decide);have zN:=jh hW.fm (by decide) dN;have MR:=ua (fs:=fs) (is:=21) rfl (L:=40000) (by decide) 5 (N:=59) (by decide) zN;refine aJ (d:=ofD (Rx.putL W 3 d)) (S1:=none) (by simp only[RX,As,N1]) (by unfold bR;rw[bQ,Bool.or_true]) ?_;by_cases hb:2000 < cV 5 (Rx.putL W 3 d)
 ·have hr:=refused hW.fm (by decide) (by decide) (by decide) dN (N:=59) (by decide) hb;exact dR (S1:=none) (by simp only[RX,MR,QJ hb]) (aq (by simp only[RX,hr]))
 have h6:=jM hW.fm (by decide) (by decide) (by decide) dN (N:=59) (by decide) (Int.not_lt.mp hb);have N2:=yC hW.fm (by decide) (by decide) (by decide) dN (N:=59) (by decide);refine cq (S1:=none) (by simp only[RX,MR,QF hb]) (cq (S1:=none) (by simp only[RX,h6,N2,Bool.not_true]) ?_);have loop:=bU (S:=none) (tg:= .nm 6) (body:=aP (az fs 59) bL) (ds:=[.str a,.str b,.str c,.str "qqqqqq"]) (ρ:=[some (.bc ns),some (.lst [.str a,.str b,.str c]),some sg,some (ofD d),some (bf W),some (ofD (Rx.putL W 3 d)),none])
  (λpre ρ=>∃y,ρ=[some (.bc ns),some (.lst [.str a,.str b,.str c]),some sg,some (ofD d),some (bf W),some (ofD (Rx.putL W 3 d)),y]) ⟨none,rfl⟩ (by
   rintro pre x post ρ e ⟨y,rfl⟩;obtain⟨z,rfl⟩:∃z,x=Dt.str z:=by
    have hx:x∈[Dt.str a,.str b,.str c,.str "qqqqqq"]:=by rw[e];simp
    simp only[Qs,Qt,or_false] at hx;rcases hx with rfl | rfl | rfl | rfl <;> exact⟨_,rfl⟩
   have hh:=xm (fs:=fs) (ij:=4) (ih:=5) rfl rfl (N:=59) (by decide) W z;have hg:ev (az fs 59) gT [some (.bc ns),some (.lst [.str a,.str b,.str c]),some sg,some (ofD d),some (bf W),some (ofD (Rx.putL W 3 d)),some (.str z)] none= .ok (ofD (et W z),none):=
    wJ (S1:=none) (S2:=none) (S3:=none) (by simp only[RX,As]) rfl (by rw[qJ];simp only[RX])
   have hs:az fs 59 20 [ofD (et W z),ofD (et W z)] none= .ok (.bl true,none):=iC (fs:=fs) (is:=20) rfl 59 _ (tZ _) (by rw[om];have:=jZ (BZ hW.fm (by decide) z);lia);exact⟨_,_,rfl,kz (S1:=none) (by simp only[RX,hh,hg,hs,Bool.not_true]) rfl,some (.str z),rfl⟩)
 obtain⟨ρ1,bM,y,rfl⟩:=loop;have k1:az fs 59 6 [ofD d,.tup []] none= .ok (ofD d,none):=by
  have hp:=tS hd;have:=jM (W:=[]) (m:=1) (λp hp=>by cases hp) (by decide) (by decide) (by decide) dN (N:=59) (by decide) (by
   rw[hp,pG dN (by decide)];have:=Cm hd;simp only[vi] at this
   lia)
  rw[hp] at this;exact this
 have k2:az fs 59 20 [ofD d,ofD d] none= .ok (.bl true,none):=iC (fs:=fs) (is:=20) rfl 59 _ (tZ _) (by rw[om];have:=jZ dN;lia);have k3:az fs 59 6 [.tup [],bf W] none= .ok (.tup [],none):=by have:=jM hW.fm (by decide) (by decide) (n:=1) (d:= .tup []) (by decide) ⟨[],rfl,by simp,λr h=>by cases h⟩ (N:=59) (by decide) (by rw[pv];decide);rw[pv] at this;exact this
 have k4:az fs 59 20 [.tup [],.tup []] none= .ok (.bl true,none):=iC (fs:=fs) (is:=20) rfl 59 (.tup []) rfl (by decide);refine bF (ds:=[.str a,.str b,.str c,.str "qqqqqq"]) (S1:=none) (gA (d:= .lst [.str a,.str b,.str c,.str "qqqqqq"]) (by simp only[RX];rfl) rfl) rfl bM (aq ?_);simp only[RX,k1,k2,k3,k4]
theorem DR (ns:List Int) {a b c a' b' c':Str} {d:Mx.D} (hd:jw kW 3 d) (eS:a≠b) (GR:b≠c) (GO:a≠c):fin (aP (az fs 59) tM [some (.bc ns),some (.lst [.str a,.str b,.str c]),some (.lst [.str a',.str b',.str c']),some (ofD d),none,none,none] none)= .ok (.bl true,none):=by
 obtain⟨V,v1,v2⟩:=Fh ns (a':=a') (b':=b') (c':=c') eS GR GO;have p5:az fs 59 10 [.bc ns,.int 5,.int 4] none= .ok (.int (aZ ns 5 4),none):=fT (fs:=fs) jd (n:=59) (by decide) (ns:=ns) (k:=5) (many:=4) (by decide) (by decide);have two:∀(x:Str) (k:Int),0 < k->c7 200 Pos 2 (.tup [row (c8 x) k]):=λx k hk=>xJ (by decide) x k hk
 obtain⟨W,w1,w2,w3⟩:=pP (V:=[(a,.tup [row (c8 b) 1]),(b,.tup [row (c8 a) 2])]) (by
  intro p hp;simp only[Qs,Qt,or_false] at hp;rcases hp with rfl | rfl
  ·exact two b 1 (by decide)
  ·exact two a 2 (by decide)) (by simp)
 have hs:=(iO w3).1;have el:aa ([(a,.tup [row (c8 b) 1]),(b,.tup [row (c8 a) 2])].map bT)=[.tup [.str a,.tup [.tup [.tup [.str "any",.str b],.int 1]]],.tup [.str b,.tup [.tup [.tup [.str "any",.str a],.int 2]]]]:=by simp[bT,row,c8,ofD,aa]
 rw[el,w1] at hs;have uM:vM W:=⟨(w2.map (·.1)).nodup_iff.mpr (by simp[eS]),λp hp=>by
  have hp:=w2.mem_iff.mp hp;simp only[Qs,Qt,or_false] at hp;rcases hp with rfl | rfl
  ·exact two b 1 (by decide)
  ·exact two a 2 (by decide)⟩
 generalize lI:Dt.lst [.str a,.str b,.str c]=nm at *;generalize hsg:Dt.lst [.str a',.str b',.str c']=sg at *;have n0:cc nm (.int 0)= .ok (.str a):=by rw[<-lI];rfl
 have n1:cc nm (.int 1)= .ok (.str b):=by rw[<-lI];rfl
 refine aJ (d:=bf V) (S1:=none) (by simp only[RX,v1]) (by unfold bR bf;rw[<-aX,bQ,Bool.or_true]) ?_;by_cases hp:((aZ ns 5 4:Nat):Int)=0
 ·refine dR (S1:=none) (by simp only[RX,p5,hp];rfl) (aJ (d:=bf W) (S1:=none) (by simp only[RX,n0,n1,hs];rfl) (by unfold bR bf;rw[<-aX,bQ,Bool.or_true]) ?_);rw[<-lI];exact tV ns hd uM
 ·have lg:(((aZ ns 5 4:Nat):Int)==0)=false:=beq_eq_false_iff_ne.mpr hp;refine cq (S1:=none) (by simp only[RX,p5,lg]) ?_;rw[<-lI];exact tV ns hd v2
theorem law_true:∀ns:List Int,ns.length<=63->∃S,az fs 60 24 [.bc ns] none= .ok (.bl true,S):=λns _=>by
 refine⟨none,aF (body:=Kd) rfl (by decide) rfl ?_⟩;show fin (aP (az fs 59) Kd [some (.bc ns),none,none,none,none,none,none] none)=_;have iV:lim=1000000:=rfl;obtain⟨⟨a,b,c,e1,eS,GR,GO⟩,_⟩:=td 59 (by decide) ns 0 (by decide);obtain⟨_,a',b',c',e2⟩:=td 59 (by decide) ns 7 (by decide);have P:=λ(k many:Nat) (h1:k < 1000000) (h2:0 < many)=>fT (fs:=fs) jd (n:=59) (by decide) (ns:=ns) h1 h2
 have p1:az fs 59 10 [.bc ns,.int 1,.int 8] none= .ok (.int (aZ ns 1 8),none):=P 1 8 (by decide) (by decide);have p4:az fs 59 10 [.bc ns,.int 4,.int 2] none= .ok (.int (aZ ns 4 2),none):=P 4 2 (by decide) (by decide);have M:=λ(d:Mx.D) (h:jw kW 3 d)=>DR ns (a':=a') (b':=b') (c':=c') h eS GR GO
 have f1:az fs 59 12 [.bc ns,.int 0] none= .ok (.lst [.str a,.str b,.str c],none):=e1;have f2:az fs 59 13 [.bc ns,.int 7] none= .ok (.lst [.str a',.str b',.str c'],none):=e2;refine aJ (d:= .lst [.str a,.str b,.str c]) (S1:=none) (by simp only[RX,f1]) rfl (aJ (d:= .lst [.str a',.str b',.str c']) (S1:=none) (by simp only[RX,f2]) rfl ?_);have Ou:=Ad ns a b c a' b' c';obtain⟨rs,r1,r2⟩:=tu (fs:=fs) (ip:=10) (ix:=14) (ig:=16) (im:=15) jd rfl rfl rfl (ns:=ns) (a:=a) (b:=b) (c:=c) (a':=a') (b':=b') (c':=c') 2 (by decide) (N:=59) (k:=20) (most:=5) (by decide) (by decide) (by decide);obtain⟨qs,r3,r4⟩:=uL (fs:=fs) (ic:=9) (ig:=18) rfl rfl (N:=59) (k:=5) (by decide) (by decide) (ns:=ns) r2;have Pm:az fs 59 15 [.bc ns,.int 20,.int 2,.lst [.str a,.str b,.str c],.lst [.str a',.str b',.str c'],.int 5] none= .ok (.tup (aa rs),none):=r1;have Pn:az fs 59 18 [.bc ns,.int 5,.tup (aa rs)] none= .ok (.tup (aa qs),none):=r3;generalize lI:Dt.lst [.str a,.str b,.str c]=nm at *;generalize hsg:Dt.lst [.str a',.str b',.str c']=sg at *;by_cases gZ:((aZ ns 1 8:Nat):Int)=0
 ·exact dR (S1:=none) (by simp only[RX,p1,gZ];rfl) (aq (by simp only[RX,Ou]))
 have K2:(((aZ ns 1 8:Nat):Int)==0)=false:=beq_eq_false_iff_ne.mpr gZ;refine cq (S1:=none) (by simp only[RX,p1,K2]) (aJ (d:= .tup (aa rs)) (S1:=none) (by simp only[RX,Pm]) (by unfold bR;rw[<-aX,bQ,Bool.or_true]) ?_);by_cases hp4:((aZ ns 4 2:Nat):Int)=0
 ·refine dR (S1:=none) (by simp only[RX,p4,hp4];rfl) (aJ (d:= .tup (aa qs)) (S1:=none) (by simp only[RX,Pn]) (by unfold bR;rw[<-aX,bQ,Bool.or_true]) ?_);have:=M _ r4;rw[aX] at this;exact this
 ·have K3:(((aZ ns 4 2:Nat):Int)==0)=false:=beq_eq_false_iff_ne.mpr hp4;refine cq (S1:=none) (by simp only[RX,p4,K3]) ?_;have:=M _ (r2.mono λc z=>⟨z.1,by have:c<=3:=z.2;lia⟩);rw[aX] at this;exact this
end K31
end
section
namespace PySem.W.Fast
theorem tw9254572133353561445:True:=⟨⟩
theorem tw6875348234423163020:True:=⟨⟩
theorem tw10560283265973583904:True:=⟨⟩
theorem tw6790147629276141575:True:=⟨⟩
theorem tw6524968531162339512:True:=⟨⟩
theorem tw8799458822464438699:True:=⟨⟩
theorem tw8780787173003076517:True:=⟨⟩
theorem tw4245294566775903850:True:=⟨⟩
theorem tw12158574402028505750:True:=⟨⟩
theorem tw7774638261161160533:True:=⟨⟩
theorem tw10980373449392127850:True:=⟨⟩
theorem tw15146896760068081593:True:=⟨⟩
theorem tw18328575969464661154:True:=⟨⟩
theorem tw5488777820548304596:True:=⟨⟩
theorem tw8003428642829610389:True:=⟨⟩
theorem tw9366940805812381406:True:=⟨⟩
theorem tw15858579822962570344:True:=⟨⟩
theorem tw11853065939803822435:True:=⟨⟩
theorem tw206335724635037658:True:=⟨⟩
theorem tw8095704979717373474:True:=⟨⟩
theorem tw1803866532119417640:True:=⟨⟩
theorem tw16566206415286083645:True:=⟨⟩
theorem tw15007511489643030321:True:=⟨⟩
theorem tw2605966279548935108:True:=⟨⟩
theorem tw1460405860952092784:True:=⟨⟩
theorem tw10291055739897567871:True:=⟨⟩
theorem tw12932800751676230939:True:=⟨⟩
theorem tw6058179635693534773:True:=⟨⟩
theorem tw7579653343229547650:True:=⟨⟩
theorem tw13548574037432707166:True:=⟨⟩
theorem tw3705136764475807774:True:=⟨⟩
theorem tw16668031887711150098:True:=⟨⟩
theorem tw18119932181081271634:True:=⟨⟩
theorem tw9327945925751588647:True:=⟨⟩
theorem tw11830561202260793819:True:=⟨⟩
theorem tw5033815364188178247:True:=⟨⟩
theorem tw11922892375135200977:True:=⟨⟩
theorem tw11211739908278621392:True:=⟨⟩
theorem tw4585037123935056434:True:=⟨⟩
theorem tw5817767164268988643:True:=⟨⟩
theorem tw1970762853678740189:True:=⟨⟩
theorem tw7901489790359799843:True:=⟨⟩
theorem tw17108282077910183531:True:=⟨⟩
theorem tw10897419491074941294:True:=⟨⟩
theorem tw11516455537708486709:True:=⟨⟩
theorem tw4195414284074210660:True:=⟨⟩
theorem tw1463115497638402997:True:=⟨⟩
theorem tw17318507191740516088:True:=⟨⟩
theorem tw15824898841200601357:True:=⟨⟩
theorem tw10550020945518431038:True:=⟨⟩
theorem tw14677150313534383716:True:=⟨⟩
theorem tw259901942386106328:True:=⟨⟩
theorem tw15746366835488921070:True:=⟨⟩
theorem tw8829014390958807998:True:=⟨⟩
theorem tw5892487794986662121:True:=⟨⟩
theorem tw1952991608905185029:True:=⟨⟩
theorem tw2960959718146965331:True:=⟨⟩
theorem tw9170426633148308470:True:=⟨⟩
theorem tw18112882871530517592:True:=⟨⟩
theorem tw11000991594558725153:True:=⟨⟩
theorem tw3231831888680557703:True:=⟨⟩
theorem tw10879337352960966759:True:=⟨⟩
theorem tw12107931467920459350:True:=⟨⟩
theorem tw2061369844887609786:True:=⟨⟩
theorem tw755828901300785945:True:=⟨⟩
theorem tw17241411732445699309:True:=⟨⟩
theorem tw13292586866016960419:True:=⟨⟩
theorem tw13807877104159168892:True:=⟨⟩
theorem tw15313670085147876656:True:=⟨⟩
theorem tw17721952653636945271:True:=⟨⟩
theorem tw2475797812368569912:True:=⟨⟩
theorem tw18417823073510236621:True:=⟨⟩
theorem tw17804317580927865001:True:=⟨⟩
theorem tw18102501449744991289:True:=⟨⟩
theorem tw16433604935496120565:True:=⟨⟩
theorem tw5769481950390514441:True:=⟨⟩
theorem tw5874625727126464635:True:=⟨⟩
theorem tw14135860126605380824:True:=⟨⟩
theorem tw8261445870660017318:True:=⟨⟩
theorem tw7926217668809826081:True:=⟨⟩
end PySem.W.Fast
open PySem PySem.W PyProof.Rows Rx
set_option maxHeartbeats 0 in
theorem PySem.Challenge.cw_mixform_k31_put_in_holds : PySem.Challenge.rw_mixform_k31_put_in.Holds := by
 w_on;o_law;k_head;(case hw=>w_witness2)
 k_fill
 refine walkR (k:=60) (l:=PySem.Challenge.rw_mixform_k31_put_in) rfl rfl ⟨rfl,by decide,by decide⟩ (λw h Y=>kIn_of Y) ?F
 case F=>
  intro w mg fa h KX G hmg;refine law_mk (rs:=K31.rows) (cons:=K31.cons) (bls:=K31.bls) (xs:=K31.xs) (L:=24) (n:=59) KX G hmg rfl K31.hok K31.hfs (λs v _ _ _ _ _ _=> .of_eq rfl) K31.law_true ?B ?C ?D ?E
  case B=>exact⟨by k_is,by k_is,by k_is,by k_is,by k_is,by k_is,by k_is,by k_is,by k_is,by k_is,by k_is,by k_is,by k_is,trivial⟩
  case C=>exact⟨⟨_,by k_is,rfl,by first | rfl | exact⟨_,rfl⟩⟩,trivial⟩
  case D=>
   refine⟨?_,?_,?_,?_,?_,?_,?_,?_,?_,?_,?_,?_,?_,?_,?_,?_,?_,?_,?_,?_,?_,?_,?_,?_,?_,trivial⟩
   all_goals exact⟨_,_,_,_,_,_,_,_,_,_,_,by k_is,by k_is,by k_is,by k_is,λ_=>rfl,binds0 (by repeat first | exact len0 rfl | refine lenS λ_=>?_)⟩
  case E=>exact⟨⟨_,by k_is,by k_exc,⟨by k_is,by k_is,by k_is,by k_is,by k_is,by k_is,by k_is⟩,⟨⟨_,.inl ⟨by k_is,_,rfl⟩,by kit_is,λ_=>by kts_exm⟩,⟨_,.inl ⟨by k_is,_,rfl⟩,by kit_is,nofun⟩,⟨_,.inl ⟨by k_is,_,rfl⟩,by kit_is,nofun⟩,⟨_,.inl ⟨by k_is,_,rfl⟩,by kit_is,nofun⟩,⟨_,.inl ⟨by k_is,_,rfl⟩,by kit_is,λ_=>by kts_exm⟩,⟨_,.inr ⟨by k_is,rfl,rfl⟩,by kit_is,λ_=>by kts_exm⟩,trivial⟩⟩,trivial⟩
#print axioms PySem.Challenge.cw_mixform_k31_put_in_holds
end