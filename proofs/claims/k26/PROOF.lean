import PyProof.Rows.All
import Wide.All
import OpenK.AllK
import Wide.FinOn
import Lean
import PyProof.EqAt
import PyProof.EqKinds
import PyProof.TupleCall
import PyProof.NeKinds
import PyProof.FactsAll.tuple_2
import PyProof.WalksMore
import PyProof.AttrMissHeap
import KE.KDictOf
import PyProof.ExcBaseAll.ValueError
import KE.KTryMore
import PyProof.Rows.CallKwBuiltin
import PySem.Challenge.RW_mixform_k26_too_many
set_option Elab.async false
set_option linter.all false
set_option maxRecDepth 100000
set_option maxHeartbeats 4000000
set_option bootstrap.genMatcherCode false
section
open PySem PySem.W PySem.Spec PyProof.Rows
def Pr:=@wpAny_bind
def Pt:=@Option.bind_eq_some_iff
def Pu:=@Heap.get?_push_of_some
def Pv:=@wpAny_pure
def Pw:=@Bool.and_eq_true
def Px:=@List.size_toArray
def Py:=@of_decide_eq_true
def Pz:=@List.getElem?_eq_some_iff
def PC:=@List.mem_cons_of_mem
def PD:=@kasC_bind
def PF:=@Nat.le_refl
def PH:=@List.mem_cons_self
def PJ:=@Heap.get?_push_size
def PK:=@kasC_pure
def PL:=@List.length_map
def PN:=@Heap.lt_size
def PP:=@Nat.le_trans
def PQ:=@List.mem_cons
def PU:=@List.not_mem_nil
def PV:=@List.append_assoc
def PX:=@Option.map_eq_some_iff
def PY:=@List.length_append
def PZ:=@List.getElem?_set_ne
def P0:=@List.length_cons
def P1:=@List.getElem?_map
def P3:=@Array.length_toList
def P4:=@Nat.lt_of_lt_of_le
def P5:=@List.mem_append
def P6:=@eq_of_beq
def P7:=@List.getElem?_eq_getElem
def P8:=@decide_eq_false
def P9:=@List.lookup_cons
def Qa:=@KeyOrd.kle_trans
def Qb:=@Heap.get?_update_other
def Qc:=@decide_eq_true
def Qd:=@Heap.size_push
def Qe:=@Nat.ne_of_lt
def Qf:=@List.mem_append_right
def Qg:=@wpAny_setField_rec
def Qh:=@List.mem_singleton
def Qi:=@List.mem_map
def Qj:=@List.all_eq_true
def Qk:=@List.any_eq_true
def Ql:=@Int.emod_nonneg
def Qm:=@Int.emod_lt_of_pos
def Qn:=@List.append_nil
def Qo:=@Bool.or_eq_true
def Qp:=@List.getElem?_append_left
def Qq:=@List.getElem?_append_right
def Qr:=@List.map_cons
def Qs:=@List.map_append
def Qt:=@List.getElem?_set_self
def Qu:=@List.mem_range
end
section
namespace L2
open PySem PySem.Spec PyProof.Rows
noncomputable abbrev Key:=Sum Int Str
noncomputable def Bd:Key->Value->Bool
 | .inl k,v=>Value.isInt k v
 | .inr x,v=>Value.isStrOf x v
noncomputable def Kr (w:World):Key->Int
 | .inl k=>hashInt k
 | .inr x=>hashStr w x
theorem bh:∀{k:Key} {v:Value},Bd k v=true->(∃i t,k=Sum.inl i/\v=Value.int i t)\/(∃x t,k=Sum.inr x/\v=Value.str x t)
 | .inl i,v,h=>by obtain⟨t,e⟩:=Value.isInt_shape (k:=i) (v:=v) h;exact .inl ⟨i,t,rfl,e⟩
 | .inr x,v,h=>by obtain⟨t,e⟩:=Value.isStrOf_shape (x:=x) (v:=v) h;exact .inr ⟨x,t,rfl,e⟩
theorem CN (a b:Int):decide ((Sum.inl a:Key)=Sum.inl b)=(a==b):=by
 by_cases e:a=b
 ·subst e;simp
 ·have h:¬(Sum.inl a:Key)=Sum.inl b:=λq=>e (Sum.inl.inj q)
  rw[P8 h];exact(beq_eq_false_iff_ne.mpr e).symm
theorem CQ (a b:Str):decide ((Sum.inr a:Key)=Sum.inr b)=decide (a=b):=by
 by_cases e:a=b
 ·subst e;simp
 ·have h:¬(Sum.inr a:Key)=Sum.inr b:=λq=>e (Sum.inr.inj q)
  rw[P8 h,P8 e]
theorem CO (a:Int) (b:Str):decide ((Sum.inl a:Key)=Sum.inr b)=false:=P8 (λq=>nomatch q)
theorem CP (a:Str) (b:Int):decide ((Sum.inr a:Key)=Sum.inl b)=false:=P8 (λq=>nomatch q)
noncomputable def mJ (prog:Program) (w:World):PySem.KeyKind prog w Key where
 is:=Bd
 hash:=Kr w
 inj:=λv a b ha hb=>by
  rcases bh ha with ⟨i,t,rfl,rfl⟩ | ⟨x,t,rfl,rfl⟩
  ·rcases bh hb with ⟨j,u,rfl,e⟩ | ⟨y,u,rfl,e⟩
   ·injection e with e1 _;rw[e1]
   ·exact nomatch e
  ·rcases bh hb with ⟨j,u,rfl,e⟩ | ⟨y,u,rfl,e⟩
   ·exact nomatch e
   ·injection e with e1 _;rw[e1]
 byValue:=λk v h=>by rcases bh h with ⟨i,t,rfl,rfl⟩ | ⟨x,t,rfl,rfl⟩ <;> rfl
 pyHash:=λhv h=>by
  rcases bh hv with ⟨i,t,rfl,rfl⟩ | ⟨x,t,rfl,rfl⟩
  ·exact wpAny_pyHash_int h
  ·exact wpAny_pyHash_str h
 eqBool:=λhu hv h=>by
  rcases bh hu with ⟨i,t,rfl,rfl⟩ | ⟨x,t,rfl,rfl⟩
  ·rcases bh hv with ⟨j,u,rfl,rfl⟩ | ⟨y,u,rfl,rfl⟩
   ·rw[CN] at h;exact wpAny_eqBool_int h
   ·rw[CO] at h;exact SeqAt.EqAt.int_str i t y u _ _ _ _ h
  ·rcases bh hv with ⟨j,u,rfl,rfl⟩ | ⟨y,u,rfl,rfl⟩
   ·rw[CP] at h;exact SeqAt.EqAt.str_int x t j u _ _ _ _ h
   ·rw[CQ] at h;exact wpAny_eqBool_str h
 «strs»:=λk x t v h=>by
  rcases bh h with ⟨i,u,rfl,e⟩ | ⟨y,u,rfl,e⟩
  ·exact nomatch e
  ·injection e with e1 _;subst e1;cases v <;> rfl
end L2
namespace L2
open PySem PySem.Spec PyProof.Rows
inductive V where
 | aP | bl (b:Bool) | int (i:Int) | str (x:Str) | BZ (b:Array UInt8) | yo (b:UInt64) | ref (a:Addr) | ty (n:String)
 deriving DecidableEq
noncomputable def RelV:V->Value->Prop
 | .aP,u=>u=Value.none
 | .bl b,u=>u=Value.bool b
 | .int i,u=>∃t,u=Value.int i t
 | .str x,u=>∃t,u=Value.str x t
 | .BZ b,u=>∃t,u=Value.bytes b t
 | .yo b,u=>∃t,u=Value.float b t
 | .ref a,u=>u=Value.ref a
 | .ty n,u=>u=Value.type n
noncomputable abbrev au:List V->List Value->Prop:=Paired RelV
theorem au.length {xs:List V} {us:List Value} (r:au xs us):xs.length=us.length:=Paired.length r
theorem au.get:∀{xs:List V} {us:List Value} {i:Nat} {x:V},au xs us->xs[i]?=some x->∃u,us[i]?=some u/\RelV x u
 | _,_,_,_,.nil,e=>by simp at e
 | _,_,0,_,.cons r _,e=>by simp at e;subst e;exact⟨_,rfl,r⟩
 | _,_,i + 1,x,.cons _ t,e=>by obtain⟨u,h1,h2⟩:=au.get (i:=i) (x:=x) t (by simpa using e);exact⟨u,by simpa using h1,h2⟩
theorem au.set {x:V} {u:Value} (r:RelV x u):∀{xs:List V} {us:List Value} (i:Nat),au xs us->au (xs.set i x) (us.set i u)
 | _,_,_,.nil=> .nil
 | _,_,0,.cons _ t=> .cons r t
 | _,_,i + 1,.cons q t=> .cons q (au.set r i t)
theorem au.append:∀{xs ys:List V} {us ws:List Value},au xs us->au ys ws->au (xs++ys) (us++ws)
 | _,_,_,_,.nil,s=>s
 | _,_,_,_,.cons r t,s=> .cons r (au.append t s)
theorem au.take:∀{xs:List V} {us:List Value} (n:Nat),au xs us->au (xs.take n) (us.take n)
 | _,_,0,_=> .nil
 | _,_,_ + 1,.nil=> .nil
 | _,_,n + 1,.cons r t=> .cons r (au.take n t)
theorem au.drop:∀{xs:List V} {us:List Value} (n:Nat),au xs us->au (xs.drop n) (us.drop n)
 | _,_,0,r=>r
 | _,_,_ + 1,.nil=> .nil
 | _,_,n + 1,.cons _ t=>au.drop n t
noncomputable def BG:Option V->Option Value->Prop
 | some v,some u=>RelV v u
 | none,none=>True
 | _,_=>False
noncomputable def KV {κ:Type}:List (κ×V)->List (κ×Value)->Prop:=Paired λ(p:κ×V) (q:κ×Value)=>p.1=q.1/\RelV p.2 q.2
noncomputable def kV:Key->V
 | .inl i=> .int i
 | .inr x=> .str x
inductive HO where
 | lst (xs:List V)
 | tup (xs:List V)
 | dK (cC:List (Key×V)) | dT (cC:List (List Key×V))
 | set (S:Int->Bool) (n:Nat)
 | ins (C dx:Addr) (fs:List (Str×V))
 | own (x:Addr)
 | xd (fs:List (Str×V))
 | met (f x:Addr)
 | K5 (lo hi:Int)
 | q9 (o:Obj) (u:HO)
 | uC (ps:Array Value)
 | ext (φ:Heap->Prop)
noncomputable abbrev Hp:=Addr->Option HO
noncomputable def upd (H:Hp) (a:Addr) (o:HO):Hp:=λb=>if b=a then some o else H b
theorem aM {H:Hp} {a:Addr} {o:HO}:upd H a o a=some o:=by unfold upd;rw[if_pos rfl]
theorem aF {H:Hp} {a b:Addr} {o:HO} (h:b≠a):upd H a o b=H b:=by unfold upd;rw[if_neg h]
theorem a6 {H:Hp} {a b:Addr} {o:HO} (h:H a=some o) (h':H b=none):a≠b:=by intro e;subst e;rw[h] at h';cases h'
noncomputable def kz (h:Heap) (a:Addr) (items:Array Value):Prop:=∃o,h.get? a=some o/\o.cls= .type "tuple"/\∃n,o.data= .seq items n/\o.dict=none/\o.slots=#[]
theorem kz.is {h:Heap} {a:Addr} {items:Array Value}:kz h a items->IsTup h a items
 | ⟨o,a,b,n,c,_⟩=>⟨o,a,b,n,c⟩
theorem kz.new (h:Heap) (items:Array Value):kz (h.push {cls:= .type "tuple",data:= .seq items}) h.objs.size items:=⟨_,PJ _ rfl,rfl,_,rfl,rfl,rfl⟩
section
variable (P:Program) (w:World)
noncomputable def bB (H:Hp) (h:Heap) (a:Addr):HO->Prop
 | .lst xs=>xs.length<=sizeLine/\∃(its:List Value) (n:Nat),au xs its/\h.get? a=some {cls:= .type "list",data:= .seq its.toArray n}
 | .tup xs=>xs.length<=sizeLine/\∃its:List Value,au xs its/\kz h a its.toArray
 | .dK cC=>cC.length<=sizeLine/\(a==sysModules)=false/\∃vs,KV cC vs/\h.DictOf (mJ P w) a vs
 | .dT cC=>cC.length<=sizeLine/\(a==sysModules)=false/\∃xs:List (List Key×Addr×Value),
   Paired (λ(p:List Key×V) (q:List Key×Addr×Value)=>p.1=q.1/\H q.2.1=some (.tup (p.1.map kV))/\RelV p.2 q.2.2) cC xs/\
   ∃o es ep,h.get? a=some o/\o.ExactDict/\o.data= .dict es ep/\es.toList=xs.map (entryOfKey (tupleKind (mJ P w)))/\(xs.map (·.1)).Nodup
 | .set S n=>h.SetOf (intKind P w) a S n
 | .ins C dx fs=>H dx=some (.own a)/\fs.length<=1000/\dx≠a/\h.get? a=some (PySem.W.instObj C dx)/\
   ∃mA,h.Ns1 dx mA/\(∀f,BG (fs.lookup f) (mA f))/\PySem.Within mA (fs.map (·.1))
 | .own _=>∃o,h.get? a=some o
 | .xd fs=>∃mA,h.Ns1 a mA/\∀f,BG (fs.lookup f) (mA f)
 | .K5 lo hi=>∃t u v,h.get? a=some {cls:= .type "range",data:= .fields #[.int lo t,.int hi u,.int 1 v]}
 | .q9 o u=>h.get? a=some o/\bB H h a u
 | .uC ps=>h.get? a=some {cls:= .none,data:= .fields ps}
 | .met f x=>h.get? a=some (PySem.W.methodObj (.ref f) (.ref x))
 | .ext φ=>φ h/\(∃o,h.get? a=some o)/\∀h1 h2:Heap,φ h1->(∀o,h1.get? a=some o->h2.get? a=some o)->φ h2
noncomputable def d4 (H:Hp) (h:Heap):Prop:=∀a o,H a=some o->bB P w H h a o
end
section
variable {P:Program} {w:World} {H H':Hp} {h h':Heap} {a:Addr} {o:HO}
theorem bB.lt (x:bB P w H h a o):a < h.objs.size:=by
 cases o with
 | lst xs=>obtain⟨_,_,_,_,e⟩:=x;exact PN e
 | tup xs=>obtain⟨_,_,_,p⟩:=x;exact p.is.lt
 | dK cC=>obtain⟨_,_,_,_,o,_,_,e,_⟩:=x;exact PN e
 | dT cC=>obtain⟨_,_,_,_,o,_,_,e,_⟩:=x;exact PN e
 | set S n=>obtain⟨o,_,_,_,e,_⟩:=x;exact PN e
 | ins C dx fs=>obtain⟨_,_,_,e,_⟩:=x;exact PN e
 | own y=>obtain⟨_,e⟩:=x;exact PN e
 | xd fs=>obtain⟨_,⟨_,_,_,e,_⟩,_⟩:=x;exact PN e
 | K5 lo hi=>obtain⟨_,_,_,e⟩:=x;exact PN e
 | q9 ob u=>obtain⟨e,_⟩:=x;exact PN e
 | uC ps=>exact PN (show h.get? a=some _ from x)
 | met f y=>exact PN (show h.get? a=some _ from x)
 | ext φ=>obtain⟨_,⟨_,e⟩,_⟩:=x;exact PN e
theorem Paired.Gx {α β:Type} {F G:α->β->Prop}:∀{l₁:List α} {l₂:List β},Paired F l₁ l₂->(∀a b,F a b->G a b)->Paired G l₁ l₂
 | _,_,.nil,_=> .nil
 | _,_,.cons r t,f=> .cons (f _ _ r) (Paired.Gx t f)
theorem bB.mZ (x:bB P w H h a o) (k:∀b u,(b=a\/H b=some (.own a))->h.get? b=some u->h'.get? b=some u)
  (ho:∀b,H b=some (.own a)->H' b=some (.own a)) (ht:∀b xs,H b=some (.tup xs)->H' b=some (.tup xs)):bB P w H' h' a o:=by
 induction o with
 | lst xs=>obtain⟨z,its,n,r,e⟩:=x;exact⟨z,its,n,r,k _ _ (.inl rfl) e⟩
 | tup xs=>obtain⟨z,its,r,ob,e,c⟩:=x;exact⟨z,its,r,ob,k _ _ (.inl rfl) e,c⟩
 | dK cC=>obtain⟨z,y,vs,r,ob,es,ep,e,c⟩:=x;exact⟨z,y,vs,r,ob,es,ep,k _ _ (.inl rfl) e,c⟩
 | dT cC=>obtain⟨z,y,xs,r,ob,es,ep,e,c⟩:=x;exact⟨z,y,xs,Paired.Gx r λp q z=>⟨z.1,ht _ _ z.2.1,z.2.2⟩,ob,es,ep,k _ _ (.inl rfl) e,c⟩
 | set S n=>obtain⟨ob,es,ep,t,e,c⟩:=x;exact⟨ob,es,ep,t,k _ _ (.inl rfl) e,c⟩
 | ins C dx fs=>obtain⟨d,z,ne,e,mA,⟨od,es,ep,e2,c⟩,r⟩:=x;exact⟨ho _ d,z,ne,k _ _ (.inl rfl) e,mA,⟨od,es,ep,k _ _ (.inr d) e2,c⟩,r⟩
 | own y=>obtain⟨ob,e⟩:=x;exact⟨ob,k _ _ (.inl rfl) e⟩
 | xd fs=>obtain⟨mA,⟨od,es,ep,e,c⟩,r⟩:=x;exact⟨mA,⟨od,es,ep,k _ _ (.inl rfl) e,c⟩,r⟩
 | K5 lo hi=>obtain⟨t,u,v,e⟩:=x;exact⟨t,u,v,k _ _ (.inl rfl) e⟩
 | q9 ob u ih=>obtain⟨e,q⟩:=x;exact⟨k _ _ (.inl rfl) e,ih q⟩
 | uC ps=>have e:h.get? a=some {cls:= .none,data:= .fields ps}:=x;show h'.get? a=some {cls:= .none,data:= .fields ps};exact k a _ (.inl rfl) e
 | met f y=>have e:h.get? a=some (PySem.W.methodObj (.ref f) (.ref y)):=x;show h'.get? a=some (PySem.W.methodObj (.ref f) (.ref y));exact k a _ (.inl rfl) e
 | ext φ=>obtain⟨p,⟨o,e⟩,st⟩:=x;exact⟨st _ _ p λo q=>k _ _ (.inl rfl) q,⟨o,k _ _ (.inl rfl) e⟩,st⟩
theorem d4.lt (x:d4 P w H h) (e:H a=some o):a < h.objs.size:=(x a o e).lt
theorem d4.fresh (x:d4 P w H h) (e:h.objs.size<=a):H a=none:=by
 cases q:H a with
 | none=>rfl
 | some u=>exact absurd (P4 (x.lt q) e) (Nat.lt_irrefl _)
theorem d4.kept (x:d4 P w H h) (k:∀b u,h.get? b=some u->h'.get? b=some u):d4 P w H h':=λa o e=>
 (x a o e).mZ (λb u _ q=>k b u q) (λ_ q=>q) λ_ _ q=>q
theorem d4.laid (x:d4 P w H h) (k:∀b u,h.get? b=some u->h'.get? b=some u) (hp:h.objs.size<=a) (new:bB P w (upd H a o) h' a o):d4 P w (upd H a o) h':=λb u e=>by
 have hn:=x.fresh hp;by_cases hb:b=a
 ·subst hb;rw[aM] at e;cases e;exact new
 ·rw[aF hb] at e;exact(x b u e).mZ (λc v _ q=>k c v q) (λc q=>by rw[aF (a6 q hn)];exact q) λc xs q=>by rw[aF (a6 q hn)];exact q
end
noncomputable def Rd (H:Hp) (a:Addr) (u:HO):Prop:=H a=some u\/∃o,H a=some (.q9 o u)
theorem Rd.ok {P:Program} {w:World} {H:Hp} {h:Heap} {a:Addr} {u:HO} (r:Rd H a u) (x:d4 P w H h):bB P w H h a u:=by
 rcases r with r | ⟨o,r⟩
 ·exact x a u r
 ·obtain⟨_,q⟩:=x a _ r;exact q
noncomputable def Ia:Option HO->Prop
 | some (.lst _)=>True
 | some (.dK _)=>True
 | some (.dT _)=>True
 | some (.set _ _)=>True
 | some (.ins _ _ _)=>True
 | some (.ext _)=>True
 | _=>False
section
variable {P:Program} {w:World} {H:Hp} {h h':Heap} {x e:Addr} {o':HO}
theorem d4.write (ok:d4 P w H h) (mu:Ia (H x)) (he:e=x\/H e=some (.own x)) (k:∀b u,b≠e->h.get? b=some u->h'.get? b=some u) (EG:∃u,h'.get? e=some u)
  (new:bB P w (upd H x o') h' x o'):d4 P w (upd H x o') h':=λb u q=>by
 have GE:∀c y,H c=some (.own y)->c≠x:=λc y r z=>by subst z;rw[r] at mu;exact mu
 have KD:∀c xs,H c=some (.tup xs)->c≠x:=λc xs r z=>by subst z;rw[r] at mu;exact mu
 by_cases hb:b=x
 ·subst hb;rw[aM] at q;cases q;exact new
 ·rw[aF hb] at q;by_cases hbe:b=e
  ·have q':H b=some (.own x):=by
    rcases he with z | z
    ·exact absurd (hbe.trans z) hb
    ·rw[hbe];exact z
   rw[q] at q';cases q';obtain⟨v,hv⟩:=EG;exact⟨v,by rw[hbe];exact hv⟩
  ·refine(ok b u q).mZ (λc v hc r=>k c v ?_ r) (λc r=>by rw[aF (GE c b r)];exact r) λc xs r=>by rw[aF (KD c xs r)];exact r
   rcases hc with rfl | hc
   ·exact hbe
   ·rintro rfl;rcases he with z | z
    ·exact GE c b hc z
    ·rw[hc] at z;cases z;exact hb rfl
end
structure Un (fs ex:List Addr) (H H':Hp) (h h':Heap):Prop where
 keep:∀b o,h.get? b=some o->H b=none->b∉fs->b∉ex->h'.get? b=some o
 slot:∀b o,h.get? b=some o->H b=none->b∈fs->b∉ex->∃sl,h'.get? b=some {o with slots:=sl}
 free:∀b o,h.get? b=some o->H b=none->b∉ex->H' b=none
 there:∀b o,h.get? b=some o->b∉ex->∃o',h'.get? b=some o'
 tups:∀b xs,H b=some (.tup xs)->H' b=some (.tup xs)
 frzs:∀b o u,H b=some (.q9 o u)->H' b=some (.q9 o u)
 tbls:∀b ps,H b=some (.uC ps)->∃more,H' b=some (.uC (ps++more))
section
variable {fs JA ex O4:List Addr} {H H1 H2:Hp} {h h1 h2 h':Heap} {a x e:Addr} {o:HO}
theorem Un.any (u:Un fs ex H H1 h h1) {b:Addr} {ob:Obj} (q:h.get? b=some ob) (n:H b=none) (hx:b∉ex):∃sl,h1.get? b=some {ob with slots:=sl}:=by
 by_cases hb:b∈fs
 ·exact u.slot b ob q n hb hx
 ·exact⟨ob.slots,u.keep b ob q n hb hx⟩
theorem Un.trans (a:Un fs ex H H1 h h1) (b:Un fs ex H1 H2 h1 h2):Un fs ex H H2 h h2 where
 keep:=λc ob q n hc hx=>b.keep c ob (a.keep c ob q n hc hx) (a.free c ob q n hx) hc hx
 slot:=λc ob q n hc hx=>by obtain⟨sl,e1⟩:=a.slot c ob q n hc hx;obtain⟨Hh,e2⟩:=b.slot c _ e1 (a.free c ob q n hx) hc hx;exact⟨Hh,e2⟩
 free:=λc ob q n hx=>by obtain⟨o',e1⟩:=a.there c ob q hx;exact b.free c o' e1 (a.free c ob q n hx) hx
 there:=λc ob q hx=>by obtain⟨o',e1⟩:=a.there c ob q hx;exact b.there c o' e1 hx
 tups:=λc xs q=>b.tups c xs (a.tups c xs q)
 frzs:=λc ob xs q=>b.frzs c ob xs (a.frzs c ob xs q)
 tbls:=λc ps q=>by obtain⟨m1,e1⟩:=a.tbls c ps q;obtain⟨m2,e2⟩:=b.tbls c _ e1;exact⟨m1++m2,by rw[e2,Array.append_assoc]⟩
theorem Un.kept (k:∀b u,h.get? b=some u->h'.get? b=some u):Un fs ex H H h h':=
 ⟨λb ob q _ _ _=>k b ob q,λb ob q _ _ _=>⟨ob.slots,k b ob q⟩,λ_ _ _ n _=>n,λb ob q _=>⟨ob,k b ob q⟩,λ_ _ q=>q,λ_ _ _ q=>q,λ_ ps q=>⟨#[],by rw[q];simp⟩⟩
theorem Un.refl:Un fs ex H H h h:=Un.kept λ_ _ q=>q
theorem Un.laid (k:∀b u,h.get? b=some u->h'.get? b=some u) (hp:h.objs.size<=a) (hn:H a=none):Un fs ex H (upd H a o) h h' where
 keep:=λb u q _ _ _=>k b u q
 slot:=λb u q _ _ _=>⟨u.slots,k b u q⟩
 free:=λb u q n _=>by rw[aF (Qe (P4 (PN q) hp))];exact n
 there:=λb u q _=>⟨u,k b u q⟩
 tups:=λb xs q=>by rw[aF (a6 q hn)];exact q
 frzs:=λb u xs q=>by rw[aF (a6 q hn)];exact q
 tbls:=λb ps q=>⟨#[],by rw[aF (a6 q hn),q];simp⟩
theorem Un.write (mu:Ia (H x)) (he:e=x\/H e=some (.own x)) (k:∀b u,b≠e->h.get? b=some u->h'.get? b=some u) (EG:∃u,h'.get? e=some u):Un fs ex H (upd H x o) h h':=by
 have hx:∀b,H b=none->b≠x:=λb n z=>by subst z;rw[n] at mu;exact mu
 have hb:∀b,H b=none->b≠e:=λb n z=>by
  subst z;rcases he with r | r
  ·exact hx b n r
  ·rw[n] at r;cases r
 have hm:∀b u,H b=some u->¬Ia (some u)->b≠x:=λb u q nm z=>by subst z;rw[q] at mu;exact nm mu
 refine⟨λb u q n _ _=>k b u (hb b n) q,λb u q n _ _=>⟨u.slots,k b u (hb b n) q⟩,λb u q n _=>by rw[aF (hx b n)];exact n,λb u q _=>?_,
  λb xs q=>by rw[aF (hm b _ q λz=>z)];exact q,λb u xs q=>by rw[aF (hm b _ q λz=>z)];exact q,λb ps q=>⟨#[],by rw[aF (hm b _ q λz=>z),q];simp⟩⟩
 by_cases hbe:b=e
 ·subst hbe;exact EG
 ·exact⟨u,k b u hbe q⟩
end
noncomputable def D9 (h:Heap) (H:Hp):List Addr:=(List.range h.objs.size).filter λa=>(H a).isSome
noncomputable def mB (h:Heap) (H:Hp):Heap:=PySem.W.hideAll h (D9 h H)
theorem tN (h:Heap) (H:Hp):(mB h H).objs.size=h.objs.size:=PySem.W.hideAll_size _ _
theorem vY {h:Heap} {H:Hp} {b:Addr} {o:Obj} (e:h.get? b=some o) (n:H b=none):(mB h H).get? b=some o:=
 PySem.W.hideAll_get _ e λhm=>by have q:(H b).isSome=true:=(List.mem_filter.mp hm).2;rw[n] at q;simp at q
theorem zX {h:Heap} {H:Hp} {b:Addr} {o:Obj} (e:(mB h H).get? b=some o):h.get? b=some o/\H b=none:=by
 have e':h.get? b=some o:=PySem.W.of_hideAll (D9 h H) e;refine⟨e',?_⟩;cases q:H b with
 | none=>rfl
 | some x=>have hm:b∈D9 h H:=List.mem_filter.mpr ⟨Qu.mpr (PN e'),by simp[q]⟩;have z:(mB h H).get? b=none:=PySem.W.hideAll_none (D9 h H) hm;rw[z] at e;cases e
noncomputable def yK (g h:Heap) (L:Addr):List (Addr×Obj):=(List.range h.objs.size).filterMap λa=>if a=L\/(g.get? a).isSome=true then none else(h.get? a).map λo=>(a,o)
noncomputable def rest (g h:Heap) (L d:Addr):List (Addr×Obj):=(yK g h L).filter λp=>decide (p.1≠d)
end L2
namespace L2
open PySem PySem.Spec PyProof.Rows
structure Mod (K:PySem.W.Frag) (mg:Str->Option Value) (base:Heap):Prop where
 CS:K.In base
 glob:base.Ns mainGlobals mg
 blt:∃mb,base.Ns builtinsNs mb/\∀x:Str,x≠"__name__"->mb x=bootBuiltins x
 nolimit:base.NoLimit
structure Cx where
 prog:Program
 w:World
 K:PySem.W.Frag
 mg:Str->Option Value
 base:Heap
 A:Around
 N:List Str
 s₀:Shared
 H₀:Hp
 env:Env
 outer:List Env
 stack:List Env
 ex:List Addr
 fn:Str->Bool
 calm:Bool
 pn:List (Addr×Obj)
 xe:Value->Shared->Prop
noncomputable def dY (l:List Env):List Addr:=l.filterMap (·.frame)
noncomputable abbrev Cx.fs (X:Cx):List Addr:=dY X.outer
noncomputable def Eu (sc:Scope) (x:Str):Prop:=sc.names.lookup x=some .local\/sc.names.lookup x=some .cell\/sc.names.lookup x=some .free
noncomputable def Loc (sc:Scope) (x:Str):Prop:=sc.names.lookup x=some .local\/sc.names.lookup x=some .cell
noncomputable def Look (env:Env) (h:Heap) (m:Str->Option Value) (x:Str) (u:Value):Prop:=
 (env.kindOf x=some .local/\m x=some u)\/((env.kindOf x=some .cell\/env.kindOf x=some .free)/\∃c,env.cells.lookup x=some c/\h.IsCell c (some u))
structure Cx.Ok (X:Cx):Prop where
 mod:Mod X.K X.mg X.base
 kind:X.env.scope.kind= .function
 glob:X.env.globals=mainGlobals
 blt:X.env.builtins=builtinsNs
 above:X.s₀.heap.objs.size<=X.env.locals
 inj:∀x y c,X.env.cells.lookup x=some c->X.env.cells.lookup y=some c->x=y
 has:∀x,(X.env.kindOf x=some .cell\/X.env.kindOf x=some .free)->∃c,X.env.cells.lookup x=some c
 yi:∀x c,X.fn x=true->X.env.cells.lookup x=some c->X.s₀.heap.objs.size<=c
 hd:X.calm=true->X.A.handled=none
 frames:X.A.frames=some X.stack
 AA:X.stack=X.outer\/(X.stack=X.env::X.outer/\X.env.frame=some X.env.locals)
 A6:∀b∈X.ex,b≠X.env.locals/\∀x c,X.env.cells.lookup x=some c->c≠b
 bs:∀b o,X.base.get? b=some o->X.s₀.heap.get? b=some o/\X.H₀ b=none
 u7:X.base.objs.size<=X.s₀.heap.objs.size
 kG:∀b o,X.base.get? b=some o->b∉X.ex
 mq:∀b∈X.ex,b∉X.fs
 fS:X.s₀.heap.FunFrames X.base X.outer
 zj:∀b∈X.fs,X.H₀ b=none
structure Inv (X:Cx) (pins:List (Addr×Obj)) (σ:List (Option V)) (H:Hp) (s:Shared):Prop where
 ok:X.Ok
 os:s.os=X.s₀.os
 bare:AllBare s.gens
 base:Un X.fs X.ex X.H₀ H X.s₀.heap s.heap
 loc:∃m,s.heap.Ns X.env.locals m/\∀(i:Nat) (x:Str) (v:V),X.N[i]?=some x->σ[i]?=some (some v)->Eu X.env.scope x->∃u,RelV v u/\Look X.env s.heap m x u
 cell:∀x c,X.env.cells.lookup x=some c->∃v,s.heap.IsCell c v
 free:H X.env.locals=none
 cm:∀x c,X.env.cells.lookup x=some c->H c=none
 pin:∀p∈X.pn++pins,s.heap.get? p.1=some p.2/\H p.1=none/\p.1≠X.env.locals/\p.1∉X.fs/\∀v,p.2.data≠ .cell v
 hok:d4 X.prog X.w H s.heap
 len:σ.length=X.N.length
section
variable {X:Cx} {pins:List (Addr×Obj)} {σ:List (Option V)} {H H':Hp} {s:Shared} {h':Heap}
theorem Cx.Ok.KB (ok:X.Ok) {b:Addr} {o:Obj} (e:X.base.get? b=some o):b∉X.fs:=λhb=>by have:=(ok.fS.mem hb).1;rw[e] at this;cases this
theorem Inv.bs (I:Inv X pins σ H s):∀b o,X.base.get? b=some o->s.heap.get? b=some o/\H b=none:=λb o e=>
 ⟨I.base.keep b o (I.ok.bs b o e).1 (I.ok.bs b o e).2 (I.ok.KB e) (I.ok.kG b o e),I.base.free b o (I.ok.bs b o e).1 (I.ok.bs b o e).2 (I.ok.kG b o e)⟩
theorem Inv.bk (I:Inv X pins σ H s):∀b o,X.base.get? b=some o->s.heap.get? b=some o:=λb o e=>(I.bs b o e).1
theorem Inv.mod (I:Inv X pins σ H s):Mod X.K X.mg X.base:=I.ok.mod
theorem Inv.jb (I:Inv X pins σ H s):X.K.In s.heap:=I.ok.mod.CS.keeps I.bk
theorem Inv.fr (I:Inv X pins σ H s):∃m,Fr X.base X.env.locals s.heap m:=
 let ⟨m,hn,_⟩:=I.loc
 ⟨m,hn,I.bk,PP I.ok.u7 I.ok.above⟩
theorem Inv.lt (I:Inv X pins σ H s):X.env.locals < s.heap.objs.size:=let ⟨_,hn,_⟩:=I.loc;hn.lt
theorem Inv.sz (I:Inv X pins σ H s):X.s₀.heap.objs.size<=s.heap.objs.size:=PP I.ok.above (Nat.le_of_lt I.lt)
theorem Inv.KC (I:Inv X pins σ H s) {a:Addr} (h:s.heap.objs.size<=a):a∉X.fs:=λhb=>by obtain⟨_,o,ho,_⟩:=I.ok.fS.mem hb;exact absurd (P4 (PN ho) (PP I.sz h)) (Nat.lt_irrefl _)
theorem Inv.B5 (I:Inv X pins σ H s):∀x c,X.env.cells.lookup x=some c->c≠X.env.locals:=λx c e z=>by obtain⟨v,o,ho,hd⟩:=I.cell x c e;obtain⟨m,⟨o',es,ep,pS,kE,_⟩,_⟩:=I.loc;rw[z,pS] at ho;cases ho;rw[kE] at hd;cases hd
theorem Inv.fS (I:Inv X pins σ H s):s.heap.FunFrames X.base X.outer:=by
 have all:∀(l:List Env),(∀b∈dY l,b∈X.fs)->X.s₀.heap.FunFrames X.base l->s.heap.FunFrames X.base l:=by
  intro l
  induction l with
  | nil=>intro _ _;trivial
  | cons env r ih=>
   intro hs hl;obtain⟨hk,⟨L,o,hf,hn,ho,hd⟩,hr⟩:=hl;have hL:L∈X.fs:=hs L (by unfold dY;rw[List.filterMap_cons,hf];exact PH);obtain⟨sl,e⟩:=I.base.slot L o ho (I.ok.zj L hL) hL λz=>I.ok.mq L z hL
   exact⟨hk,⟨L,_,hf,hn,e,hd⟩,ih (λb hb=>hs b (by unfold dY;rw[List.filterMap_cons,hf];exact PC _ hb)) hr⟩
 exact all X.outer (λ_ hb=>hb) I.ok.fS
theorem Inv.stack (I:Inv X pins σ H s):s.heap.FunFrames X.base X.stack:=by
 rcases I.ok.AA with e | ⟨e,hf⟩
 ·rw[e];exact I.fS
 ·rw[e];obtain⟨m,hn,_⟩:=I.loc;refine .cons (by rw[I.ok.kind];decide) hf hn ?_ I.fS;exact Heap.get?_none_of_le (PP I.ok.u7 I.ok.above)
theorem Inv.j9 (I:Inv X pins σ H s):∀b∈dY X.stack,b∈X.env.locals::X.fs:=λb hb=>by
 rcases I.ok.AA with e | ⟨e,hf⟩
 ·rw[e] at hb;exact PC _ hb
 ·rw[e] at hb;unfold dY at hb;rw[List.filterMap_cons,hf] at hb;exact hb
theorem Inv.m9 (I:Inv X pins σ H s):∀b∈dY X.stack,H b=none:=λb hb=>by
 rcases PQ.mp (I.j9 b hb) with e | hb
 ·rw[e];exact I.free
 ·obtain⟨_,o,ho,_⟩:=I.ok.fS.mem hb;exact I.base.free b o ho (I.ok.zj b hb) λz=>I.ok.mq b z hb
theorem Inv.step {g':Array GenState} {t':Nat} {d':Drawn} {ch:List Addr} (I:Inv X pins σ H s)
  (yt:∀b∈ch,(b∈X.ex\/X.s₀.heap.objs.size<=b)/\b≠X.env.locals/\(∀x c,X.env.cells.lookup x=some c->c≠b)/\∀p∈X.pn++pins,p.1≠b)
  (keep:∀b o,b≠X.env.locals->b∉X.fs->b∉ch->s.heap.get? b=some o->H b=none->h'.get? b=some o)
  (slot:∀b o,b≠X.env.locals->b∈X.fs->b∉ch->s.heap.get? b=some o->H b=none->∃sl,h'.get? b=some {o with slots:=sl}) (free:∀b o,b∉ch->s.heap.get? b=some o->H b=none->H' b=none)
  (there:∀b o,b∉ch->s.heap.get? b=some o->∃o',h'.get? b=some o')
  (tups:∀b xs,H b=some (.tup xs)->H' b=some (.tup xs)) (frzs:∀b o u,H b=some (.q9 o u)->H' b=some (.q9 o u)) (tbls:∀b ps,H b=some (.uC ps)->∃more,H' b=some (.uC (ps++more)))
  (ns:∀m,s.heap.Ns X.env.locals m->h'.Ns X.env.locals m) (hok:d4 X.prog X.w H' h') (hg:AllBare g'):
  Inv X pins σ H' {s with heap:=h',gens:=g',drawn:=d',toks:=t'}:=by
 have ID:∀b o,X.s₀.heap.get? b=some o->b≠X.env.locals:=λb o e=>Qe (P4 (PN e) I.ok.above)
 have IC:∀b o,X.s₀.heap.get? b=some o->b∉X.ex->b∉ch:=λb o e hx hb=>by
  rcases (yt b hb).1 with z | z
  ·exact hx z
  ·exact absurd (P4 (PN e) z) (Nat.lt_irrefl _)
 have cellK:∀x c,X.env.cells.lookup x=some c->∀v,s.heap.IsCell c v->h'.IsCell c v:=λx c e v ⟨o,ho,hd⟩=>by
  have GA:c∉ch:=λz=>(yt c z).2.2.1 x c e rfl
  by_cases hc:c∈X.fs
  ·obtain⟨sl,q⟩:=slot c o (I.B5 x c e) hc GA ho (I.cm x c e);exact⟨_,q,hd⟩
  ·exact⟨o,keep c o (I.B5 x c e) hc GA ho (I.cm x c e),hd⟩
 refine⟨I.ok,I.os,hg,⟨λb o e n hb hx=>?_,λb o e n hb hx=>?_,λb o e n hx=>?_,λb o e hx=>?_,λb xs e=>tups b xs (I.base.tups b xs e),λb o xs e=>frzs b o xs (I.base.frzs b o xs e),λb ps e=>?_⟩,?_,λx c e=>?_,?_,λx c e=>?_,λp hp=>?_,hok,I.len⟩
 ·exact keep b o (ID b o e) hb (IC b o e hx) (I.base.keep b o e n hb hx) (I.base.free b o e n hx)
 ·obtain⟨sl,e1⟩:=I.base.slot b o e n hb hx;obtain⟨Hh,e2⟩:=slot b _ (ID b o e) hb (IC b o e hx) e1 (I.base.free b o e n hx);exact⟨Hh,e2⟩
 ·obtain⟨o',e1⟩:=I.base.there b o e hx;exact free b o' (IC b o e hx) e1 (I.base.free b o e n hx)
 ·obtain⟨o',e1⟩:=I.base.there b o e hx;exact there b o' (IC b o e hx) e1
 ·obtain⟨m1,e1⟩:=I.base.tbls b ps e;obtain⟨m2,e2⟩:=tbls b _ e1;exact⟨m1++m2,by rw[e2,Array.append_assoc]⟩
 ·obtain⟨m,hn,hl⟩:=I.loc;refine⟨m,ns m hn,λi x v e1 e2 e3=>?_⟩;obtain⟨u,r,l⟩:=hl i x v e1 e2 e3;refine⟨u,r,?_⟩;rcases l with l | ⟨k,c,e,z⟩
  ·exact .inl l
  ·exact .inr ⟨k,c,e,cellK x c e _ z⟩
 ·obtain⟨v,z⟩:=I.cell x c e;exact⟨v,cellK x c e v z⟩
 ·obtain⟨m,⟨o,_,_,ho,_⟩,_⟩:=I.loc;exact free _ o (λz=>(yt _ z).2.1 rfl) ho I.free
 ·obtain⟨v,o,ho,hd⟩:=I.cell x c e;exact free c o (λz=>(yt c z).2.2.1 x c e rfl) ho (I.cm x c e)
 ·obtain⟨e,n,ne,nf,d⟩:=I.pin p hp;have GA:p.1∉ch:=λz=>(yt p.1 z).2.2.2 p hp rfl
  exact⟨keep p.1 p.2 ne nf GA e n,free p.1 p.2 GA e n,ne,nf,d⟩
theorem Inv.un {t':Nat} (I:Inv X pins σ H s) (u:Un X.fs [] H H' s.heap h') (hok:d4 X.prog X.w H' h'):Inv X pins σ H' {s with heap:=h',toks:=t'}:=by
 obtain⟨m,⟨o,es,ep,ho,r⟩,_⟩:=id I.loc;obtain⟨sl,hL⟩:=u.any ho I.free (by simp);exact I.step (g':=s.gens) (d':=s.drawn) (ch:=[]) (λ_ z=>nomatch z) (λb o _ hb _ e n=>u.keep b o e n hb (by simp)) (λb o _ hb _ e n=>u.slot b o e n hb (by simp)) (λb o _ e n=>u.free b o e n (by simp)) (λb o _ e=>u.there b o e (by simp)) u.tups u.frzs u.tbls (λm' hm=>by
  obtain⟨o',fJ,Jw,pS,r'⟩:=hm;rw[ho] at pS;cases pS;exact⟨_,fJ,Jw,hL,r'⟩) hok I.bare
theorem Inv.call {g':Array GenState} {t':Nat} {d':Drawn} {ch:List Addr} (I:Inv X pins σ H s) (u:Un (dY X.stack) ch H H' s.heap h') (hok:d4 X.prog X.w H' h') (hg:AllBare g')
  (yt:∀b∈ch,(b∈X.ex\/X.s₀.heap.objs.size<=b)/\b≠X.env.locals/\(∀x c,X.env.cells.lookup x=some c->c≠b)/\∀p∈X.pn++pins,p.1≠b):
  Inv X pins σ H' {s with heap:=h',gens:=g',drawn:=d',toks:=t'}:=by
 obtain⟨m,⟨o,es,ep,ho,r⟩,_⟩:=id I.loc;obtain⟨sl,hL⟩:=u.any ho I.free λz=>(yt _ z).2.1 rfl
 exact I.step (ch:=ch) yt (λb o hL hb hc e n=>u.keep b o e n (λz=>(PQ.mp (I.j9 b z)).elim hL hb) hc) (λb o _ _ hc e n=>u.any e n hc) (λb o hc e n=>u.free b o e n hc) (λb o hc e=>u.there b o e hc) u.tups u.frzs u.tbls (λm' hm=>by
  obtain⟨o',fJ,Jw,pS,r'⟩:=hm;rw[ho] at pS;cases pS;exact⟨_,fJ,Jw,hL,r'⟩) hok hg
theorem Inv.turned {t':Nat} {it:Addr} (I:Inv X pins σ H s) (k:∀b o,b≠it->s.heap.get? b=some o->h'.get? b=some o) (hn:H it=none) (hL:it≠X.env.locals)
  (h1:it∈X.ex\/X.s₀.heap.objs.size<=it) (h2:∀x c,X.env.cells.lookup x=some c->c≠it) (h3:∀p∈X.pn++pins,p.1≠it):Inv X pins σ H {s with heap:=h',toks:=t'}:=by
 have Mm:∀b u,H b=some u->b≠it:=λb u e z=>by rw[z,hn] at e;cases e
 refine I.step (g':=s.gens) (d':=s.drawn) (ch:=[it]) (λb hb=>?_) (λb o _ _ hc e _=>k b o (λz=>hc (by simp[z])) e) (λb o _ _ hc e _=>⟨o.slots,k b o (λz=>hc (by simp[z])) e⟩) (λ_ _ _ _ n=>n)
  (λb o hc e=>⟨o,k b o (λz=>hc (by simp[z])) e⟩) (λ_ _ e=>e) (λ_ _ _ e=>e) (λb ps e=>⟨#[],by rw[e];simp⟩) (λm hm=>?_) (λb u e=>?_) I.bare
 ·have e:b=it:=by simpa using hb
  subst e;exact⟨h1,hL,h2,h3⟩
 ·obtain⟨o,es,ep,ho,r⟩:=hm;exact⟨o,es,ep,k _ o (Ne.symm hL) ho,r⟩
 ·refine(I.hok b u e).mZ (λc v hc q=>k c v ?_ q) (λ_ q=>q) λ_ _ q=>q
  rcases hc with z | z
  ·rw[z];exact Mm b u e
  ·exact Mm c _ z
theorem Inv.tok (I:Inv X pins σ H s) (t:Nat):Inv X pins σ H {s with toks:=t}:=I.un (h':=s.heap) (t':=t) Un.refl I.hok
theorem Inv.kept {t':Nat} (I:Inv X pins σ H s) (k:∀b u,s.heap.get? b=some u->h'.get? b=some u):Inv X pins σ H {s with heap:=h',toks:=t'}:=I.un (Un.kept k) (I.hok.kept k)
theorem Inv.laid {a:Addr} {o:HO} {t':Nat} (I:Inv X pins σ H s) (k:∀b u,s.heap.get? b=some u->h'.get? b=some u) (hp:s.heap.objs.size<=a) (new:bB X.prog X.w (upd H a o) h' a o):
  Inv X pins σ (upd H a o) {s with heap:=h',toks:=t'}:=I.un (Un.laid k hp (I.hok.fresh hp)) (I.hok.laid k hp new)
theorem Inv.write {x e:Addr} {o:HO} {t':Nat} (I:Inv X pins σ H s) (mu:Ia (H x)) (he:e=x\/H e=some (.own x)) (k:∀b u,b≠e->s.heap.get? b=some u->h'.get? b=some u) (EG:∃u,h'.get? e=some u)
  (new:bB X.prog X.w (upd H x o) h' x o):Inv X pins σ (upd H x o) {s with heap:=h',toks:=t'}:=I.un (Un.write mu he k EG) (I.hok.write mu he k EG new)
theorem Inv.weak {σ':List (Option V)} (I:Inv X pins σ H s) (hl:σ'.length=σ.length) (w:∀(i:Nat) v,σ'[i]?=some (some v)->σ[i]?=some (some v)):Inv X pins σ' H s:=
 ⟨I.ok,I.os,I.bare,I.base,let ⟨m,hn,Cq⟩:=I.loc;⟨m,hn,λi x v e1 e2 e3=>Cq i x v e1 (w i v e2) e3⟩,I.cell,I.free,I.cm,I.pin,I.hok,hl.trans I.len⟩
theorem Inv.fq {pins':List (Addr×Obj)} (I:Inv X pins σ H s) (h:∀p∈pins',s.heap.get? p.1=some p.2/\H p.1=none/\p.1≠X.env.locals/\p.1∉X.fs/\∀v,p.2.data≠ .cell v):Inv X pins' σ H s:=
 ⟨I.ok,I.os,I.bare,I.base,I.loc,I.cell,I.free,I.cm,λp hp=>(P5.mp hp).elim (λz=>I.pin p (List.mem_append_left _ z)) (h p),I.hok,I.len⟩
theorem gM {N:List Str} (hN:N.Nodup) {i j:Nat} {x:Str} (a:N[i]?=some x) (b:N[j]?=some x):i=j:=by obtain⟨h1,e1⟩:=Pz.mp a;obtain⟨h2,e2⟩:=Pz.mp b;exact(List.getElem_inj hN).mp (e1.trans e2.symm)
theorem lD {M:Model} {A:Around} {E:Value->Shared->Prop} {i:Nat} {x:Str} {v:V} {u:Value} {Q:Unit->Shared->Prop} (I:Inv X pins σ H s) (hN:X.N.Nodup) (hi:X.N[i]?=some x) (hx:Loc X.env.scope x) (r:RelV v u)
  (h:∀s',Inv X pins (σ.set i (some v)) H s'->(∃a,Heap.SameBut a s.heap s'.heap/\(a=X.env.locals\/X.env.cells.lookup x=some a))->Q () s') (hf:X.fn x=true\/X.env.scope.names.lookup x=some .local:=by first | exact .inl rfl | exact .inr rfl | assumption):wpAny M A (storeName X.env x u) Q E s:=by
 obtain⟨m,hn,hl⟩:=id I.loc;have n8:(X.env.scope.kind== .class||(X.env.scope.kind== .module&&X.env.locals != X.env.globals))=false:=by rw[I.ok.kind];rfl
 have hiσ:i < σ.length:=by rw[I.len];exact(Pz.mp hi).1
 have B5:=I.B5;have tracked:∀{a:Addr} {h':Heap},(∃o,s.heap.get? a=some o/\H a=none)->Heap.SameBut a s.heap h'->d4 X.prog X.w H h':=λ {a h'} ha hs b ob e=>by
  obtain⟨_,_,Ba⟩:=ha;refine(I.hok b ob e).mZ (λc w' hc q=>(hs.2 c ?_).trans q) (λ_ q=>q) λ_ _ q=>q
  rintro rfl;rcases hc with rfl | hc
  ·rw[Ba] at e;cases e
  ·rw[Ba] at hc;cases hc
 rcases hx with hk | hk
 ·refine wpAny_storeName_local hk hn (λh' N4 hs=>?_) n8;obtain⟨oL,_,_,Iy,_⟩:=id hn;refine h _ ⟨I.ok,I.os,I.bare,⟨λb o e n hb hx=>?_,λb o e n hb hx=>?_,I.base.free,λb o e hx=>?_,I.base.tups,I.base.frzs,I.base.tbls⟩,⟨_,N4,λj y v' e1 e2 e3=>?_⟩,λy c e=>?_,I.free,I.cm,λp hp=>?_,tracked ⟨oL,Iy,I.free⟩ hs,by simpa using I.len⟩ ⟨_,hs,.inl rfl⟩
  ·exact(hs.2 b (Qe (P4 (PN e) I.ok.above))).trans (I.base.keep b o e n hb hx)
  ·obtain⟨sl,e1⟩:=I.base.slot b o e n hb hx;exact⟨sl,(hs.2 b (Qe (P4 (PN e) I.ok.above))).trans e1⟩
  ·obtain⟨o',e1⟩:=I.base.there b o e hx;exact⟨o',(hs.2 b (Qe (P4 (PN e) I.ok.above))).trans e1⟩
  ·by_cases hj:j=i
   ·subst hj;rw[hi] at e1;cases e1;rw[Qt hiσ] at e2;cases e2;exact⟨u,r,.inl ⟨hk,by simp⟩⟩
   ·rw[PZ (Ne.symm hj)] at e2;obtain⟨u',r',q⟩:=hl j y v' e1 e2 e3;refine⟨u',r',?_⟩;rcases q with ⟨k,e⟩ | ⟨k,c,e,z⟩
    ·refine .inl ⟨k,?_⟩;have:y≠x:=λe=>hj (gM hN e1 (e▸hi))
     simp[this,e]
    ·exact .inr ⟨k,c,e,z.sameBut hs (B5 y c e)⟩
  ·obtain⟨w',z⟩:=I.cell y c e;exact⟨w',z.sameBut hs (B5 y c e)⟩
  ·obtain⟨e,n,ne,nf,d⟩:=I.pin p hp;exact⟨(hs.2 p.1 ne).trans e,n,ne,nf,d⟩
 ·have vX:X.fn x=true:=by
   rcases hf with z | z
   ·exact z
   ·rw[z] at hk;cases hk
  obtain⟨c,hc⟩:=I.ok.has x (.inl hk);obtain⟨w',z⟩:=I.cell x c hc;refine wpAny_storeName_cell I.ok.kind hk hc z (λh' kD hs=>?_);obtain⟨oc,Ma,J5⟩:=id z;refine h {s with heap:=h'} ⟨I.ok,I.os,I.bare,⟨λb o e n hb hx=>?_,λb o e n hb hx=>?_,I.base.free,λb o e hx=>?_,I.base.tups,I.base.frzs,I.base.tbls⟩,⟨m,hn.sameBut hs (Ne.symm (B5 x c hc)),λj y v' e1 e2 e3=>?_⟩,λy c' e=>?_,I.free,I.cm,λp hp=>?_,tracked ⟨oc,Ma,I.cm x c hc⟩ hs,by simpa using I.len⟩ ⟨c,hs,.inr hc⟩
  ·exact(hs.2 b (Qe (P4 (PN e) (I.ok.yi x c vX hc)))).trans (I.base.keep b o e n hb hx)
  ·obtain⟨sl,e1⟩:=I.base.slot b o e n hb hx;exact⟨sl,(hs.2 b (Qe (P4 (PN e) (I.ok.yi x c vX hc)))).trans e1⟩
  ·obtain⟨o',e1⟩:=I.base.there b o e hx;exact⟨o',(hs.2 b (Qe (P4 (PN e) (I.ok.yi x c vX hc)))).trans e1⟩
  ·by_cases hj:j=i
   ·subst hj;rw[hi] at e1;cases e1;rw[Qt hiσ] at e2;cases e2;exact⟨u,r,.inr ⟨.inl hk,c,hc,kD⟩⟩
   ·rw[PZ (Ne.symm hj)] at e2;obtain⟨u',r',q⟩:=hl j y v' e1 e2 e3;refine⟨u',r',?_⟩;rcases q with q | ⟨k,c',e,z'⟩
    ·exact .inl q
    ·refine .inr ⟨k,c',e,z'.sameBut hs ?_⟩;rintro rfl;exact hj (gM hN e1 (I.ok.inj _ _ _ e hc▸hi))
  ·by_cases hcc:c'=c
   ·subst hcc;exact⟨_,kD⟩
   ·obtain⟨w2,z2⟩:=I.cell y c' e;exact⟨w2,z2.sameBut hs hcc⟩
  ·obtain⟨e,n,ne,nf,d⟩:=I.pin p hp;refine⟨(hs.2 p.1 ?_).trans e,n,ne,nf,d⟩;intro q;rw[q,Ma] at e;have q':oc=p.2:=Option.some.inj e;exact d w' (by rw[<-q'];exact J5)
theorem ka {M:Model} {A:Around} {E:Value->Shared->Prop} {i:Nat} {x:Str} {v:V} {u:Value} {Q:Unit->Shared->Prop} (I:Inv X pins σ H s) (hN:X.N.Nodup) (hi:X.N[i]?=some x) (hx:Loc X.env.scope x) (r:RelV v u)
  (h:∀s',Inv X pins (σ.set i (some v)) H s'->Q () s') (hf:X.fn x=true\/X.env.scope.names.lookup x=some .local:=by first | exact .inl rfl | exact .inr rfl | assumption):wpAny M A (storeName X.env x u) Q E s:=
 lD I hN hi hx r (λs' I' _=>h s' I') hf
theorem Inv.vc {s':Shared} {ch:List Addr} (I:Inv X pins σ H s) (ho:s'.os=s.os) (u:Un (dY X.stack) ch H H' s.heap s'.heap) (hok:d4 X.prog X.w H' s'.heap) (hg:AllBare s'.gens)
  (yt:∀b∈ch,(b∈X.ex\/X.s₀.heap.objs.size<=b)/\b≠X.env.locals/\(∀x c,X.env.cells.lookup x=some c->c≠b)/\∀p∈X.pn++pins,p.1≠b):Inv X pins σ H' s':=by
 obtain⟨h',g',d',t',o'⟩:=s';have e:o'=s.os:=ho;subst e;exact I.call (g':=g') (t':=t') (d':=d') u hok hg yt
end
noncomputable abbrev XK:=Value->Option Addr->Hp->Prop
noncomputable abbrev St:=List (Option V)
noncomputable abbrev VK:=V->Hp->Prop
noncomputable abbrev TE:=St->Hp->VK->Prop
noncomputable abbrev TT:=St->Hp->(Bool->Hp->Prop)->Prop
noncomputable abbrev TA:=St->Hp->(List V->Hp->Prop)->Prop
structure Ends where
 nx:St->Hp->Prop
 rt:VK
 bk:St->Hp->Prop:=λ_ _=>False
 ct:St->Hp->Prop:=λ_ _=>False
noncomputable abbrev TS:=Ends->St->Hp->Prop
inductive EP (X:Cx) (pins:List (Addr×Obj)) (σ:St) (Q:VK) (u:Value) (s':Shared):Prop
 | mk (v:V) (H':Hp) (i:Inv X pins σ H' s') (r:RelV v u) (q:Q v H'):EP X pins σ Q u s'
inductive TP (X:Cx) (pins:List (Addr×Obj)) (σ:St) (Q:Bool->Hp->Prop) (b:Bool) (s':Shared):Prop
 | mk (H':Hp) (i:Inv X pins σ H' s') (q:Q b H'):TP X pins σ Q b s'
inductive AP (X:Cx) (pins:List (Addr×Obj)) (σ:St) (Q:List V->Hp->Prop) (us:List Value) (s':Shared):Prop
 | mk (vs:List V) (H':Hp) (i:Inv X pins σ H' s') (r:au vs us) (q:Q vs H'):AP X pins σ Q us s'
noncomputable def SP (X:Cx) (pins:List (Addr×Obj)) (D:Ends) (f:Flow) (s':Shared):Prop:=
 match f with
 | .next=>∃σ' H',Inv X pins σ' H' s'/\D.nx σ' H'
 | .brk=>∃σ' H',Inv X pins σ' H' s'/\D.bk σ' H'
 | .cont=>∃σ' H',Inv X pins σ' H' s'/\D.ct σ' H'
 | .ret u=>∃v σ' H',Inv X pins σ' H' s'/\RelV v u/\D.rt v H'
noncomputable def PE (X:Cx) (e:Expr) (t:TE):Prop:=
 ∀(pins:List (Addr×Obj)) (s:Shared) (σ:St) (H:Hp) (Q:VK),Inv X pins σ H s->t σ H Q->wpAny (model X.prog X.w) X.A (eval e X.env) (EP X pins σ Q) X.xe s
noncomputable def PT (X:Cx) (e:Expr) (t:TT):Prop:=
 ∀(pins:List (Addr×Obj)) (s:Shared) (σ:St) (H:Hp) (Q:Bool->Hp->Prop),Inv X pins σ H s->t σ H Q->wpAny (model X.prog X.w) X.A (isTrue e X.env (eval e X.env)) (TP X pins σ Q) X.xe s
noncomputable def PW (X:Cx) (e:Expr) (t:TT):Prop:=
 ∀(whole:Sem Value) (pins:List (Addr×Obj)) (s:Shared) (σ:St) (H:Hp) (Q:Bool->Hp->Prop),Inv X pins σ H s->t σ H Q->wpAny (model X.prog X.w) X.A (isTrue e X.env whole) (TP X pins σ Q) X.xe s
theorem PW.pt {X:Cx} {e:Expr} {t:TT} (h:PW X e t):PT X e t:=h _
noncomputable def PA (X:Cx) (es:List Expr) (t:TA):Prop:=
 ∀(pos:Pos) (pins:List (Addr×Obj)) (s:Shared) (σ:St) (H:Hp) (Q:List V->Hp->Prop),Inv X pins σ H s->t σ H Q->wpAny (model X.prog X.w) X.A (spliced (backTo pos (starEach es X.env))) (AP X pins σ Q) X.xe s
noncomputable def PS (X:Cx) (st:Stmt) (t:TS):Prop:=
 ∀(pins:List (Addr×Obj)) (s:Shared) (σ:St) (H:Hp) (D:Ends),Inv X pins σ H s->t D σ H->wpAny (model X.prog X.w) X.A (exec st X.env) (SP X pins D) X.xe s
noncomputable def nF (X:Cx) (st:List Stmt) (t:TS):Prop:=
 ∀(pins:List (Addr×Obj)) (s:Shared) (σ:St) (H:Hp) (D:Ends),Inv X pins σ H s->t D σ H->wpAny (model X.prog X.w) X.A (execs st X.env) (SP X pins D) X.xe s
theorem bH {α:Type} {t:Sem α} {Q Q':α->Shared->Prop} {M:Model} {A:Around} {E:Value->Shared->Prop} {s:Shared} (h:wpAny M A t Q E s) (hQ:∀a s,Q a s->Q' a s):wpAny M A t Q' E s:=wpAny_mono h hQ λ_ _ x=>x
end L2
namespace L2
open PySem PySem.Spec PyProof.Rows
section
variable {X:Cx}
theorem bin {a b:Expr} {ta tb:TE} (ha:PE X a ta) (hb:PE X b tb) {pins:List (Addr×Obj)} {s:Shared} {σ:St} {H:Hp} {R:V->V->Hp->Prop} (I:Inv X pins σ H s) (h:ta σ H λx H1=>tb σ H1 λy H2=>R x y H2)
  {α:Type} {Q:α->Shared->Prop} {f:Value->Value->Sem α}
  (hf:∀v u s2 x y H2,Inv X pins σ H2 s2->RelV x v->RelV y u->R x y H2->wpAny (model X.prog X.w) X.A (f v u) Q X.xe s2):
  wpAny (model X.prog X.w) X.A (eval a X.env) (λv s₁=>wpAny (model X.prog X.w) X.A (eval b X.env) (λu s₂=>wpAny (model X.prog X.w) X.A (f v u) Q X.xe s₂) X.xe s₁) X.xe s:=by
 refine bH (ha pins s σ H _ I h) λv s1 ⟨x,H1,I1,r1,q1⟩=>?_
 refine bH (hb pins s1 σ H1 _ I1 q1) λu s2 ⟨y,H2,I2,r2,q2⟩=>?_
 exact hf v u s2 x y H2 I2 r1 r2 q2
noncomputable def iV (i:Nat):TE:=λσ H Q=>∃v,σ[i]?=some (some v)/\Q v H
noncomputable def tC (v:V):TE:=λ_ H Q=>Q v H
theorem qi {i:Nat} {x:Str} {pos:Pos} (hN:X.N[i]?=some x) (hv:Eu X.env.scope x) (hd:(x==("__debug__":Str))=false:=by decide) (ux:(x==("__classdict__":Str))=false:=by decide):PE X (.Name x pos) (iV i):=by
 intro pins s σ H Q I h;obtain⟨v,e,h⟩:=h;obtain⟨m,hn,hl⟩:=I.loc;obtain⟨u,r,l⟩:=hl i x v hN e hv;have fin:EP X pins σ Q u s:=⟨v,H,I,r,h⟩;rcases l with ⟨hk,hm⟩ | ⟨hk,c,hc,n0⟩
 ·exact wpAny_Name (wpAny_loadName_local I.ok.kind hk hn hm fin) hd
 ·rcases hk with hk | hk
  ·exact wpAny_Name (wpAny_loadName_cell I.ok.kind hk hc n0 fin) hd
  ·exact wpAny_Name (wpAny_loadName_free I.ok.kind hk hc n0 fin ux) hd
theorem Dr {i j pos}:PE X (.Constant (.int i) j pos) (tC (.int i)):=λ_ _ _ H _ I h=>wpAny_Constant_int ⟨.int i,H,I.tok _,⟨_,rfl⟩,h⟩
theorem Bj {b j pos}:PE X (.Constant (.bool b) j pos) (tC (.bl b)):=λ_ _ _ H _ I h=>Constant_bool ⟨.bl b,H,I,rfl,h⟩
theorem Ds {j pos}:PE X (.Constant .none j pos) (tC .aP):=λ_ _ _ H _ I h=>Constant_none ⟨.aP,H,I,rfl,h⟩
theorem Du {x j pos}:PE X (.Constant (.str x) j pos) (tC (.str x)):=λ_ _ _ H _ I h=>Calls.Constant_str ⟨.str x,H,I.tok _,⟨_,rfl⟩,h⟩
noncomputable def Gl (X:Cx) (x:Str):Prop:=X.env.kindOf x=some .globalImplicit
theorem gG {E:Value->Shared->Prop} {pins:List (Addr×Obj)} {s:Shared} {σ:St} {H:Hp} {x:Str} {u:Value} {pos:Pos} {Q:Value->Shared->Prop} (I:Inv X pins σ H s) (hg:Gl X x) (hm:X.mg x=some u) (h:Q u s)
  (hd:(x==("__debug__":Str))=false:=by decide):wpAny (model X.prog X.w) X.A (eval (.Name x pos) X.env) Q E s:=
 Calls.Name_function_global I.ok.kind hg (Calls.loadGlobal_global (by rw[I.ok.glob];exact I.mod.glob.keeps I.bk) hm h) hd
theorem jN {E:Value->Shared->Prop} {pins:List (Addr×Obj)} {s:Shared} {σ:St} {H:Hp} {x:Str} {u:Value} {pos:Pos} {Q:Value->Shared->Prop} (I:Inv X pins σ H s) (hg:Gl X x) (hm:X.mg x=none) (hv:bootBuiltins x=some u) (h:Q u s)
  (hn:x≠"__name__":=by decide) (hd:(x==("__debug__":Str))=false:=by decide):wpAny (model X.prog X.w) X.A (eval (.Name x pos) X.env) Q E s:=by
 obtain⟨mb,h1,h2⟩:=I.mod.blt;exact Calls.Name_function_global I.ok.kind hg (Calls.loadGlobal_builtin (by rw[I.ok.glob];exact I.mod.glob.keeps I.bk) hm (by rw[I.ok.blt];exact h1.keeps I.bk) ((h2 x hn).trans hv) h) hd
theorem sf {x:Str} {v:V} {u:Value} {pos:Pos} (hg:Gl X x) (hm:X.mg x=some u) (r:RelV v u) (hd:(x==("__debug__":Str))=false:=by decide):PE X (.Name x pos) (tC v):=
 λ_ _ _ H _ I h=>gG I hg hm ⟨v,H,I,r,h⟩ hd
theorem r8 {x:Str} {v:V} {u:Value} {pos:Pos} (hg:Gl X x) (hm:X.mg x=none) (hv:bootBuiltins x=some u) (r:RelV v u) (hn:x≠"__name__":=by decide) (hd:(x==("__debug__":Str))=false:=by decide):PE X (.Name x pos) (tC v):=
 λ_ _ _ H _ I h=>jN I hg hm hv ⟨v,H,I,r,h⟩ hn hd
variable {a b:Expr} {ta tb:TE} {pos:Pos}
theorem wF (b:Expr) {op:CmpOp} (h:op≠ .In) (h2:op≠ .NotIn):behindInMarks op b=false:=by
 have e1:(op==CmpOp.In)=false:=by cases op <;> first | rfl | exact absurd rfl h
 have e2:(op==CmpOp.NotIn)=false:=by cases op <;> first | rfl | exact absurd rfl h2
 cases b <;> simp[behindInMarks,e1,e2]
noncomputable def tB (t:TE):TT:=λσ H Q=>t σ H λx H1=>∃c,x= .bl c/\Q c H1
variable {tA II:TT} {rest:List Expr}
noncomputable def Li (t u:TT):TT:=λσ H Q=>t σ H λc H1=>if c=true then u σ H1 Q else Q false H1
noncomputable def OO (t u:TT):TT:=λσ H Q=>t σ H λc H1=>if c=true then Q true H1 else u σ H1 Q
noncomputable def Lm (t:TT):TT:=λσ H Q=>t σ H λc H1=>Q (!c) H1
theorem Ar (ha:PT X a tA):PW X (.BoolOp .And [a] pos) tA:=by
 intro wh pins s σ H Q I h;refine isTrue_and (bH (ha pins s σ H Q I h) λc s1 e=>?_);cases c with
 | true=>exact isTrue_and_nil e
 | false=>exact e
theorem DF (ha:PT X a tA):PW X (.BoolOp .Or [a] pos) tA:=by
 intro wh pins s σ H Q I h;refine isTrue_or (bH (ha pins s σ H Q I h) λc s1 e=>?_);cases c with
 | false=>exact isTrue_or_nil e
 | true=>exact e
theorem DE (ha:PT X a tA) (hb:PW X (.BoolOp .And (b::rest) pos) II):PW X (.BoolOp .And (a::b::rest) pos) (Li tA II):=by
 intro wh pins s σ H Q I h;refine isTrue_and (bH (ha pins s σ H _ I h) λc s1 ⟨H1,I1,q1⟩=>?_);cases c with
 | true=>exact hb wh pins s1 σ H1 Q I1 q1
 | false=>exact⟨H1,I1,q1⟩
theorem GY (ha:PT X a tA) (hb:PW X (.BoolOp .Or (b::rest) pos) II):PW X (.BoolOp .Or (a::b::rest) pos) (OO tA II):=by
 intro wh pins s σ H Q I h;refine isTrue_or (bH (ha pins s σ H _ I h) λc s1 ⟨H1,I1,q1⟩=>?_);cases c with
 | true=>exact⟨H1,I1,q1⟩
 | false=>exact hb wh pins s1 σ H1 Q I1 q1
theorem DD (ha:PT X a tA):PT X (.UnaryOp .Not a pos) (Lm tA):=by intro pins s σ H Q I h;exact isTrue_not (bH (ha pins s σ H (λc H1=>Q (!c) H1) I h) λ_ _ ⟨H1,i,q⟩=>⟨H1,i,q⟩)
noncomputable def Hq (ta tb:TE):TE:=λσ H Q=>ta σ H λx H1=>∃c,x= .bl c/\if c=true then tb σ H1 Q else Q (.bl false) H1
noncomputable def Ln (ta tb:TE):TE:=λσ H Q=>ta σ H λx H1=>∃c,x= .bl c/\if c=true then Q (.bl true) H1 else tb σ H1 Q
noncomputable def Hw (ta:TE):TE:=λσ H Q=>ta σ H λx H1=>∃c,x= .bl c/\Q (.bl (!c)) H1
theorem wU {op} {t:TE} (h:PE X a t):PE X (.BoolOp op [a] pos) t:=λpins s σ H Q I hw=>BoolOp_one (h pins s σ H Q I hw)
theorem wN (ha:PE X a ta) (hb:PE X (.BoolOp .And (b::rest) pos) tb):PE X (.BoolOp .And (a::b::rest) pos) (Hq ta tb):=by
 intro pins s σ H Q I h;refine BoolOp_and (bH (ha pins s σ H _ I h) λv s1 ⟨x,H1,I1,r1,q1⟩=>?_);obtain⟨c,rfl,q1⟩:=q1;cases r1;refine wpAny_truthy_bool ?_;cases c with
 | true=>exact hb pins s1 σ H1 Q I1 q1
 | false=>exact⟨.bl false,H1,I1,rfl,q1⟩
theorem Bm (ha:PE X a ta) (hb:PE X (.BoolOp .Or (b::rest) pos) tb):PE X (.BoolOp .Or (a::b::rest) pos) (Ln ta tb):=by
 intro pins s σ H Q I h;refine BoolOp_or (bH (ha pins s σ H _ I h) λv s1 ⟨x,H1,I1,r1,q1⟩=>?_);obtain⟨c,rfl,q1⟩:=q1;cases r1;refine wpAny_truthy_bool ?_;cases c with
 | false=>exact hb pins s1 σ H1 Q I1 q1
 | true=>exact⟨.bl true,H1,I1,rfl,q1⟩
theorem wR (ha:PE X a ta):PE X (.UnaryOp .Not a pos) (Hw ta):=by intro pins s σ H Q I h;refine UnaryOp_ (bH (ha pins s σ H _ I h) λv s1 ⟨x,H1,I1,r1,q1⟩=>?_);obtain⟨c,rfl,q1⟩:=q1;cases r1;exact not_of (wpAny_truthy_bool ⟨.bl (!c),H1,I1,rfl,q1⟩)
end
end L2
namespace L2
open PySem PySem.Spec PyProof.Rows
noncomputable def cM (K:PySem.W.Frag) (H:Hp) (a:Addr) (xs:List V):Prop:=
 Rd H a (.lst xs)\/
  ∃(o:Obj) (its:Array Value) (n:Nat),K.lookup a=some o/\o.cls= .type "list"/\o.dict=none/\o.data= .seq its n/\its.size<=sizeLine/\au xs its.toList
noncomputable def d5 (K:PySem.W.Frag) (H:Hp) (a:Addr) (xs:List V):Prop:=
 Rd H a (.tup xs)\/
  ∃(o:Obj) (its:Array Value) (n:Nat),K.lookup a=some o/\o.cls= .type "tuple"/\o.data= .seq its n/\its.size<=sizeLine/\au xs its.toList
noncomputable def Je:Value->Option V
 | .none=>some .aP
 | .bool b=>some (.bl b)
 | .int i _=>some (.int i)
 | .str x _=>some (.str x)
 | .bytes b _=>some (.BZ b)
 | .float b _=>some (.yo b)
 | .ref a=>some (.ref a)
 | .type n=>some (.ty n)
 | _=>none
theorem RelV.abs {x:V} {u:Value} (r:RelV x u):Je u=some x:=by
 cases x with
 | aP=>cases r;rfl
 | bl _=>cases r;rfl
 | int _=>obtain⟨t,rfl⟩:=r;rfl
 | str _=>obtain⟨t,rfl⟩:=r;rfl
 | BZ _=>obtain⟨t,rfl⟩:=r;rfl
 | yo _=>obtain⟨t,rfl⟩:=r;rfl
 | ref _=>cases r;rfl
 | ty _=>cases r;rfl
theorem RelV.inj {x y:V} {u:Value} (r:RelV x u) (q:RelV y u):x=y:=Option.some.inj (r.abs.symm.trans q.abs)
theorem au.inj:∀{xs ys:List V} {us:List Value},au xs us->au ys us->xs=ys
 | _,_,_,.nil,.nil=>rfl
 | _,_,_,.cons r t,.cons r' t'=>by rw[r.inj r',au.inj t t']
section
variable {X:Cx} {pins:List (Addr×Obj)} {σ:St} {H:Hp} {s:Shared} {a:Addr} {xs ys:List V}
theorem cM.of {K:PySem.W.Frag} (h:H a=some (.lst xs)):cM K H a xs:= .inl (.inl h)
theorem d5.of {K:PySem.W.Frag} (h:H a=some (.tup xs)):d5 K H a xs:= .inl (.inl h)
theorem Inv.list (I:Inv X pins σ H s) (h:cM X.K H a xs):∃its:List Value,au xs its/\PlainL s.heap a its.toArray/\xs.length<=sizeLine:=by
 rcases h with h | ⟨o,its,n,hk,hc,hd,hs,hz,r⟩
 ·obtain⟨z,its,n,r,e⟩:=h.ok I.hok;exact⟨its,r,⟨_,n,e,rfl,rfl,rfl⟩,z⟩
 ·refine⟨its.toList,r,⟨o,n,I.jb a o hk,hc,hd,by simpa using hs⟩,?_⟩;have e:=r.length;simp only[P3] at e
  lia
theorem Inv.tuple (I:Inv X pins σ H s) (h:d5 X.K H a xs):∃its:List Value,au xs its/\IsTup s.heap a its.toArray/\xs.length<=sizeLine:=by
 rcases h with h | ⟨o,its,n,hk,hc,hs,hz,r⟩
 ·obtain⟨z,its,r,p⟩:=h.ok I.hok;exact⟨its,r,p.is,z⟩
 ·refine⟨its.toList,r,⟨o,I.jb a o hk,hc,n,by simpa using hs⟩,?_⟩;have e:=r.length;simp only[P3] at e
  lia
theorem Inv.wy (I:Inv X pins σ H s) (h:cM X.K H a xs) (h':cM X.K H a ys):xs=ys:=by
 obtain⟨its,r,⟨o,n,e,_,_,d⟩,_⟩:=I.list h;obtain⟨its',r',⟨o',n',e',_,_,d'⟩,_⟩:=I.list h';rw[e] at e';cases e';rw[d] at d';injection d' with d1 _;have:its=its':=by simpa using congrArg Array.toList d1
 subst this;exact r.inj r'
theorem Inv.um (I:Inv X pins σ H s) (h:d5 X.K H a xs) (h':d5 X.K H a ys):xs=ys:=by
 obtain⟨its,r,⟨o,e,_,n,d⟩,_⟩:=I.tuple h;obtain⟨its',r',⟨o',e',_,n',d'⟩,_⟩:=I.tuple h';rw[e] at e';cases e';rw[d] at d';injection d' with d1 _;have:its=its':=by simpa using congrArg Array.toList d1
 subst this;exact r.inj r'
end
noncomputable abbrev Cx.cg (X:Cx) (E:Value->Shared->Prop):Cx:={X with xe:=E}
theorem Cx.Ok.cg {X:Cx} (ok:X.Ok) (E:Value->Shared->Prop):(X.cg E).Ok:=
 ⟨ok.mod,ok.kind,ok.glob,ok.blt,ok.above,ok.inj,ok.has,ok.yi,ok.hd,ok.frames,ok.AA,ok.A6,ok.bs,ok.u7,ok.kG,ok.mq,ok.fS,ok.zj⟩
theorem Cx.Ok.dB {X:Cx} {E:Value->Shared->Prop} (ok:(X.cg E).Ok):X.Ok:=
 ⟨ok.mod,ok.kind,ok.glob,ok.blt,ok.above,ok.inj,ok.has,ok.yi,ok.hd,ok.frames,ok.AA,ok.A6,ok.bs,ok.u7,ok.kG,ok.mq,ok.fS,ok.zj⟩
section
variable {X:Cx} {pins:List (Addr×Obj)} {σ:St} {H:Hp} {s:Shared} {E:Value->Shared->Prop}
theorem Inv.cg (I:Inv X pins σ H s) (E:Value->Shared->Prop):Inv (X.cg E) pins σ H s:=⟨I.ok.cg E,I.os,I.bare,I.base,I.loc,I.cell,I.free,I.cm,I.pin,I.hok,I.len⟩
theorem Inv.dB (I:Inv (X.cg E) pins σ H s):Inv X pins σ H s:=⟨I.ok.dB,I.os,I.bare,I.base,I.loc,I.cell,I.free,I.cm,I.pin,I.hok,I.len⟩
theorem SP.dB {D:Ends} {f:Flow} {s':Shared} (h:SP (X.cg E) pins D f s'):SP X pins D f s':=by
 cases f with
 | next=>obtain⟨σ',H',I,q⟩:=h;exact⟨σ',H',I.dB,q⟩
 | brk=>obtain⟨σ',H',I,q⟩:=h;exact⟨σ',H',I.dB,q⟩
 | cont=>obtain⟨σ',H',I,q⟩:=h;exact⟨σ',H',I.dB,q⟩
 | ret u=>obtain⟨v,σ',H',I,r,q⟩:=h;exact⟨v,σ',H',I.dB,r,q⟩
end
section
variable {X:Cx} {st:Stmt} {rest:List Stmt} {t u:TS} {e:Expr} {te:TE} {pos:Pos}
noncomputable def xP:TS:=λD σ H=>D.nx σ H
noncomputable def Hz (t u:TS):TS:=λD σ H=>t {D with nx:=u D} σ H
theorem An:nF X [] xP:=λ_ _ σ H _ I h=>wpAny_execs_nil ⟨σ,H,I,h⟩
theorem oK (h1:PS X st t) (h2:nF X rest u):nF X (st::rest) (Hz t u):=by
 intro pins s σ H D I h;refine wpAny_execs_cons (bH (h1 pins s σ H {D with nx:=u D} I h) λf s1 q=>?_);cases f with
 | next=>obtain⟨σ',H',I',q⟩:=q;exact h2 pins s1 σ' H' D I' q
 | ret v=>exact q
 | brk=>exact q
 | cont=>exact q
theorem sD (h1:PS X st t):nF X [st] t:=by
 intro pins s σ H D I h;refine wpAny_execs_cons (bH (h1 pins s σ H D I h) λf s1 q=>?_);cases f with
 | next=>exact wpAny_execs_nil q
 | ret v=>exact q
 | brk=>exact q
 | cont=>exact q
noncomputable def xN:TS:=λD σ H=>D.bk σ H
noncomputable def Bv:TS:=λD σ H=>D.ct σ H
theorem Ak:PS X (.Pass pos) xP:=λ_ _ σ H _ I h=>wpAny_Pass ⟨σ,H,I,h⟩
theorem w6:PS X (.Break pos) xN:=λ_ _ σ H _ I h=>wpAny_Break ⟨σ,H,I,h⟩
theorem oI:PS X (.Continue pos) Bv:=λ_ _ σ H _ I h=>wpAny_Continue ⟨σ,H,I,h⟩
theorem Inv.quiet {pins:List (Addr×Obj)} {σ:St} {H:Hp} {s:Shared} (I:Inv X pins σ H s):interactive X.env=false:=by simp[interactive,I.ok.kind]
noncomputable def oV (te:TE):TS:=λD σ H=>te σ H λ_ H1=>D.nx σ H1
theorem jh (he:PE X e te) (hs:swapsWith e none pos.line X.env=pure false:=by rfl):PS X (.Expr e pos) (oV te):=by intro pins s σ H D I h;exact wpAny_Expr_any (bH (he pins s σ H _ I h) λv s1 ⟨x,H1,I1,r1,q1⟩=>⟨σ,H1,I1,q1⟩) I.quiet hs
noncomputable def D6 (te:TE):TS:=λD σ H=>te σ H D.rt
theorem j3 (he:PE X e te):PS X (.Return (some e) pos) (D6 te):=by intro pins s σ H D I h;exact wpAny_Return_some (bH (he pins s σ H _ I h) λv s1 ⟨x,H1,I1,r1,q1⟩=>⟨x,σ,H1,I1,r1,q1⟩)
noncomputable def Bw:TS:=λD _ H=>D.rt .aP H
theorem Al:PS X (.Return none pos) Bw:=λ_ _ σ H _ I h=>wpAny_Return_none ⟨.aP,σ,H,I,rfl,h⟩
noncomputable def Hv (c:TT) (t u:TS):TS:=λD σ H=>c σ H λb H1=>if b=true then t D σ H1 else u D σ H1
theorem GV {c:Expr} {a b:List Stmt} {tc:TT} (hc:PT X c tc) (ha:nF X a t) (hb:nF X b u):PS X (.If c a b pos) (Hv tc t u):=by
 intro pins s σ H D I h;refine wpAny_If (bH (hc pins s σ H _ I h) λd s1 ⟨H1,I1,q1⟩=>?_);cases d with
 | true=>exact ha pins s1 σ H1 D I1 q1
 | false=>exact hb pins s1 σ H1 D I1 q1
end
noncomputable abbrev TG:=V->St->Hp->(St->Hp->Prop)->Prop
noncomputable abbrev uK:=List V->St->Hp->(St->Hp->Prop)->Prop
noncomputable def PG (X:Cx) (target:Expr) (t:TG):Prop:=
 ∀(pins:List (Addr×Obj)) (s:Shared) (σ:St) (H:Hp) (v:V) (u:Value) (Q:St->Hp->Prop),Inv X pins σ H s->RelV v u->t v σ H Q->
  wpAny (model X.prog X.w) X.A (assign target X.env u) (λ_ s'=>∃σ' H',Inv X pins σ' H' s'/\Q σ' H') X.xe s
noncomputable def EZ (X:Cx) (ts:List Expr) (t:uK):Prop:=
 ∀(pins:List (Addr×Obj)) (s:Shared) (σ:St) (H:Hp) (vs:List V) (us:List Value) (Q:St->Hp->Prop),Inv X pins σ H s->au vs us->t vs σ H Q->
  wpAny (model X.prog X.w) X.A (assignInOrder ((assignEach ts X.env).map (·.2)) us) (λ_ s'=>∃σ' H',Inv X pins σ' H' s'/\Q σ' H') X.xe s
noncomputable abbrev BH:=V->V->V->Hp->(Hp->Prop)->Prop
noncomputable def E4 (X:Cx) (t:BH):Prop:=
 ∀(pins:List (Addr×Obj)) (s:Shared) (σ:St) (H:Hp) (o i v:V) (ov iv u:Value) (Q:Hp->Prop),Inv X pins σ H s->RelV o ov->RelV i iv->RelV v u->t o i v H Q->
  wpAny (model X.prog X.w) X.A (setItem ov iv u) (λ_ s'=>∃H',Inv X pins σ H' s'/\Q H') X.xe s
section
variable {X:Cx} {pos:Pos}
noncomputable def dM (i:Nat):TG:=λv σ H Q=>Q (σ.set i (some v)) H
theorem Ae {i:Nat} {x:Str} (hN:X.N.Nodup) (hi:X.N[i]?=some x) (hx:Loc X.env.scope x) (hf:X.fn x=true\/X.env.scope.names.lookup x=some .local:=by first | exact .inl rfl | exact .inr rfl | assumption):PG X (.Name x pos) (dM i):=by intro pins s σ H v u Q I r h;exact wpAny_assign_Name (ka I hN hi hx r (λs' I'=>⟨_,H,I',h⟩) hf)
noncomputable def Cg:uK:=λvs σ H Q=>vs=[]/\Q σ H
noncomputable def vJ (t:TG) (u:uK):uK:=λvs σ H Q=>∃v r,vs=v::r/\t v σ H λσ' H'=>u r σ' H' Q
theorem Af:EZ X [] Cg:=by intro pins s σ H vs us Q I r h;obtain⟨e,h⟩:=h;subst e;cases r;exact assignInOrder_nil ⟨σ,H,I,h⟩
theorem wV {e:Expr} {es:List Expr} {t:TG} {u:uK} (h1:PG X e t) (h2:EZ X es u)
  (hs:(assignEach (e::es) X.env).map (·.2)=assign e X.env::(assignEach es X.env).map (·.2):=by rfl):EZ X (e::es) (vJ t u):=by
 intro pins s σ H vs us Q I r h;obtain⟨v,vr,e1,h⟩:=h;subst e1;cases r with
 | cons r rr=>rw[hs];refine assignInOrder_cons (bH (h1 pins s σ H _ _ _ I r h) λ_ s1 ⟨σ1,H1,I1,q1⟩=>?_);exact h2 pins s1 σ1 H1 _ _ Q I1 rr q1
noncomputable def Ci (K:PySem.W.Frag) (n:Nat) (t:uK):TG:=λv σ H Q=>∃a xs,v= .ref a/\d5 K H a xs/\xs.length=n/\t xs σ H Q
theorem Dx {es:List Expr} {k:Nat} {t:uK} {n:Nat} (hc:X.calm=true) (h:EZ X es t)
  (hn:(assignEach es X.env).length=n:=by rfl) (jH:(assignEach es X.env).findIdx? (·.1)=none:=by rfl):PG X (.Tuple es k pos) (Ci X.K n t):=by
 intro pins s σ H v u Q I r hw;obtain⟨a,xs,e1,hq,hl,hw⟩:=hw;subst e1;cases r;obtain⟨its,rv,ht,hz⟩:=I.tuple hq;refine assign_Tuple_tuple (I.ok.hd hc) ht (by simp[hn,<-hl,rv.length]) jH λh' hx=>?_
 have I1:Inv X pins σ H {s with heap:=h'}:=I.kept (t':=s.toks) λb o e=>hx b o (Qe (PN e)) e
 exact h pins _ σ H xs _ Q I1 (by simpa using rv) hw
noncomputable def Fy (to ti:TE) (t:BH):TG:=λv σ H Q=>to σ H λo H1=>ti σ H1 λi H2=>t o i v H2 λH3=>Q σ H3
theorem Dw {o i:Expr} {to ti:TE} {t:BH} (ho:PE X o to) (hi:PE X i ti) (hs:E4 X t)
  (ha:∀v,assign (.Subscript o i pos) X.env v=(do
   let ov<-holding [v] (eval o X.env)
   let iv<-holding [v,ov] (eval i X.env)
   standAt pos
   holding [v,ov,iv] (setItem ov iv v)
   release [v,ov,iv] []):=by intro _;rfl):PG X (.Subscript o i pos) (Fy to ti t):=by
 intro pins s σ H v u Q I r h;rw[ha];refine Pr (wpAny_holding (bH (ho pins s σ H _ I h) λov s1 ⟨x,H1,I1,r1,q1⟩=>?_));refine Pr (wpAny_holding (bH (hi pins s1 σ H1 _ I1 q1) λiv s2 ⟨y,H2,I2,r2,q2⟩=>?_));refine Pr (wpAny_standAt (Pr (wpAny_holding (bH (hs pins s2 σ H2 x y v ov iv u _ I2 r1 r2 r q2) λ_ s3 ⟨H3,I3,q3⟩=>?_))));exact wpAny_release ⟨σ,H3,I3,q3⟩
noncomputable def nh (te:TE) (g:TG):TS:=λD σ H=>te σ H λx H1=>g x σ H1 D.nx
theorem w5 {tg e:Expr} {te:TE} {g:TG} (he:PE X e te) (hg:PG X tg g) (hs:swapsWithSole [tg] e pos.line X.env=pure false:=by rfl) (hw:swappedStores [tg] e X.env=pure none:=by rfl)
  (h1:(assignEach [tg] X.env).map (·.2)=[assign tg X.env]:=by rfl):PS X (.Assign [tg] e pos) (nh te g):=by
 intro pins s σ H D I h;refine wpAny_Assign_stores (bH (he pins s σ H _ I h) λv s1 ⟨x,H1,I1,r1,q1⟩=>?_) hs hw;rw[h1];exact bH (hg pins s1 σ H1 x v _ I1 r1 q1) λ_ s2 q=>q
theorem ql {i:Nat} {x:Str} {e:Expr} {te:TE} {pos':Pos} (hN:X.N.Nodup) (hi:X.N[i]?=some x) (hx:Loc X.env.scope x) (he:PE X e te) (hs:swapsWith e (some (.Name x pos')) pos.line X.env=pure false:=by rfl) (hf:X.fn x=true\/X.env.scope.names.lookup x=some .local:=by first | exact .inl rfl | exact .inr rfl | assumption):
  PS X (.Assign [.Name x pos'] e pos) (nh te (dM i)):=by
 intro pins s σ H D I h;refine wpAny_Assign_Name (bH (he pins s σ H _ I h) λv s1 ⟨y,H1,I1,r1,q1⟩=>?_) hs;exact ka I1 hN hi hx r1 (λs2 I2=>⟨_,H1,I2,q1⟩) hf
end
structure It where
 go:Nat->Hp->Prop
 yld:Nat->Hp->V->Hp->Prop
 stop:Nat->Hp->Prop
noncomputable def fP (X:Cx) (pins:List (Addr×Obj)) (H:Hp) (b:Addr):Prop:=
 H b=none/\b≠X.env.locals/\b∉X.fs/\(b∈X.ex\/X.s₀.heap.objs.size<=b)/\(∀x c,X.env.cells.lookup x=some c->c≠b)/\∀p∈X.pn++pins,p.1≠b
theorem Inv.tD {X:Cx} {pins:List (Addr×Obj)} {σ:St} {H H':Hp} {s:Shared} {b:Addr} (I:Inv X pins σ H s) (hb:s.heap.objs.size<=b) (hn:H' b=none):fP X pins H' b:=by
 refine⟨hn,Nat.ne_of_gt (P4 I.lt hb),I.KC hb,.inr (PP I.sz hb),λx c e z=>?_,λp hp z=>?_⟩
 ·obtain⟨v,q⟩:=I.cell x c e;exact absurd (P4 q.lt (by rw[z];exact hb)) (Nat.lt_irrefl _)
 ·exact absurd (P4 (PN (I.pin p hp).1) (by rw[z];exact hb)) (Nat.lt_irrefl _)
structure Turn (P:Program) (w:World) (K:PySem.W.Frag) (tg:Expr) (J:It) (fp:List Addr) (it:Addr) (tn:Nat->Heap->Prop):Prop where
 mem:it∈fp
 obj:∀i h,tn i h->∀b∈fp,∃o,h.get? b=some o/\∀v,o.data≠ .cell v
 keep:∀i h h',tn i h->(∀b∈fp,∀o,h.get? b=some o->h'.get? b=some o)->tn i h'
 item:∀(X:Cx),X.prog=P->X.w=w->X.K=K->X.calm=true->∀(i:Nat) (pins:List (Addr×Obj)) (s:Shared) (σ:St) (H:Hp) (E:Value->Shared->Prop),Inv X pins σ H s->(∀b∈fp,fP X pins H b)->tn i s.heap->J.go i H->
  wpAny (model P w) X.A (pyNext (.ref it)) (λr s1=>∃u,r=some u/\
   wpAny (model P w) X.A (letOwnedTupleGo tg (.ref it) u) (λ_ s2=>∃x H',Inv X pins σ H' s2/\RelV x u/\J.yld i H x H'/\tn (i + 1) s2.heap/\∀b∈fp,H' b=none) E s1) E s
 done:∀(X:Cx),X.prog=P->X.w=w->X.K=K->X.calm=true->∀(i:Nat) (pins:List (Addr×Obj)) (s:Shared) (σ:St) (H:Hp) (E:Value->Shared->Prop),Inv X pins σ H s->(∀b∈fp,fP X pins H b)->tn i s.heap->J.stop i H->
  wpAny (model P w) X.A (pyNext (.ref it)) (λr s1=>r=none/\Inv X pins σ H s1) E s
 self:∀(A:Around) (i:Nat) (s:Shared) (Q:Value->Shared->Prop) (E:Value->Shared->Prop),tn i s.heap->Q (.ref it) s->wpAny (model P w) A (pyIter (.ref it)) Q E s
noncomputable abbrev TI:=St->Hp->(It->Hp->Prop)->Prop
noncomputable def LA (X:Cx) (pins:List (Addr×Obj)) (σ:St) (tg:Expr) (R:It->Hp->Prop) (nB:Value) (s2:Shared):Prop:=
 ∃(it:Addr) (fp:List Addr) (tn:Nat->Heap->Prop) (J:It) (H':Hp),nB= .ref it/\Inv X pins σ H' s2/\Turn X.prog X.w X.K tg J fp it tn/\tn 0 s2.heap/\(∀b∈fp,fP X pins H' b)/\R J H'
noncomputable def PI (X:Cx) (tg iter:Expr) (wi:TI):Prop:=
 ∀(pins:List (Addr×Obj)) (s:Shared) (σ:St) (H:Hp) (R:It->Hp->Prop),Inv X pins σ H s->wi σ H R->
  wpAny (model X.prog X.w) X.A (eval iter X.env) (λv s1=>wpAny (model X.prog X.w) X.A (pyIter v) (LA X pins σ tg R) X.xe s1) X.xe s
theorem vR {M:Model} {A:Around} {E:Value->Shared->Prop} {s:Shared} {tg:Expr} {it:Addr} {u:Value} {o:Obj} {n:String} {vs:Array Value} {Q:Unit->Shared->Prop} (ho:s.heap.get? it=some o) (hc:o.cls= .type n) (hd:o.data= .fields vs)
  (hn:["enumerate","zip","dict_itemiterator","dict_reverseitemiterator","odict_iterator","itertools.zip_longest","itertools.pairwise"].contains n=false) (hQ:Q () s):wpAny M A (letOwnedTupleGo tg (.ref it) u) Q E s:=by
 unfold letOwnedTupleGo;cases tg <;> first
  | exact Pv hQ
  | (cases u <;> first
    | exact Pv hQ
    | (refine Pr (wpAny_load ho ?_);rw[hc,hd];show wpAny M A (if (["enumerate","zip","dict_itemiterator","dict_reverseitemiterator","odict_iterator","itertools.zip_longest","itertools.pairwise"].contains n&&vs[0]?==some (rawInt _))=true then _ else _) Q E s;rw[if_neg (by intro h;rw[hn,Bool.false_and] at h;cases h)];exact Pv hQ))
noncomputable def HY (K:PySem.W.Frag) (a:Addr):It:=
 ⟨λi H=>∃xs x,cM K H a xs/\xs[i]?=some x,λi H x H'=>H'=H/\∀xs,cM K H a xs->xs[i]?=some x,λi H=>∃xs,cM K H a xs/\xs.length<=i⟩
noncomputable def IW (K:PySem.W.Frag) (a:Addr):It:=
 ⟨λi H=>∃xs x,d5 K H a xs/\xs[i]?=some x,λi H x H'=>H'=H/\∀xs,d5 K H a xs->xs[i]?=some x,λi H=>∃xs,d5 K H a xs/\xs.length<=i⟩
noncomputable def HZ (lo:Int) (n:Nat):It:=⟨λi _=>i < n,λi H x H'=>H'=H/\x= .int (lo + i),λi _=>n<=i⟩
theorem uo {P:Program} {w:World} {K:PySem.W.Frag} {tg:Expr} (a it:Addr):Turn P w K tg (HY K a) [it] it (λi h=>h.IsListIter it a i) where
 mem:=by simp
 obj:=λi h st b hb=>by
  have e:b=it:=by simpa using hb
  subst e;obtain⟨o,e,c,d⟩:=st;exact⟨o,e,λv z=>by rw[d] at z;cases z⟩
 keep:=λi h h' st k=>st.at λo e=>k it (by simp) o e
 item:=by
  intro X hP hw hK hc i pins s σ H E I hf st hg;subst hP hw hK;obtain⟨xs,x,hq,hx⟩:=hg;obtain⟨its,rv,p,hz⟩:=I.list hq;obtain⟨u,hu,ru⟩:=rv.get hx;obtain⟨f0,f1,f2,f3,f4,f5⟩:=hf it (by simp);refine wpAny_pyNext_list_item st p.isList (x:=u) (by simpa using hu) λh' aj sb=>?_
  have I1:Inv X pins σ H {s with heap:=h'}:=I.turned (t':=s.toks) (λb o hb e=>(sb.2 b hb).trans e) f0 f1 f3 f4 f5;obtain⟨o,e,c,d⟩:=id aj;exact⟨u,rfl,vR (s:={s with heap:=h'}) e c d (by decide) ⟨x,H,I1,ru,⟨rfl,λys hy=>by rw[I.wy hy hq];exact hx⟩,aj,λb hb=>(hf b hb).1⟩⟩
 done:=by intro X hP hw hK hc i pins s σ H E I hf st hg;subst hP hw hK;obtain⟨xs,hq,hx⟩:=hg;obtain⟨its,rv,p,hz⟩:=I.list hq;obtain⟨f0,f1,f2,f3,f4,f5⟩:=hf it (by simp);have hl:=rv.length;exact wpAny_pyNext_list_end (I.ok.hd hc) st p.isList (by simp;lia) λh' eb=>⟨rfl,I.turned (t':=s.toks) (λb o hb e=>eb b o hb e) f0 f1 f3 f4 f5⟩
 self:=λ_ _ _ _ _ st h=>wpAny_pyIter_listiter st h
theorem qx {P:Program} {w:World} {K:PySem.W.Frag} {tg:Expr} (a it:Addr):Turn P w K tg (IW K a) [it] it (λi h=>h.IsTupleIter it a i) where
 mem:=by simp
 obj:=λi h st b hb=>by
  have e:b=it:=by simpa using hb
  subst e;obtain⟨o,e,c,d⟩:=st;exact⟨o,e,λv z=>by rw[d] at z;cases z⟩
 keep:=λi h h' st k=>st.at λo e=>k it (by simp) o e
 item:=by
  intro X hP hw hK hc i pins s σ H E I hf st hg;subst hP hw hK;obtain⟨xs,x,hq,hx⟩:=hg;obtain⟨its,rv,p,hz⟩:=I.tuple hq;obtain⟨u,hu,ru⟩:=rv.get hx;obtain⟨f0,f1,f2,f3,f4,f5⟩:=hf it (by simp);refine wpAny_pyNext_tuple_item st (show s.heap.IsTuple a its.toArray from p) (x:=u) (by simpa using hu) λh' aj sb=>?_
  have I1:Inv X pins σ H {s with heap:=h'}:=I.turned (t':=s.toks) (λb o hb e=>(sb.2 b hb).trans e) f0 f1 f3 f4 f5;obtain⟨o,e,c,d⟩:=id aj;exact⟨u,rfl,vR (s:={s with heap:=h'}) e c d (by decide) ⟨x,H,I1,ru,⟨rfl,λys hy=>by rw[I.um hy hq];exact hx⟩,aj,λb hb=>(hf b hb).1⟩⟩
 done:=by intro X hP hw hK hc i pins s σ H E I hf st hg;subst hP hw hK;obtain⟨xs,hq,hx⟩:=hg;obtain⟨its,rv,p,hz⟩:=I.tuple hq;obtain⟨f0,f1,f2,f3,f4,f5⟩:=hf it (by simp);have hl:=rv.length;exact wpAny_pyNext_tuple_end (I.ok.hd hc) st (show s.heap.IsTuple a its.toArray from p) (by simp;lia) λh' eb=>⟨rfl,I.turned (t':=s.toks) (λb o hb e=>eb b o hb e) f0 f1 f3 f4 f5⟩
 self:=λ_ _ _ _ _ st h=>wpAny_pyIter_tupleiter st h
theorem qw {P:Program} {w:World} {K:PySem.W.Frag} {tg:Expr} (it:Addr) (lo:Int) (n:Nat):Turn P w K tg (HZ lo n) [it] it (λi h=>IsRangeIter h it (lo + (i:Nat) * 1) ((n:Int) - (i:Nat)) 1) where
 mem:=by simp
 obj:=λi h st b hb=>by
  have e:b=it:=by simpa using hb
  subst e;exact⟨_,st,λv z=>by
   have z':Data.fields _=Data.cell v:=z;cases z'⟩
 keep:=λi h h' st k=>k it (by simp) _ st
 item:=by
  intro X hP hw hK hc i pins s σ H E I hf st hg;subst hP hw hK;obtain⟨f0,f1,f2,f3,f4,f5⟩:=hf it (by simp);have W:=Walks.range (prog:=X.prog) (w:=X.w) (I.ok.hd hc) it lo 1 n;refine W.item i s _ _ hg st λv h' tk hv aj kk=>?_
  obtain⟨t,rfl⟩:=hv;have I1:Inv X pins σ H {s with heap:=h',toks:=tk}:=I.turned (λb o hb e=>kk b o (by simpa using hb) e) f0 f1 f3 f4 f5;refine⟨_,rfl,vR (s:={s with heap:=h',toks:=tk}) (n:="range_iterator") aj rfl rfl (by decide) ⟨.int (lo + i),H,I1,⟨t,?_⟩,⟨rfl,rfl⟩,aj,λb hb=>(hf b hb).1⟩⟩;rw[Int.mul_one]
 done:=by intro X hP hw hK hc i pins s σ H E I hf st hg;subst hP hw hK;obtain⟨f0,f1,f2,f3,f4,f5⟩:=hf it (by simp);exact wpAny_pyNext_range_end (I.ok.hd hc) st (by have:n<=i:=hg;lia) λh' eb=>⟨rfl,I.turned (t':=s.toks) (λb o hb e=>eb b o hb e) f0 f1 f3 f4 f5⟩
 self:=λ_ _ _ _ _ st h=>wpAny_pyIter_rangeiter st h
end L2
namespace L2
open PySem PySem.Spec PyProof.Rows
section
variable {X:Cx} {tg:Expr}
theorem xh {pins:List (Addr×Obj)} {σ:St} {H:Hp} {s:Shared} {R:It->Hp->Prop} {E:Value->Shared->Prop} {lo hi:Int} {t u v:Tok} {tk:Nat} (I:Inv X pins σ H s) (h1: -(2 ^ 62)<=lo) (h2:lo < 2 ^ 62) (h3: -(2 ^ 62)<=hi) (h4:hi < 2 ^ 62)
  (q:R (HZ lo (hi - lo).toNat) H):wpAny (model X.prog X.w) X.A (pyIter (.ref s.heap.objs.size)) (LA X pins σ tg R) E {s with heap:=s.heap.push {cls:= .type "range",data:= .fields #[.int lo t,.int hi u,.int 1 v]},toks:=tk}:=by
 refine wpAny_pyIter_range (IsRange.new ..) (small_one h1 h2 h3 h4) ?_;have I1:Inv X pins σ H {s with heap:=s.heap.push {cls:= .type "range",data:= .fields #[.int lo t,.int hi u,.int 1 v]},toks:=tk}:=I.kept λb o e=>Pu _ e
 refine⟨(s.heap.push {cls:= .type "range",data:= .fields #[.int lo t,.int hi u,.int 1 v]}).objs.size,[(s.heap.push {cls:= .type "range",data:= .fields #[.int lo t,.int hi u,.int 1 v]}).objs.size],_,_,H,rfl,
  I1.kept (t':=tk) λb o e=>Pu _ e,qw _ lo (hi - lo).toNat,?_,λb hb=>?_,q⟩
 ·have e1:lo + ((0:Nat):Int) * 1=lo:=by simp
  have e2:(((hi - lo).toNat:Nat):Int) - ((0:Nat):Int)=Builtin.Range.rangeSize lo hi 1:=by rw[rangeSize_one];split <;> lia
  show IsRangeIter _ _ (lo + ((0:Nat):Int) * 1) ((((hi - lo).toNat:Nat):Int) - ((0:Nat):Int)) 1;rw[e1,e2];exact PJ _ rfl
 ·have e:b=(s.heap.push {cls:= .type "range",data:= .fields #[.int lo t,.int hi u,.int 1 v]}).objs.size:=by simpa using hb
  subst e;exact I1.tD (PF _) (I1.hok.fresh (PF _))
noncomputable def Gf (ta:TA):TI:=λσ H R=>ta σ H λvs H1=>∃j:Int,vs=[.int j]/\ -(2 ^ 62)<=j/\j < 2 ^ 62/\R (HZ 0 j.toNat) H1
theorem tZ {a:Expr} {ta:TA} {p pos:Pos} (hg:Gl X "range") (hm:X.mg "range"=none) (ha:PA X [a] ta) (hs:starEach [a] X.env=[(false,eval a X.env)]:=by rfl):PI X tg (.Call (.Name "range" p) [a] [] pos) (Gf ta):=by
 intro pins s σ H R I h;refine Call_ (jN I hg hm boot_range (PyProof.Rows.callWith_type1 (bH (ha pos pins s σ H _ I h) λus s1 ⟨vs,H1,I1,r1,q1⟩=>?_) hs rfl));obtain⟨j,e,q1,q2,q⟩:=q1;subst e;cases r1 with
 | cons r rr=>cases rr;obtain⟨t,rfl⟩:=r;exact call_range_1 (xh I1 (by lia) (by lia) q1 q2 (by simpa using q))
noncomputable def Ht (wi:TI) (g:TG) (tb:TS):TS:=λD σ H=>wi σ H λJ H1=>∃W:Nat->Nat->St->Hp->Prop,(∃m,W 0 m σ H1)/\∀i m σ H,W i m σ H->
 (J.stop i H/\D.nx σ H)\/(J.go i H/\∃N:St->Hp->Prop,(∀σ' H',N σ' H'->∃m',m' < m/\W (i + 1) m' σ' H')/\∀x H',J.yld i H x H'->g x σ H' λσ2 H2=>tb {D with nx:=N,ct:=N,bk:=D.nx} σ2 H2)
noncomputable def jZ (fp:List Addr) (h:Heap):List (Addr×Obj):=fp.filterMap λb=>(h.get? b).map λo=>(b,o)
theorem ec {fp:List Addr} {h:Heap} {b:Addr} {o:Obj} (hb:b∈fp) (e:h.get? b=some o):(b,o)∈jZ fp h:=List.mem_filterMap.mpr ⟨b,hb,by rw[e];rfl⟩
theorem tX {fp:List Addr} {h:Heap} {p:Addr×Obj} (hp:p∈jZ fp h):p.1∈fp/\h.get? p.1=some p.2:=by
 obtain⟨b,hb,e⟩:=List.mem_filterMap.mp hp;cases q:h.get? b with
 | none=>rw[q] at e;cases e
 | some o=>rw[q] at e;have e':(b,o)=p:=Option.some.inj e;subst e';exact⟨hb,q⟩
theorem Inv.pinned {pins:List (Addr×Obj)} {σ:St} {H:Hp} {s:Shared} {fp:List Addr} (I:Inv X pins σ H s) (hf:∀b∈fp,fP X pins H b) (ho:∀b∈fp,∃o,s.heap.get? b=some o/\∀v,o.data≠ .cell v):Inv X (pins++jZ fp s.heap) σ H s:=
 I.fq λp hp=>(P5.mp hp).elim (λz=>I.pin p (Qf _ z)) λz=>by obtain⟨hb,e⟩:=tX z;obtain⟨f0,f1,f2,_⟩:=hf p.1 hb;obtain⟨o,e',d⟩:=ho p.1 hb;rw[e] at e';cases e';exact⟨e,f0,f1,f2,d⟩
theorem Inv.gU {pins pl:List (Addr×Obj)} {σ:St} {H:Hp} {s:Shared} (I:Inv X (pins++pl) σ H s):Inv X pins σ H s:=I.fq λp hp=>I.pin p (Qf _ (List.mem_append_left _ hp))
theorem DC {iter:Expr} {body:List Stmt} {wi:TI} {g:TG} {tb:TS} {pos:Pos} (hp:PassesOwn (model X.prog X.w) X.A X.env X.xe) (hc:X.calm=true) (hi:PI X tg iter wi) (hg:PG X tg g) (hb:nF X body tb)
  (hs:∀x,foldedSetIterable iter X.env x=pure x:=by intro _;rfl):PS X (.For tg iter body [] pos) (Ht wi g tb):=by
 intro pins s σ H D I h;refine wpAny_For (bH (hi pins s σ H _ I h) λv s1 h1=>bH h1 λnB s2 h2=>?_) hs;obtain⟨it,fp,tn,J,H2,e,I2,T,de,f2,W,⟨m0,w0⟩,turn⟩:=h2;subst e;have mY:∀{H':Hp},(∀b∈fp,H' b=none)->∀b∈fp,fP X pins H' b:=λhn b hb=>⟨hn b hb,(f2 b hb).2⟩
 refine codeAny_forLoop_any (λn s'=>∃i σ' H',Inv X pins σ' H' s'/\tn i s'.heap/\(∀b∈fp,H' b=none)/\W i n σ' H') ?_ m0 ⟨0,σ,H2,I2,de,λb hb=>(f2 b hb).1,w0⟩;rintro n s3 ⟨i,σ3,H3,I3,EN,LH,w3⟩;rcases turn i n σ3 H3 w3 with ⟨stop,qn⟩ | ⟨go,N,hN,step⟩
 ·refine wpAny_passesOwn hp (bH (T.done X rfl rfl rfl hc i pins s3 σ3 H3 X.xe I3 (mY LH) EN stop) λr s4 ⟨hr,I4⟩=>?_);subst hr;exact wpAny_execs_nil ⟨σ3,H3,I4,qn⟩
 ·refine wpAny_passesOwn hp (bH (T.item X rfl rfl rfl hc i pins s3 σ3 H3 X.xe I3 (mY LH) EN go) λr s4 ⟨u,hr,h4⟩=>?_);subst hr;refine wpAny_passesOwn hp (bH h4 λ_ s5 ⟨x,H5,I5,r5,y5,Lg,Jz⟩=>?_);have MQ:=I5.pinned (mY Jz) (T.obj _ _ Lg);refine wpAny_passesOwn hp (bH (hg _ s5 σ3 H5 x u _ MQ r5 (step x H5 y5)) λ_ s6 ⟨σ6,H6,I6,q6⟩=>?_);refine wpAny_passesOwn hp (bH (hb _ s6 σ6 H6 _ I6 q6) λf s7 q7=>?_);have again:∀{σ7:St} {H7:Hp},Inv X (pins++jZ fp s5.heap) σ7 H7 s7->N σ7 H7->∃m,m < n/\∃i σ' H',Inv X pins σ' H' s7/\tn i s7.heap/\(∀b∈fp,H' b=none)/\W i m σ' H':=λ {σ7 H7} I7 n7=>by obtain⟨m',hm,w7⟩:=hN σ7 H7 n7;refine⟨m',hm,i + 1,σ7,H7,I7.gU,T.keep _ _ _ Lg λb hb o e=>(I7.pin (b,o) (Qf _ (Qf _ (ec hb e)))).1,λb hb=>?_,w7⟩;obtain⟨o,e,d⟩:=T.obj _ _ Lg b hb;exact(I7.pin (b,o) (Qf _ (Qf _ (ec hb e)))).2.1
  cases f with
  | next=>obtain⟨σ7,H7,I7,n7⟩:=q7;exact again I7 n7
  | cont=>obtain⟨σ7,H7,I7,n7⟩:=q7;exact again I7 n7
  | brk=>obtain⟨σ7,H7,I7,q7⟩:=q7;exact⟨σ7,H7,I7.gU,q7⟩
  | ret v=>obtain⟨x7,σ7,H7,I7,r7,q7⟩:=q7;exact⟨x7,σ7,H7,I7.gU,r7,q7⟩
end
end L2
namespace L2
open PySem PySem.Spec PyProof.Rows
noncomputable abbrev R2:=V->V->Hp->VK->Prop
noncomputable def iE (X:Cx) (f:Value->Value->Sem Value) (r:R2):Prop:=
 ∀(pins:List (Addr×Obj)) (s:Shared) (σ:St) (H:Hp) (x y:V) (v u:Value) (Q:VK),Inv X pins σ H s->RelV x v->RelV y u->r x y H Q->
  wpAny (model X.prog X.w) X.A (f v u) (EP X pins σ Q) X.xe s
noncomputable def Jb (X:Cx) (f:Value->Sem Value) (r:V->Hp->VK->Prop):Prop:=
 ∀(pins:List (Addr×Obj)) (s:Shared) (σ:St) (H:Hp) (x:V) (v:Value) (Q:VK),Inv X pins σ H s->RelV x v->r x H Q->
  wpAny (model X.prog X.w) X.A (f v) (EP X pins σ Q) X.xe s
noncomputable def ck (X:Cx) (f:Value) (r:List V->Hp->VK->Prop):Prop:=
 ∀(pins:List (Addr×Obj)) (s:Shared) (σ:St) (H:Hp) (xs:List V) (us:List Value) (Q:VK),Inv X pins σ H s->au xs us->r xs H Q->
  wpAny (model X.prog X.w) X.A (call f us) (EP X pins σ Q) X.xe s
noncomputable def Ja (X:Cx) (r:V->Hp->(Bool->Hp->Prop)->Prop):Prop:=
 ∀(pins:List (Addr×Obj)) (s:Shared) (σ:St) (H:Hp) (x:V) (v:Value) (Q:Bool->Hp->Prop),Inv X pins σ H s->RelV x v->r x H Q->
  wpAny (model X.prog X.w) X.A (truthy v) (TP X pins σ Q) X.xe s
noncomputable def IJ (r:R2) (ta tb:TE):TE:=λσ H Q=>ta σ H λx H1=>tb σ H1 λy H2=>r x y H2 Q
noncomputable def OQ (r:V->Hp->VK->Prop) (ta:TE):TE:=λσ H Q=>ta σ H λx H1=>r x H1 Q
noncomputable def rI (C:Int->Int->Prop) (g:Int->Int->V):R2:=λx y H Q=>∃i j,x= .int i/\y= .int j/\C i j/\Q (g i j) H
noncomputable def Bo (g:Int->Int->V):R2:=λx y H Q=>∃i j,x= .int i/\y= .int j/\Q (g i j) H
noncomputable def rU (g:Int->V):V->Hp->VK->Prop:=λx H Q=>∃i,x= .int i/\Q (g i) H
section
variable {X:Cx} {a b c:Expr} {ta tb tc:TE} {pos:Pos}
theorem BU (ha:PE X a ta) (hb:PE X b tb) {pins:List (Addr×Obj)} {s:Shared} {σ:St} {H:Hp} {R:V->V->Hp->Prop} (I:Inv X pins σ H s)
  (h:ta σ H λx H1=>tb σ H1 λy H2=>R x y H2) {Q:Value->Shared->Prop} {f:Value->Value->Sem Value}
  (hf:∀v u s2 x y H2,Inv X pins σ H2 s2->RelV x v->RelV y u->R x y H2->wpAny (model X.prog X.w) X.A (f v u) Q X.xe s2):
  wpAny (model X.prog X.w) X.A (eval a X.env) (λv s₁=>wpAny (model X.prog X.w) X.A (eval b X.env) (λu s₂=>wpAny (model X.prog X.w) X.A (f v u) Q X.xe s₂) X.xe s₁) X.xe s:=by
 refine bH (ha pins s σ H _ I h) λv s1 ⟨x,H1,I1,r1,q1⟩=>?_
 refine bH (hb pins s1 σ H1 _ I1 q1) λu s2 ⟨y,H2,I2,r2,q2⟩=>?_
 exact hf v u s2 x y H2 I2 r1 r2 q2
theorem Bl {op:Operator} {r:R2} (ho:iE X (binaryOp op) r) (ha:PE X a ta) (hb:PE X b tb):PE X (.BinOp a op b pos) (IJ r ta tb):=by intro pins s σ H Q I h;exact wpAny_BinOp (BU ha hb I h λv u s2 x y H2 I2 rx ry q=>ho pins s2 σ H2 x y v u Q I2 rx ry q)
theorem GT {op:UnaryOp} {r:V->Hp->VK->Prop} (ho:Jb X (unaryOp op) r) (ha:PE X a ta):PE X (.UnaryOp op a pos) (OQ r ta):=by intro pins s σ H Q I h;exact UnaryOp_ (bH (ha pins s σ H _ I h) λv s1 ⟨x,H1,I1,r1,q1⟩=>ho pins s1 σ H1 x v Q I1 r1 q1)
theorem GI {f:Value->Value->Sem Value} {C:Int->Int->Prop} {g:Int->Int->Int}
  (rule:∀(i j:Int) (t u:Tok) (s:Shared) (Q:Value->Shared->Prop) (E:Value->Shared->Prop),C i j->Q (.int (g i j) s.toks) {s with toks:=s.toks + 1}->wpAny (model X.prog X.w) X.A (f (.int i t) (.int j u)) Q E s):
  iE X f (rI C λi j=> .int (g i j)):=by
 intro pins s σ H x y v u Q I rx ry h;obtain⟨i,j,rfl,rfl,hc,q⟩:=h;obtain⟨t,rfl⟩:=rx;obtain⟨t',rfl⟩:=ry;exact rule i j t t' s _ _ hc ⟨.int (g i j),H,I.tok _,⟨_,rfl⟩,q⟩
theorem GJ {f:Value->Value->Sem Value} {g:Int->Int->Int}
  (rule:∀(i j:Int) (t u:Tok) (s:Shared) (Q:Value->Shared->Prop) (E:Value->Shared->Prop),Q (.int (g i j) s.toks) {s with toks:=s.toks + 1}->wpAny (model X.prog X.w) X.A (f (.int i t) (.int j u)) Q E s):
  iE X f (Bo λi j=> .int (g i j)):=by
 intro pins s σ H x y v u Q I rx ry h;obtain⟨i,j,rfl,rfl,q⟩:=h;obtain⟨t,rfl⟩:=rx;obtain⟨t',rfl⟩:=ry;exact rule i j t t' s _ _ ⟨.int (g i j),H,I.tok _,⟨_,rfl⟩,q⟩
theorem zY {f:Value->Value->Sem Value} {g:Int->Int->Bool}
  (rule:∀(i j:Int) (t u:Tok) (s:Shared) (Q:Value->Shared->Prop) (E:Value->Shared->Prop),Q (.bool (g i j)) s->wpAny (model X.prog X.w) X.A (f (.int i t) (.int j u)) Q E s):
  iE X f (Bo λi j=> .bl (g i j)):=by
 intro pins s σ H x y v u Q I rx ry h;obtain⟨i,j,rfl,rfl,q⟩:=h;obtain⟨t,rfl⟩:=rx;obtain⟨t',rfl⟩:=ry;exact rule i j t t' s _ _ ⟨.bl (g i j),H,I,rfl,q⟩
noncomputable def IR (i j:Int):Prop:=0 < j/\j < 1073741824
noncomputable def IS (i j:Int):Prop:=0<=j/\j<=1000000/\i.natAbs < 2 ^ 64
noncomputable def BA (i j:Int):Prop:=(-(2 ^ 64) < i/\i < 2 ^ 64)\/(-(2 ^ 64) < j/\j < 2 ^ 64)
theorem BA.ok {i j:Int} (h:BA i j):IntMulOk i j:=by
 rcases h with ⟨h1,h2⟩ | ⟨h1,h2⟩
 ·exact .of_left (intBits_le_64 h1 h2)
 ·exact .of_right (intBits_le_64 h1 h2)
theorem Dc:iE X (binaryOp .Add) (Bo λi j=> .int (i + j)):=GJ λ_ _ _ _ _ _ _ q=>add_int q
theorem Dm:iE X (binaryOp .Sub) (Bo λi j=> .int (i - j)):=GJ λ_ _ _ _ _ _ _ q=>sub_int q
theorem Di:iE X (binaryOp .Mult) (rI BA λi j=> .int (i * j)):=GI λ_ _ _ _ _ _ _ hc q=>mul_int q hc.ok
theorem IG:iE X (binaryOp .FloorDiv) (rI IR λi j=> .int (i / j)):=GI λi j _ _ _ _ _ hc q=>by have h1:(0:Int) < j:=hc.1;have h2:j < 1073741824:=hc.2;exact floordiv_int (by lia) (by rw[Int.fdiv_eq_ediv_of_nonneg i (by lia)];exact q) (.inl (PyProof.noPylong_small (by lia)))
theorem Dh:iE X (binaryOp .Mod) (rI (λ_ j=>0 < j) λi j=> .int (i % j)):=GI λi j _ _ _ _ _ hc q=>by have h1:(0:Int) < j:=hc;exact mod_int' (by lia) (by rw[Int.fmod_eq_emod_of_nonneg i (by lia)];exact q)
theorem Dj:iE X (binaryOp .Pow) (rI IS λi j=> .int (i ^ j.toNat)):=GI λ_ _ _ _ _ _ _ hc q=>pow_int_small hc.1 hc.2.1 hc.2.2 q
theorem Ec {f:Value->Sem Value} {g:Int->Int}
  (rule:∀(i:Int) (t:Tok) (s:Shared) (Q:Value->Shared->Prop) (E:Value->Shared->Prop),Q (.int (g i) s.toks) {s with toks:=s.toks + 1}->wpAny (model X.prog X.w) X.A (f (.int i t)) Q E s):
  Jb X f (rU λi=> .int (g i)):=by
 intro pins s σ H x v Q I rx h;obtain⟨i,rfl,q⟩:=h;obtain⟨t,rfl⟩:=rx;exact rule i t s _ _ ⟨.int (g i),H,I.tok _,⟨_,rfl⟩,q⟩
theorem Ed:Jb X (unaryOp .USub) (rU λi=> .int (-i)):=Ec λ_ _ _ _ _ q=>neg_int q
end
section
variable {X:Cx} {a b c:Expr} {ta tb tc:TE} {pos:Pos}
theorem vE {pins:List (Addr×Obj)} {σ:St} {H:Hp} {s:Shared} {Q:VK} {k k':Bool} (I:Inv X pins σ H s) (q:Q (.bl k) H) (e:k=k'):EP X pins σ Q (.bool k') s:=by subst e;exact⟨.bl k,H,I,rfl,q⟩
theorem GO:iE X (compareOp .Lt) (Bo λi j=> .bl (decide (i < j))):=zY λ_ _ _ _ _ _ _ q=>lt_int q
theorem GN:iE X (compareOp .LtE) (Bo λi j=> .bl (decide (i<=j))):=zY λ_ _ _ _ _ _ _ q=>le_int q
theorem GM:iE X (compareOp .Gt) (Bo λi j=> .bl (decide (j < i))):=zY λ_ _ _ _ _ _ _ q=>gt_int q
theorem GK:iE X (compareOp .GtE) (Bo λi j=> .bl (decide (j<=i))):=zY λ_ _ _ _ _ _ _ q=>ge_int q
theorem Dg:iE X (compareOp .Is) (λx y H Q=>y= .aP/\Q (.bl (decide (x= .aP))) H):=by
 intro pins s σ H x y v u Q I rx ry h;obtain⟨rfl,q⟩:=h;cases ry;refine is_none_gen (vE I q ?_);cases x <;> first
  | (cases rx;rfl)
  | (obtain⟨t,rfl⟩:=rx;rfl)
theorem z9:iE X (compareOp .IsNot) (λx y H Q=>y= .aP/\Q (.bl (!decide (x= .aP))) H):=by
 intro pins s σ H x y v u Q I rx ry h;obtain⟨rfl,q⟩:=h;cases ry;refine isnot_none_gen (vE I q ?_);cases x <;> first
  | (cases rx;rfl)
  | (obtain⟨t,rfl⟩:=rx;rfl)
theorem se {op:CmpOp} {r:R2} (ho:iE X (compareOp op) r) (ha:PE X a ta) (hb:PE X b tb) (hm:behindInMarks op b=false):PE X (.Compare a [op] [b] pos) (IJ r ta tb):=by intro pins s σ H Q I h;exact wpAny_Compare1 (BU ha hb I h λv u s2 x y H2 I2 rx ry q=>ho pins s2 σ H2 x y v u Q I2 rx ry q) hm
noncomputable def HA (t:TE):TT:=λσ H Q=>t σ H λx H'=>∃k,x= .bl k/\Q k H'
theorem Ao {op:CmpOp} {r:R2} (ho:iE X (compareOp op) r) (ha:PE X a ta) (hb:PE X b tb) (hm:behindInMarks op b=false):PT X (.Compare a [op] [b] pos) (HA (IJ r ta tb)):=by
 intro pins s σ H Q I h;refine wpAny_isTrue_Compare1 (bH (ha pins s σ H _ I h) λv s1 ⟨x,H1,I1,r1,q1⟩=>bH (hb pins s1 σ H1 _ I1 q1) λu s2 ⟨y,H2,I2,r2,q2⟩=>
  bH (ho pins s2 σ H2 x y v u _ I2 r1 r2 q2) λc s3 ⟨z,H3,I3,r3,k,e,q3⟩=>?_) hm
 subst e;cases r3;exact wpAny_truthy_bool ⟨H3,I3,q3⟩
noncomputable def E5 (K:PySem.W.Frag) (x:V) (H:Hp) (k:Bool):Prop:=
 match x with
 | .aP=>k=false
 | .bl b=>k=b
 | .int i=>k=(i != 0)
 | .str y=>y.length<=sizeLine/\k=((y.length:Int) != 0)
 | .BZ y=>y.size<=sizeLine/\k=((y.size:Int) != 0)
 | .ref p=>(∃xs,cM K H p xs/\k= !xs.isEmpty)\/(∃xs,d5 K H p xs/\k= !xs.isEmpty)\/∃cC,H p=some (.dK cC)/\k= !cC.isEmpty
 | _=>False
theorem pU {κ:Type} {cC:List (κ×V)} {vs:List (κ×Value)} (r:KV cC vs):(!vs.isEmpty)= !cC.isEmpty:=by cases r <;> rfl
theorem jJ {xs:List V} {its:List Value} (r:au xs its):(!its.toArray.isEmpty)= !xs.isEmpty:=by cases r <;> simp
theorem hZ:(sizeLine:Nat) < 2 ^ 63:=by rw[sizeLine_eq];decide
theorem eh:Ja X (λx H Q=>∃k,E5 X.K x H k/\Q k H):=by
 intro pins s σ H x v Q I rx h;obtain⟨k,e,q⟩:=h;have hl:=hZ;have hs:sizeLine=16777216:=sizeLine_eq;cases x with
 | aP=>cases rx;have e':k=false:=e;subst e';exact truthy_none ⟨H,I,q⟩
 | bl b=>cases rx;have e':k=b:=e;subst e';exact wpAny_truthy_bool ⟨H,I,q⟩
 | int i=>obtain⟨t,rfl⟩:=rx;have e':k=(i != 0):=e;subst e';exact PySem.P.truthy_int ⟨H,I,q⟩
 | str y=>obtain⟨t,rfl⟩:=rx;obtain⟨hy,e'⟩:y.length<=sizeLine/\k=((y.length:Int) != 0):=e;subst e';exact PySem.P.truthy_str (by lia) ⟨H,I.tok _,q⟩
 | BZ y=>obtain⟨t,rfl⟩:=rx;obtain⟨hy,e'⟩:y.size<=sizeLine/\k=((y.size:Int) != 0):=e;subst e';exact PySem.W.truthy_bytes (by lia) ⟨H,I.tok _,q⟩
 | ref p=>
  cases rx;have e':(∃xs,cM X.K H p xs/\k= !xs.isEmpty)\/(∃xs,d5 X.K H p xs/\k= !xs.isEmpty)\/∃cC,H p=some (.dK cC)/\k= !cC.isEmpty:=e;rcases e' with ⟨xs,hx,e'⟩ | ⟨xs,hx,e'⟩ | ⟨cC,hx,e'⟩
  ·subst e';obtain⟨its,r,pl,hz⟩:=I.list hx;have hlen:=r.length;exact wpAny_truthy_list pl.isList (by simp only[Px];lia) ⟨H,I.tok _,by rw[jJ r];exact q⟩
  ·subst e';obtain⟨its,r,pl,hz⟩:=I.tuple hx;have hlen:=r.length;exact truthy_tuple pl (by simp only[Px];lia) ⟨H,I.tok _,by rw[jJ r];exact q⟩
  ·subst e';obtain⟨hz,hS,vs,r,m⟩:cC.length<=sizeLine/\(p==sysModules)=false/\∃vs,KV cC vs/\s.heap.DictOf (mJ X.prog X.w) p vs:=I.hok p _ hx;have hlen:cC.length=vs.length:=Paired.length r;exact wpAny_truthy_dict hS m (by lia) ⟨H,I.tok _,by rw[pU r];exact q⟩
 | _=>exact(show False from e).elim
theorem xc (ha:PE X a ta) (he:∀whole,isTrue a X.env whole=(do let v<-whole;standAt a.pos;holding [v] (truthy v))):
  PT X a (λσ H Q=>ta σ H λx H'=>∃k,E5 X.K x H' k/\Q k H'):=by
 intro pins s σ H Q I h;exact isTrue_plain (bH (ha pins s σ H _ I h) λv s1 ⟨x,H1,I1,r1,q1⟩=>eh pins s1 σ H1 x v Q I1 r1 q1) (he _)
theorem qf:iE X (binaryOp .Add) (λx y H Q=>∃i j,x= .str i/\y= .str j/\i.length + j.length<=sizeLine/\Q (.str (i++j)) H):=by intro pins s σ H x y v u Q I rx ry h;obtain⟨i,j,rfl,rfl,hz,q⟩:=h;obtain⟨t,rfl⟩:=rx;obtain⟨t',rfl⟩:=ry;exact add_str (λt' tk=>⟨.str (i++j),H,I.tok _,⟨_,rfl⟩,q⟩) hz
theorem vals1 {x:V} {us:List Value} (r:au [x] us):∃u,us=[u]/\RelV x u:=by
 cases r with
 | cons r1 r2=>cases r2;exact⟨_,rfl,r1⟩
theorem vd:ck X (.builtin "abs") (λxs H Q=>∃i,xs=[.int i]/\Q (.int (if i < 0 then -i else i)) H):=by intro pins s σ H xs us Q I r h;obtain⟨i,rfl,q⟩:=h;obtain⟨u,rfl,t,rfl⟩:=vals1 r;exact call_abs_int λu tk=>⟨.int (if i < 0 then -i else i),H,I.tok _,⟨_,rfl⟩,q⟩
theorem kS:ck X (.type "int") (λxs H Q=>(∃i,xs=[.int i]/\Q (.int i) H)\/∃k,xs=[.bl k]/\Q (.int (if k then 1 else 0)) H):=by
 intro pins s σ H xs us Q I r h;rcases h with ⟨i,rfl,q⟩ | ⟨k,rfl,q⟩
 ·obtain⟨u,rfl,t,rfl⟩:=vals1 r;exact call_int_int ⟨.int i,H,I,⟨_,rfl⟩,q⟩
 ·obtain⟨u,rfl,r1⟩:=vals1 r;cases r1;exact call_int_bool ⟨.int (if k then 1 else 0),H,I.tok _,⟨_,rfl⟩,q⟩
noncomputable def IX (K:PySem.W.Frag) (x:V) (H:Hp) (n:Nat):Prop:=
 match x with
 | .str y=>y.length<=sizeLine/\n=y.length
 | .BZ y=>y.size<=sizeLine/\n=y.size
 | .ref p=>(∃xs,cM K H p xs/\n=xs.length)\/∃xs,d5 K H p xs/\n=xs.length
 | _=>False
theorem gu:ck X (.builtin "len") (λxs H Q=>∃x n,xs=[x]/\IX X.K x H n/\Q (.int n) H):=by
 intro pins s σ H xs us Q I r h;obtain⟨x,n,rfl,e,q⟩:=h;obtain⟨u,rfl,rx⟩:=vals1 r;have hl:=hZ;have hs:sizeLine=16777216:=sizeLine_eq;cases x with
 | str y=>obtain⟨t,rfl⟩:=rx;obtain⟨hy,e'⟩:y.length<=sizeLine/\n=y.length:=e;subst e';exact len_str (by lia) ⟨.int _,H,I.tok _,⟨_,rfl⟩,q⟩
 | BZ y=>obtain⟨t,rfl⟩:=rx;obtain⟨hy,e'⟩:y.size<=sizeLine/\n=y.size:=e;subst e';exact PySem.W.len_bytes (by lia) ⟨.int _,H,I.tok _,⟨_,rfl⟩,q⟩
 | ref p=>
  cases rx;have e':(∃xs,cM X.K H p xs/\n=xs.length)\/∃xs,d5 X.K H p xs/\n=xs.length:=e;rcases e' with ⟨xs,hx,e'⟩ | ⟨xs,hx,e'⟩
  ·subst e';obtain⟨its,r',pl,hz⟩:=I.list hx;have hlen:=r'.length;exact Calls.call_len_list pl.isList (by simp only[Px];lia) ⟨.int xs.length,H,I.tok _,⟨_,by simp only[Px];rw[hlen]⟩,q⟩
  ·subst e';obtain⟨its,r',pl,hz⟩:=I.tuple hx;have hlen:=r'.length;exact len_tuple pl (by simp only[Px];lia) ⟨.int xs.length,H,I.tok _,⟨_,by simp only[Px];rw[hlen]⟩,q⟩
 | _=>exact(show False from e).elim
end
end L2
namespace L2
open PySem PySem.Spec PyProof.Rows
structure BE (h:Heap) (x dx C:Addr) (mA:Str->Option Value):Prop where
 obj:h.get? x=some (PySem.W.instObj C dx)
 ns:h.Ns1 dx mA
 ne:dx≠x
theorem tU {h:Heap} {dx:Addr} {mA:Str->Option Value} (n:h.Ns1 dx mA):∃od,h.get? dx=some od/\∀name,PySem.W.lookIn name od=some (mA name):=by
 obtain⟨o,es,ep,ho,hd,hk,_,hm⟩:=n;refine⟨o,ho,λname=>?_⟩;have e:=hm name;unfold nsFind findBy at e;rw[<-Array.find?_toList] at e;unfold PySem.W.lookIn;rw[hd];dsimp only;split
 ·rename_i y q;rw[q] at e;exact congrArg some e
 ·rename_i q;rw[q] at e;have a:es.toList.any (·.refKey)=false:=by rw[List.any_eq_false];intro y hy;obtain⟨z,t,J1⟩:=hk y (Array.mem_toList_iff.mp hy);simp[DictEntry.refKey,J1]
  have a':¬es.toList.any (·.refKey)=true:=by rw[a];exact Bool.false_ne_true
  rw[if_neg a'];exact congrArg some e
theorem BE.look {h:Heap} {x dx C:Addr} {mA:Str->Option Value} (I:BE h x dx C mA):∃od,PySem.W.InstAt h x (PySem.W.instObj C dx) C (some od)/\∀name,PySem.W.lookIn name od=some (mA name):=
 let ⟨od,ho,hl⟩:=tU I.ns
 ⟨od,⟨I.obj,rfl,rfl,ho⟩,hl⟩
section
variable {P:Program} {w:World} {H H':Hp} {h h':Heap} {a C dx:Addr} {fs JA:List (Str×V)}
theorem zF (hok:d4 P w H h) (e:H a=some (.ins C dx fs)):∃mA,BE h a dx C mA/\(∀f,BG (fs.lookup f) (mA f))/\PySem.Within mA (fs.map (·.1))/\fs.length<=1000/\H dx=some (.own a):=by obtain⟨d,z,ne,ob,mA,n,r,q⟩:=(show bB P w H h a (.ins C dx fs) from hok a _ e);exact⟨mA,⟨ob,n,ne⟩,r,q,z,d⟩
end
structure IT (K:PySem.W.Frag) (C:Addr):Prop where
 pg:PySem.W.plainGet K C Str.empty=true
 hd:PySem.W.hasDictIn K C=true
 po:PySem.W.plainOver K C=true
 sa:PySem.W.findIn K (.ref C) "__setattr__"=some (some (.builtin "object.__setattr__"))
theorem IT.get {K:PySem.W.Frag} {C:Addr} (c:IT K C) (f:Str):PySem.W.plainGet K C f=true:=c.pg
section
variable {X:Cx} {pins:List (Addr×Obj)} {σ:St} {H:Hp} {s:Shared} {A:Around} {E:Value->Shared->Prop} {Q:Value->Shared->Prop} {c:Value} {b:Bool}
inductive gq (K:PySem.W.Frag) (H:Hp):V->Value->Prop where
 | aP:gq K H .aP (.type "NoneType")
 | bl (x:Bool):gq K H (.bl x) (.type "bool")
 | int (i:Int):gq K H (.int i) (.type "int")
 | str (x:Str):gq K H (.str x) (.type "str")
 | yo (x:UInt64):gq K H (.yo x) (.type "float")
 | lst {a:Addr} {xs:List V} (e:H a=some (.lst xs)):gq K H (.ref a) (.type "list")
 | q9 {a:Addr} {o:Obj} {xs:List V} (e:H a=some (.q9 o (.lst xs))):gq K H (.ref a) (.type "list")
 | tup {a:Addr} {xs:List V} (e:H a=some (.tup xs)):gq K H (.ref a) (.type "tuple")
 | dK {a:Addr} {cC:List (Key×V)} (e:H a=some (.dK cC)):gq K H (.ref a) (.type "dict")
 | dT {a:Addr} {cC:List (List Key×V)} (e:H a=some (.dT cC)):gq K H (.ref a) (.type "dict")
 | ins {a C dx:Addr} {fs:List (Str×V)} (e:H a=some (.ins C dx fs)) (cl:IT K C) (ha:PySem.W.findIn K (.ref C) "__class__"=some (some (.builtin "object.__class__")))
   (hn:PySem.W.specialIn K (.builtin "object.__class__") "__get__"=some (some (.builtin "getset_descriptor.__get__"))) (Mf:PySem.W.takesIn K (.builtin "object.__class__")=some true)
   (hm:PySem.W.mroIn K C (.type "object")=some true):gq K H (.ref a) (.ref C)
theorem tR {x:V} {u t:Value} (I:Inv X pins σ H s) (rx:RelV x u) (ty:gq X.K H x t) (e:PySem.W.kitOne X.K t c=some b) (h:∀tk,Q (.bool b) {s with toks:=tk}):
  wpAny (model X.prog X.w) A (call (.builtin "isinstance") [u,c]) Q E s:=by
 cases ty with
 | aP=>cases (show u=Value.none from rx);exact PySem.W.kia_one PySem.W.kitx_none I.jb True.intro e (λz=>nomatch z) h
 | bl y=>cases (show u=Value.bool y from rx);exact PySem.W.kia_one PySem.W.kitx_bool I.jb True.intro e (λz=>nomatch z) h
 | int i=>obtain⟨t,q⟩:=(show∃t,u=Value.int i t from rx);cases q;exact PySem.W.kia_one PySem.W.kitx_int I.jb True.intro e (λz=>nomatch z) h
 | str y=>obtain⟨t,q⟩:=(show∃t,u=Value.str y t from rx);cases q;exact PySem.W.kia_one PySem.W.kitx_str I.jb True.intro e (λz=>nomatch z) h
 | yo y=>obtain⟨t,q⟩:=(show∃t,u=Value.float y t from rx);cases q;exact PySem.W.kia_one PySem.W.kitx_float I.jb True.intro e (λz=>nomatch z) h
 | @lst a xs ea=>cases (show u=Value.ref a from rx);obtain⟨_,_,n,_,h1⟩:=(show bB X.prog X.w H s.heap a (.lst xs) from I.hok a _ ea);exact PySem.W.kia_one PySem.W.kitx_list I.jb ⟨_,h1,rfl⟩ e (λz=>nomatch z) h
 | @q9 a ob xs ea=>cases (show u=Value.ref a from rx);obtain⟨_,_,_,n,_,h1⟩:=(show bB X.prog X.w H s.heap a (.q9 ob (.lst xs)) from I.hok a _ ea);exact PySem.W.kia_one PySem.W.kitx_list I.jb ⟨_,h1,rfl⟩ e (λz=>nomatch z) h
 | @tup a xs ea=>cases (show u=Value.ref a from rx);obtain⟨_,_,_,p⟩:=(show bB X.prog X.w H s.heap a (.tup xs) from I.hok a _ ea);obtain⟨o,h1,h2,_⟩:=p;exact PySem.W.kia_one PySem.W.kitx_tuple I.jb ⟨o,h1,h2⟩ e (λz=>nomatch z) h
 | @dK a cC ea=>cases (show u=Value.ref a from rx);obtain⟨_,_,vs,_,p⟩:=(show bB X.prog X.w H s.heap a (.dK cC) from I.hok a _ ea);obtain⟨o,es,ep,h1,h2,_⟩:=p;exact PySem.W.kia_one PySem.W.kitx_dict I.jb ⟨o,h1,h2.1⟩ e (λz=>nomatch z) h
 | @dT a cC ea=>cases (show u=Value.ref a from rx);obtain⟨_,_,xs,_,o,es,ep,h1,h2,_⟩:=(show bB X.prog X.w H s.heap a (.dT cC) from I.hok a _ ea);exact PySem.W.kia_one PySem.W.kitx_dict I.jb ⟨o,h1,h2.1⟩ e (λz=>nomatch z) h
 | @ins a C dx fs ea cl ha hn Mf hm=>cases (show u=Value.ref a from rx);obtain⟨mA,O,_⟩:=zF I.hok ea;obtain⟨od,J,_⟩:=O.look;exact PySem.W.kia_one (PySem.W.kitx_own (cl.get _) cl.hd ha hn Mf hm) I.jb J e (λz=>nomatch z) h
end
end L2
namespace L2
open PySem PySem.Spec PyProof.Rows
structure gk (k:Nat) (A:Around):Prop where
 hd:A.handled=none
 dp:A.depth + 3 * k + 5 < recursionLimit
 un:A.units + 16 * k + 200 < cLine
theorem gk.deeper {k:Nat} {A:Around} (r:gk (k + 1) A) (env:Env):gk k (A.deeper env):=
 ⟨r.hd,by have:=r.dp;show A.depth + 1 + 3 * k + 5 < _;lia,by have:=r.un;show A.units + 3 + 16 * k + 200 < _;lia⟩
theorem gk.depth {k:Nat} {A:Around} (r:gk k A):A.depth < recursionLimit:=by have:=r.dp;lia
noncomputable def D4:TA:=λ_ H Q=>Q [] H
noncomputable def xO (ta:TE) (tr:TA):TA:=λσ H Q=>ta σ H λx H1=>tr σ H1 λxs H2=>Q (x::xs) H2
section
variable {X:Cx} {e:Expr} {es:List Expr} {te:TE} {t:TA} {pos:Pos}
theorem eW:PA X [] D4:=λ_ _ _ _ H Q I h=>Calls.spliced_nil ⟨[],H,I,.nil,h⟩
theorem bZ (ha:PE X e te) (hr:PA X es t) (hs:starEach (e::es) X.env=(false,eval e X.env)::starEach es X.env:=by rfl):PA X (e::es) (xO te t):=by intro pos pins s σ H Q I h;rw[hs];show wpAny _ _ (spliced ((false,eval e X.env)::backTo pos (starEach es X.env))) _ _ s;refine Calls.spliced_cons (bH (ha pins s σ H _ I h) λu s1 ⟨x,H1,I1,r1,q1⟩=>?_);exact bH (hr pos pins s1 σ H1 _ I1 q1) λus s2 ⟨xs,H2,I2,r2,q2⟩=>⟨x::xs,H2,I2,.cons r1 r2,q2⟩
noncomputable def Lo (t:TA):TE:=λσ H Q=>t σ H λxs H1=>xs.length<=sizeLine/\∀p,H1 p=none->Q (.ref p) (upd H1 p (.tup xs))
noncomputable def Ll (t:TA):TE:=λσ H Q=>t σ H λxs H1=>xs.length<=sizeLine/\∀p,H1 p=none->Q (.ref p) (upd H1 p (.lst xs))
theorem Dv {x1} (h:PA X es t):PE X (.Tuple es x1 pos) (Lo t):=by intro pins s σ H Q I hq;refine wpAny_Tuple_spliced (bH (h pos pins s σ H _ I hq) λus s1 ⟨xs,H1,I1,r,z,q⟩=>⟨by rw[<-r.length];exact z,?_⟩);have hf:H1 s1.heap.objs.size=none:=I1.hok.fresh (PF _);refine⟨.ref s1.heap.objs.size,upd H1 s1.heap.objs.size (.tup xs),I1.laid (t':=s1.toks) (λb u e=>Pu _ e) (PF _) ?_,rfl,q _ hf⟩;exact⟨z,us,r,⟨_,PJ _ rfl,rfl,_,rfl,rfl,rfl⟩⟩
theorem wQ (h:PA X es t):PE X (.List es pos) (Ll t):=by intro pins s σ H Q I hq;refine wpAny_List_spliced (bH (h pos pins s σ H _ I hq) λus s1 ⟨xs,H1,I1,r,z,q⟩=>⟨by rw[<-r.length];exact z,?_⟩);have hf:H1 s1.heap.objs.size=none:=I1.hok.fresh (PF _);refine⟨.ref s1.heap.objs.size,upd H1 s1.heap.objs.size (.lst xs),I1.laid (t':=s1.toks) (λb u e=>Pu _ e) (PF _) ?_,rfl,q _ hf⟩;exact⟨z,us,0,r,PJ _ rfl⟩
end
noncomputable abbrev Sp:=List V->Hp->VK->XK->Prop
noncomputable abbrev iX:=List Env->Hp->Shared->XK->Value->Shared->Prop
structure yF (P:Program) (w:World) (K:PySem.W.Frag) (mg:Str->Option Value) (base:Heap) (A:Around) (outer:List Env) (s:Shared) (H:Hp):Prop where
 frames:A.frames=some outer
 mod:Mod K mg base
 bs:∀b o,base.get? b=some o->s.heap.get? b=some o/\H b=none
 u7:base.objs.size<=s.heap.objs.size
 fS:s.heap.FunFrames base outer
 zj:∀b∈dY outer,H b=none
 hok:d4 P w H s.heap
 bare:AllBare s.gens
noncomputable def CE (outer:List Env) (P:Program) (w:World) (H:Hp) (s:Shared) (Q:VK) (u:Value) (s':Shared):Prop:=
 ∃v H',s'.os=s.os/\AllBare s'.gens/\Un (dY outer) [] H H' s.heap s'.heap/\d4 P w H' s'.heap/\RelV v u/\Q v H'
noncomputable def CR (CX:iX) (outer:List Env) (P:Program) (w:World) (H:Hp) (s:Shared) (Q:VK) (E:XK) (r:Result) (s':Shared):Prop:=
 match r with
 | .ok (.ret u)=>CE outer P w H s Q u s'
 | .ok _=>False
 | .error e=>CX outer H s E e s'
structure gW (P:Program) (w:World) (K:PySem.W.Frag) (mg:Str->Option Value) (base:Heap) (CX:iX) (k:Nat) (f:Addr) (fd:FuncData) (ps:List Str) (sp:Sp):Prop where
 len:∀vs H Q E,sp vs H Q E->vs.length=ps.length
 run:∀(A:Around) (outer:List Env) (s:Shared) (H:Hp) (args:Args) (us:List Value) (vs:List V) (Q:VK) (E:XK),gk k A->yF P w K mg base A outer s H->BindsTo s fd args (ps.zip us)->au vs us->sp vs H Q E->
  codeAny (model P w) A (.call (.ref f) args) (CR CX outer P w H s Q E) s
theorem gW.imp {P:Program} {w:World} {K:PySem.W.Frag} {mg:Str->Option Value} {base:Heap} {CX:iX} {k:Nat} {f:Addr} {fd:FuncData} {ps:List Str} {sp Mt:Sp} (F:gW P w K mg base CX k f fd ps sp)
  (h:∀vs H Q E,Mt vs H Q E->sp vs H Q E):gW P w K mg base CX k f fd ps Mt:=
 ⟨λvs H Q E q=>F.len vs H Q E (h _ _ _ _ q),λA outer s H args us vs Q E hr he hb hv hs=>F.run A outer s H args us vs Q E hr he hb hv (h _ _ _ _ hs)⟩
section
variable {X:Cx} {pins:List (Addr×Obj)} {σ:St} {H:Hp} {s s':Shared}
theorem Inv.eR (I:Inv X pins σ H s):yF X.prog X.w X.K X.mg X.base X.A X.stack s H:=
 ⟨I.ok.frames,I.ok.mod,I.bs,PP I.ok.u7 I.sz,I.stack,I.m9,I.hok,I.bare⟩
theorem Inv.after {Q:VK} {u:Value} (I:Inv X pins σ H s) (h:CE X.stack X.prog X.w H s Q u s'):EP X pins σ Q u s':=by obtain⟨v,H',os,bare,un,hok,r,q⟩:=h;obtain⟨hh,g,d,t,OF⟩:=s';obtain rfl:OF=s.os:=os;exact⟨v,H',I.call (h':=hh) (g':=g) (d':=d) (t':=t) (ch:=[]) un hok bare (λb z=>absurd z (by simp)),r,q⟩
end
noncomputable def Hs (sp:Sp) (tu:List V) (E:XK) (t:TA):TE:=λσ H Q=>t σ H λvs H1=>sp (vs++tu) H1 Q E
noncomputable def Binds (K:PySem.W.Frag) (fd:FuncData) (ps:List Str) (ds:List Value):Prop:=
 ∀(s:Shared) (us:List Value),K.In s.heap->(us++ds).length=ps.length->BindsTo s fd ⟨us,[]⟩ (ps.zip (us++ds))
theorem Binds.all {K:PySem.W.Frag} {fd:FuncData} {ps:List Str} (h:∀us:List Value,us.length=ps.length->bindArgs fd ⟨us,[]⟩=pure (ps.zip us)):Binds K fd ps []:=λs us _ hl=>by rw[Qn] at hl ⊢;exact .of_eq (h us hl)
noncomputable def pj (CX:iX) (X:Cx) (E:XK):Prop:=∀(pins:List (Addr×Obj)) (σ:St) (H:Hp) (s:Shared) (e:Value) (s':Shared),Inv X pins σ H s->CX X.stack H s E e s'->X.xe e s'
section
variable {X:Cx} {CX:iX} {k:Nat} {f C:Addr} {fd:FuncData} {ps:List Str} {sp:Sp} {tu:List V} {ds:List Value} {E:XK} {x m:Str} {p pos apos:Pos} {e o:Expr} {es:List Expr} {ta:TE} {t:TA}
theorem DL {pins:List (Addr×Obj)} {σ:St} {H:Hp} {s:Shared} {Q:VK} {us:List Value} {vs:List V} (F:gW X.prog X.w X.K X.mg X.base CX k f fd ps sp) (hr:gk k X.A) (hb:Binds X.K fd ps ds) (hd:au tu ds) (hx:pj CX X E)
  (I:Inv X pins σ H s) (r:au vs us) (h:sp (vs++tu) H Q E):wpAny (model X.prog X.w) X.A (call (.ref f) us) (EP X pins σ Q) X.xe s:=by
 have r2:au (vs++tu) (us++ds):=r.append hd;have hl:(us++ds).length=ps.length:=by rw[<-r2.length];exact F.len _ _ _ _ h
 refine wpAny_call (codeAny_mono (F.run X.A X.stack s H ⟨us,[]⟩ (us++ds) (vs++tu) Q E hr I.eR (hb s us I.jb hl) r2 h) λr s' hq=>?_);cases r with
 | error e=>exact hx pins σ H s e s' I hq
 | ok fl=>
  cases fl with
  | ret u=>exact I.after hq
  | next=>exact False.elim hq
  | brk=>exact False.elim hq
  | cont=>exact False.elim hq
theorem Ad (F:gW X.prog X.w X.K X.mg X.base CX k f fd ps sp) (hr:gk k X.A) (hg:Gl X x) (hm:X.mg x=some (.ref f)) (hk:PySem.W.keepIn X.K (.ref f)=true) (hb:Binds X.K fd ps ds) (hd:au tu ds) (hx:pj CX X E)
  (ha:PA X (e::es) t) (og:(x==("__debug__":Str))=false:=by decide) (he:starEach (e::es) X.env=(false,eval e X.env)::starEach es X.env:=by rfl) (k7:(backTo pos (starEach es X.env)).any (·.1)=false:=by rfl):
  PE X (.Call (.Name x p) (e::es) [] pos) (Hs sp tu E t):=by
 intro pins s σ H Q I h;refine wpAny_Call_Name_kw (gG I hg hm ?_ og);refine PySem.W.callWith_K (h₀:=X.base) I.ok.mod.CS hk (bH (ha pos pins s σ H _ I h) λus s1 ⟨vs,H1,I1,r,q⟩=>⟨I1.jb,?_⟩) he k7;exact DL F hr hb hd hx I1 r q
end
structure dZ (N P:List Str) (sc:Scope):Prop where
 kind:sc.kind= .function
 co:sc.isCoroutine=false
 gen:sc.isGenerator=false
 nd:N.Nodup
 pre:N.take P.length=P
 par:∀x∈P,sc.names.lookup x=some .local\/sc.names.lookup x=some .cell
 C7:∀y∈sc.names,y.2≠ .free
theorem kQ {kindOf:Str->Option NameKind} {x:Str}:∀{binds:List (Str×Value)} {m:Str->Option Value},(∀v,(x,v)∉binds)->bindL kindOf binds m x=m x
 | [],_,_=>rfl
 | (n,v)::r,m,h=>by
  unfold bindL;rw[kQ λw hw=>h w (PC _ hw)];split
  ·have:x≠n:=by rintro rfl;exact h v PH
   simp[this]
  ·rfl
theorem kO {kindOf:Str->Option NameKind} {x:Str}:∀{binds:List (Str×Value)} {m:Str->Option Value},(∀v,(x,v)∉binds)->bindC kindOf binds m x=m x
 | [],_,_=>rfl
 | (n,v)::r,m,h=>by
  unfold bindC;rw[kO λw hw=>h w (PC _ hw)];split
  ·rfl
  ·have:x≠n:=by rintro rfl;exact h v PH
   simp[this]
theorem kP {kindOf:Str->Option NameKind} {x:Str} {v:Value}:∀{P:List Str} {vs:List Value} {i:Nat} {m:Str->Option Value},P.Nodup->P[i]?=some x->vs[i]?=some v->kindOf x=some .local->
  bindL kindOf (P.zip vs) m x=some v
 | [],_,_,_,_,h,_,_=>by simp at h
 | _::_,[],_,_,_,_,h,_=>by simp at h
 | p::P,w::vs,0,m,nd,h1,h2,hk=>by simp at h1 h2;subst h1;subst h2;show bindL kindOf ((p,w)::P.zip vs) m p=_;unfold bindL;rw[kQ λv hv=>(List.nodup_cons.mp nd).1 (List.of_mem_zip hv).1,if_pos hk];simp
 | p::P,w::vs,i + 1,m,nd,h1,h2,hk=>by show bindL kindOf ((p,w)::P.zip vs) m x=_;unfold bindL;exact kP (i:=i) (List.nodup_cons.mp nd).2 (by simpa using h1) (by simpa using h2) hk
theorem kN {kindOf:Str->Option NameKind} {x:Str} {v:Value}:∀{P:List Str} {vs:List Value} {i:Nat} {m:Str->Option Value},P.Nodup->P[i]?=some x->vs[i]?=some v->kindOf x≠some .local->
  bindC kindOf (P.zip vs) m x=some v
 | [],_,_,_,_,h,_,_=>by simp at h
 | _::_,[],_,_,_,_,h,_=>by simp at h
 | p::P,w::vs,0,m,nd,h1,h2,hk=>by simp at h1 h2;subst h1;subst h2;show bindC kindOf ((p,w)::P.zip vs) m p=_;unfold bindC;rw[kO λv hv=>(List.nodup_cons.mp nd).1 (List.of_mem_zip hv).1,if_neg hk];simp
 | p::P,w::vs,i + 1,m,nd,h1,h2,hk=>by show bindC kindOf ((p,w)::P.zip vs) m x=_;unfold bindC;exact kN (i:=i) (List.nodup_cons.mp nd).2 (by simpa using h1) (by simpa using h2) hk
noncomputable def start (N:List Str) (vs:List V):St:=vs.map some++List.replicate (N.length - vs.length) none
noncomputable def jy (CX:iX) (P:Program) (w:World) (K:PySem.W.Frag) (mg:Str->Option Value) (base:Heap) (N:List Str) (qual:Str) (scope:Scope) (f:Addr) (cd:Value) (A:Around) (outer:List Env) (s:Shared) (H:Hp) (E:XK):Cx where
 prog:=P
 w:=w
 K:=K
 mg:=mg
 base:=base
 A:=A.deeper (envOfC qual scope s.heap.objs.size f cd)
 N:=N
 s₀:=s
 H₀:=H
 env:=envOfC qual scope s.heap.objs.size f cd
 outer:=outer
 stack:=envOfC qual scope s.heap.objs.size f cd::outer
 ex:=[]
 calm:=true
 fn:=λ_=>true
 pn:=[]
 xe:=λe s'=>wpAny (model P w) (A.deeper (envOfC qual scope s.heap.objs.size f cd)) (leaving (envOfC qual scope s.heap.objs.size f cd) e) (λ_ s''=>CX outer H s E e s'') (λe' s''=>CX outer H s E e' s'') s'
theorem nQ {sc:Scope} {n:Nat} {x:Str} (h:sc.names.lookup x=some .cell):∃c,(cellsFrom n sc.names []).lookup x=some c:=by have q:=PySem.W.cellsFrom_some sc.names n [] (.inl h);exact Option.isSome_iff_exists.mp q
theorem tP {CX:iX} {P:Program} {w:World} {K:PySem.W.Frag} {mg:Str->Option Value} {base:Heap} {N ps:List Str} {qual:Str} {scope:Scope} {f:Addr} {cd:Value} {A:Around} {outer:List Env} {s s1:Shared} {H:Hp} {E:XK} {us:List Value} {vs:List V}
  (S:dZ N ps scope) (hd:A.handled=none) (e0:yF P w K mg base A outer s H) (hl:vs.length=ps.length) (r:au vs us)
  (x:InCallC s s.heap.objs.size (bindL (envOfC qual scope s.heap.objs.size f cd).kindOf (ps.zip us) λ_=>none) (cellsFrom (s.heap.objs.size + 1) scope.names []) (bindC (envOfC qual scope s.heap.objs.size f cd).kindOf (ps.zip us) λ_=>none) s1):
  Inv (jy CX P w K mg base N qual scope f cd A outer s H E) [] (start N vs) H s1:=by
 have k7:ps.length<=N.length:=by have:=congrArg List.length S.pre;rw[List.length_take] at this;lia
 obtain⟨h1,tk,rfl,hk⟩:=x.done;have GD:∀b:Addr,b∉(jy CX P w K mg base N qual scope f cd A outer s H E).ex:=λb z=>absurd (show b∈([]:List Addr) from z) (by simp)
 refine⟨⟨e0.mod,S.kind,rfl,rfl,PF _,λy z c h1 h2=>?_,λy hy=>?_,λy c _ h=>?_,λ_=>hd,Around.frames_deeper e0.frames,.inr ⟨rfl,rfl⟩,λb z=>absurd z (GD b),e0.bs,e0.u7,λb _ _=>GD b,λb z=>absurd z (GD b),e0.fS,e0.zj⟩,
  rfl,e0.bare,Un.kept hk,⟨_,x.toInCall.ns,λi y v h1 h2 h3=>?_⟩,λy c h=>⟨_,x.cell y c h⟩,e0.hok.fresh (PF _),λy c h=>?_,λp hp=>absurd (show p∈([]:List (Addr×Obj)) from hp) (by simp),e0.hok.kept hk,?_⟩
 ·exact name_of_addr x.apart (PySem.mem_of_lookup h1) (PySem.mem_of_lookup h2)
 ·have hy:scope.names.lookup y=some .cell\/scope.names.lookup y=some .free:=hy;rcases hy with hy | hy
  ·exact nQ hy
  ·exact absurd rfl (S.C7 _ (PySem.mem_of_lookup hy))
 ·exact Nat.le_of_lt (x.above y c (PySem.mem_of_lookup h))
 ·have hi:i < vs.length:=by
   unfold start at h2;by_cases hi:i < vs.length
   ·exact hi
   ·rw[Qq (by simpa using hi)] at h2;rw[List.getElem?_replicate] at h2;split at h2 <;> cases h2
  have ha:vs[i]?=some v:=by
   unfold start at h2;rw[Qp (by simpa using hi),P1] at h2;cases e:vs[i]? with
   | none=>rw[e] at h2;cases h2
   | some a=>rw[e] at h2;cases h2;rfl
  obtain⟨u,hu,rv⟩:=r.get ha;have hp:ps[i]?=some y:=by rw[<-S.pre,List.getElem?_take_of_lt (by lia)];exact h1
  have Ml:ps.Nodup:=by rw[<-S.pre];exact S.nd.sublist (List.take_sublist _ _)
  refine⟨u,rv,?_⟩;rcases S.par y (List.mem_of_getElem? hp) with k | k
  ·exact .inl ⟨k,kP Ml hp hu k⟩
  ·obtain⟨c,e⟩:=nQ (n:=s.heap.objs.size + 1) k;refine .inr ⟨.inl k,c,e,?_⟩;have q:=x.cell y c e;rw[kN Ml hp hu (by show scope.names.lookup y≠_;rw[k];decide)] at q;exact q
 ·exact e0.hok.fresh (Nat.le_of_lt (x.above y c (PySem.mem_of_lookup h)))
 ·unfold start;show _=N.length;rw[PY,PL,List.length_replicate]
  lia
end L2
namespace L2
open PySem PySem.Spec PyProof.Rows
section
variable {X:Cx} {x:Str} {p pos:Pos} {e:Expr} {es:List Expr} {t:TA} {id T:String} {r:List V->Hp->VK->Prop}
noncomputable def Lk (r:List V->Hp->VK->Prop) (t:TA):TE:=λσ H Q=>t σ H λvs H1=>r vs H1 Q
theorem jY (hc:ck X (.builtin id) r) (hg:Gl X x) (hm:X.mg x=none) (hv:bootBuiltins x=some (.builtin id)) (ha:PA X (e::es) t) (hn:x≠"__name__":=by decide) (og:(x==("__debug__":Str))=false:=by decide)
  (he:starEach (e::es) X.env=(false,eval e X.env)::starEach es X.env:=by rfl) (k7:(backTo pos (starEach es X.env)).any (·.1)=false:=by rfl):PE X (.Call (.Name x p) (e::es) [] pos) (Lk r t):=by
 intro pins s σ H Q I h;refine wpAny_Call_Name_kw (jN I hg hm hv ?_ hn og);exact PyProof.Rows.callWith_builtin1 (bH (ha pos pins s σ H _ I h) λus s1 ⟨vs,H1,I1,r1,q1⟩=>hc pins s1 σ H1 vs us Q I1 r1 q1) he k7
theorem tY (hc:ck X (.type T) r) (hg:Gl X x) (hm:X.mg x=none) (hv:bootBuiltins x=some (.type T)) (ha:PA X (e::es) t) (hn:x≠"__name__":=by decide) (og:(x==("__debug__":Str))=false:=by decide)
  (he:starEach (e::es) X.env=(false,eval e X.env)::starEach es X.env:=by rfl) (k7:(backTo pos (starEach es X.env)).any (·.1)=false:=by rfl):PE X (.Call (.Name x p) (e::es) [] pos) (Lk r t):=by
 intro pins s σ H Q I h;refine wpAny_Call_Name_kw (jN I hg hm hv ?_ hn og);exact PyProof.Rows.callWith_type1 (bH (ha pos pins s σ H _ I h) λus s1 ⟨vs,H1,I1,r1,q1⟩=>hc pins s1 σ H1 vs us Q I1 r1 q1) he k7
end
end L2
namespace HT
open PySem PyProof.Rows
section
variable {prog:Program} {w:World} {A:Around} {E:Value->Shared->Prop} {s:Shared}
theorem zc {t b:Addr} {vs ws:List Value} {Q:Value->Shared->Prop} (ht:IsTup s.heap t vs.toArray) (hb:IsTup s.heap b ws.toArray) (hv:vs≠[])
  (h1:ws=[]->Q (.ref t) s) (h2:ws≠[]->Q (.ref s.heap.objs.size) {s with heap:=s.heap.push {cls:= .type "tuple",data:= .seq (vs++ws).toArray}})
  (fU:vs.length + ws.length<=sizeLine):wpAny (model prog w) A (binaryOp .Add (.ref t) (.ref b)) Q E s:=by
 obtain⟨⟨cls,dd,data,sl⟩,ho,hc,n,hd⟩:=id ht;obtain⟨⟨Fi,yj,data2,uB⟩,rj,nZ,n2,hd2⟩:=id hb;simp only at hc hd nZ hd2;subst hc hd nZ hd2;have e:vs.toArray++ws.toArray=(vs++ws).toArray:=by simp
 by_cases hw:ws=[]
 ·exact concat_meets ⟨_,ho,rfl⟩ ⟨_,rj,rfl⟩ noFill_tuple_add seq_tuple_add PySem.F.slot_tuple_add PySem.F.entry_tuple_add (PySem.F.args_tuple_add_2 _ _)
   (tuple_addW1 t b vs.toArray ws.toArray n n2 dd yj sl uB (by simpa using hv) (by simp[hw])) ⟨ho,rj,h1 hw⟩
 ·refine concat_meets ⟨_,ho,rfl⟩ ⟨_,rj,rfl⟩ noFill_tuple_add seq_tuple_add PySem.F.slot_tuple_add PySem.F.entry_tuple_add (PySem.F.args_tuple_add_2 _ _)
   (tuple_addW2 t b vs.toArray ws.toArray n n2 dd yj sl uB (by simpa using hv) (by simpa using hw) (by rw[Px,Px];exact fU)) ⟨ho,rj,?_⟩
  rw[e];exact h2 hw
noncomputable def bF (n d:Nat):Option Int->Nat
 | none=>d
 | some v=>if v < 0 then(v + (n:Int)).toNat else min v.toNat n
theorem j5 (n d:Nat):bF n d none=d:=rfl
theorem sH (n d k:Nat):bF n d (some (k:Int))=min k n:=by show (if (k:Int) < 0 then((k:Int) + (n:Int)).toNat else min (k:Int).toNat n)=min k n;rw[if_neg (by lia),Int.toNat_natCast]
theorem DM (n d:Nat) (hd:d<=n) (o:Option Int):bF n d o<=n:=by
 cases o with
 | none=>exact hd
 | some v=>
  show (if v < 0 then(v + (n:Int)).toNat else min v.toNat n)<=n;by_cases hv:v < 0
  ·rw[if_pos hv];lia
  ·rw[if_neg hv];exact Nat.min_le_right _ _
theorem qO (v:Int) (n d:Nat):(if v < 0 then max (v + (n:Int)) 0 else min v (n:Int))=((bF n d (some v):Nat):Int):=by
 show (if v < 0 then max (v + (n:Int)) 0 else min v (n:Int))=(((if v < 0 then(v + (n:Int)).toNat else min v.toNat n):Nat):Int);by_cases hv:v < 0
 ·simp only[if_pos hv];lia
 ·simp only[if_neg hv];lia
theorem pv (lo hi:Option Int) (n:Nat):Builtin.Slice.sliceAdjust lo hi 1 (n:Int)=(((bF n 0 lo:Nat):Int),((bF n n hi:Nat):Int)):=by
 have h1:¬((1:Int) < 0):=by lia
 unfold Builtin.Slice.sliceAdjust;simp only[h1,if_false];refine Prod.ext ?_ ?_
 ·cases lo with
  | none=>rfl
  | some v=>exact qO v n 0
 ·cases hi with
  | none=>rfl
  | some v=>exact qO v n n
theorem qk (i j:Nat):Builtin.Slice.slicePlaces (i:Int) (j:Int) 1=j - i:=by
 unfold Builtin.Slice.slicePlaces;have h1:(1:Int) > 0:=by lia
 simp only[h1,if_true,Int.ediv_one];split <;> lia
theorem j7 {v:Value} {o:Option Int} {Q:Option Int->Shared->Prop} (p:IsPart v o) (h:Q o s):wpAny (model prog w) A (Builtin.Slice.slicePartIndex v) Q E s:=by
 cases p with
 | none=>exact slicePart_none h
 | int i t=>exact slicePart_int h
theorem dW {sl:Addr} {vl vu:Value} {lo hi:Option Int} {n:Nat} {Q:Int×Int×Nat->Shared->Prop} (hs:s.heap.IsSliceOf sl vl vu .none) (pl:IsPart vl lo) (pu:IsPart vu hi)
  (h:Q (((bF n 0 lo:Nat):Int),1,bF n n hi - bF n 0 lo) s):wpAny (model prog w) A (Builtin.Slice.sliceApplied (.ref sl) (pure (n:Int))) Q E s:=by
 obtain⟨os,Cz,uy,FW⟩:=id hs;unfold Builtin.Slice.sliceApplied Builtin.Slice.sliceFields;refine Pr (Pr (wpAny_field Cz FW (x:=vl) rfl (Pr (wpAny_field Cz FW (x:=vu) rfl (Pr (wpAny_field Cz FW (x:= .none) rfl (Pv ?_)))))));refine Pr (slicePart_none ?_);show wpAny _ _ (if ((1:Int)==0)=true then _ else _) _ _ s;rw[if_neg (by decide)];refine Pr (j7 pl (Pr (j7 pu (Pr (Pv ?_)))));show wpAny _ _ (match Builtin.Slice.sliceAdjust lo hi 1 (n:Int) with | (lo,hi)=>pure (lo,(1:Int),Builtin.Slice.slicePlaces lo hi 1)) _ _ s;rw[pv lo hi n];show wpAny _ _ (pure (((bF n 0 lo:Nat):Int),(1:Int),Builtin.Slice.slicePlaces ((bF n 0 lo:Nat):Int) ((bF n n hi:Nat):Int) 1)) _ _ s;rw[qk];exact Pv h
theorem wW (xs:Array Value) (i k:Nat):((List.range k).filterMap λ(m:Nat)=>xs[((i:Int) + (m:Int) * 1).toNat]?).toArray=((xs.toList.drop i).take k).toArray:=by
 have e:(λ(m:Nat)=>xs[((i:Int) + (m:Int) * 1).toNat]?)=λm=>xs[i + m]?:=by
  funext m;have:((i:Int) + (m:Int) * 1).toNat=i + m:=by lia
  rw[this]
 rw[e];have:=pick_run xs i k;rw[List.filterMap_map] at this;have e2:((λx=>xs[x]?) ∘ λx=>i + x)=λm=>xs[i + m]?:=rfl
 rw[e2] at this;rw[this]
theorem gA {t sl:Addr} {items:Array Value} {vl vu:Value} {lo hi:Option Int} {Q:Value->Shared->Prop} (ht:IsTup s.heap t items) (hs:s.heap.IsSliceOf sl vl vu .none) (pl:IsPart vl lo) (pu:IsPart vu hi)
  (hw:¬(bF items.size 0 lo=0/\bF items.size items.size hi=items.size))
  (h:Q (.ref s.heap.objs.size) {s with heap:=s.heap.push {cls:= .type "tuple",data:= .seq ((items.toList.drop (bF items.size 0 lo)).take (bF items.size items.size hi - bF items.size 0 lo)).toArray}})
  (fU:items.size<=sizeLine):wpAny (model prog w) A (getItem (.ref t) (.ref sl)) Q E s:=by
 have rA:sizeOk (.seq ((items.toList.drop (bF items.size 0 lo)).take (bF items.size items.size hi - bF items.size 0 lo)).toArray):=by
  show ((items.toList.drop (bF items.size 0 lo)).take (bF items.size items.size hi - bF items.size 0 lo)).toArray.size<=sizeLine;rw[Px,List.length_take,List.length_drop,P3]
  lia
 have hj:bF items.size items.size hi<=items.size:=DM _ _ (PF _) hi;obtain⟨os,Cz,uy,FW⟩:=id hs;have JR:s.TypeIs (.ref sl) "slice":=⟨os,Cz,uy⟩;unfold getItem
 try with_reducible refine wpAny_holding ?_
 first | refine Pr (Pv ?_) | skip
 refine Pr (wpAny_sequenceKey ht.typeIs (by decide) ?_);refine Pr (wpAny_callSpecial?_slot (name:=Str.ofString "__getitem__") ht.typeIs PyProof.Rows.slot_tuple_getitem
  (wpAny_call_entry PyProof.Rows.slot_tuple_getitem ht.typeIs entry_tuple_getitem ?_ (args_tuple_getitem _ _)))
 show wpAny _ _ (Builtin.Tuple.tupleItemsOf (.ref t) >>=_) _ _ s;refine Pr (tupleItemsOf_ ht ?_);refine Pr (wpAny_typeOf JR ?_);rw[if_pos (by decide)];refine Pr (dW hs pl pu ?_);have N6:¬((((bF items.size 0 lo:Nat):Int)==0&&(1:Int)==1&&(bF items.size items.size hi - bF items.size 0 lo)==items.size)=true):=by intro q;rw[Pw,Pw] at q;have q1:((bF items.size 0 lo:Nat):Int)=0:=P6 q.1.1;have q2:bF items.size items.size hi - bF items.size 0 lo=items.size:=P6 q.2;exact hw ⟨by lia,by lia⟩
 show wpAny _ _ (if (((bF items.size 0 lo:Nat):Int)==0&&(1:Int)==1&&(bF items.size items.size hi - bF items.size 0 lo)==items.size)=true then _ else _) _ _ s;rw[if_neg N6,wW]
 first
  | exact Pr (m:=Builtin.Tuple.tupleExact _) (wpAny_newObj_type (Pv ⟨_,rfl,Pv h⟩) rA)
  | exact Pr (m:=Builtin.Tuple.tupleExact _) (wpAny_newObj_type (Pr (Pv (Pv ⟨_,rfl,Pv h⟩))) rA)
  | exact Pr (Pr (m:=Builtin.Tuple.tupleExact _) (wpAny_newObj_type (Pv (Pv ⟨_,rfl,Pv h⟩)) rA))
  | exact Pr (Pr (m:=Builtin.Tuple.tupleExact _) (wpAny_newObj_type (Pv ⟨_,rfl,Pv h⟩) rA))
end
end HT
namespace L2
open PySem PySem.Spec PyProof.Rows
noncomputable abbrev TO:=St->Hp->(Option Int->Hp->Prop)->Prop
noncomputable def PO (X:Cx) (e:Option Expr) (t:TO):Prop:=
 ∀(pins:List (Addr×Obj)) (s:Shared) (σ:St) (H:Hp) (Q:Option Int->Hp->Prop),Inv X pins σ H s->t σ H Q->
  wpAny (model X.prog X.w) X.A (evalPart e X.env) (λu s'=>∃o H',Inv X pins σ H' s'/\IsPart u o/\Q o H') X.xe s
noncomputable def AC:TO:=λ_ H Q=>Q none H
noncomputable def Hy (t:TE):TO:=λσ H Q=>t σ H λx H1=>∃i,x= .int i/\Q (some i) H1
theorem intsAre_of {ns:List Int}:∀{us:List Value},au (ns.map V.int) us->IntsAre us ns:=by
 induction ns with
 | nil=>intro us r;rw[List.map_nil] at r;cases r;exact .nil
 | cons n ns ih=>
  intro us r;rw[Qr] at r;cases r with
  | cons r1 r2=>obtain⟨t,e⟩:=r1;subst e;exact .cons n t (ih r2)
section
variable {X:Cx} {e:Expr} {te:TE} {lo hi:Option Expr} {tl th:TO} {pos p2:Pos}
theorem sk:PO X none AC:=by intro pins s σ H Q I h;rw[evalPart_none];exact Pv ⟨none,H,I,.none,h⟩
theorem sr (h:PE X e te):PO X (some e) (Hy te):=by
 intro pins s σ H Q I hw;rw[evalPart_some];refine bH (h pins s σ H _ I hw) λu s1 ⟨x,H1,I1,r1,q1⟩=>?_
 obtain⟨i,rfl,q⟩:=q1;obtain⟨t,rfl⟩:=r1;exact⟨some i,H1,I1,.int i t,q⟩
noncomputable def Et (X:Cx) (r:V->Option Int->Option Int->Hp->VK->Prop):Prop:=
 ∀(pins:List (Addr×Obj)) (s:Shared) (σ:St) (H:Hp) (x:V) (v vl vu:Value) (lo hi:Option Int) (sl:Addr) (Q:VK),Inv X pins σ H s->RelV x v->s.heap.IsSliceOf sl vl vu .none->IsPart vl lo->IsPart vu hi->r x lo hi H Q->
  ∃T id,typeLookup (.type T) "__getitem__"=pure (some (.builtin id))/\s.TypeIs v T/\wpAny (model X.prog X.w) X.A (getItem v (.ref sl)) (EP X pins σ Q) X.xe s
noncomputable def OP (r:V->Option Int->Option Int->Hp->VK->Prop) (te:TE) (tl th:TO):TE:=λσ H Q=>te σ H λx H1=>tl σ H1 λl H2=>th σ H2 λu H3=>r x l u H3 Q
theorem oG {r:V->Option Int->Option Int->Hp->VK->Prop} (hr:Et X r) (he:PE X e te) (hl:PO X lo tl) (hu:PO X hi th):PE X (.Subscript e (.Slice lo hi none p2) pos) (OP r te tl th):=by
 intro pins s σ H Q I h;refine Subscript_ (bH (he pins s σ H _ I h) λv s1 ⟨x,H1,I1,r1,q1⟩=>?_);refine wpAny_Slice (bH (hl pins s1 σ H1 _ I1 q1) λvl s2 ⟨l,H2,I2,pl,q2⟩=>bH (hu pins s2 σ H2 _ I2 q2) λvu s3 ⟨u,H3,I3,pu,q3⟩=>?_);rw[evalPart_none];refine Pv ?_;have I4:Inv X pins σ H3 {s3 with heap:=s3.heap.push {cls:= .type "slice",data:= .fields #[vl,vu,.none]}}:=I3.kept (t':=s3.toks) λb ob q=>Pu _ q
 obtain⟨T,id,hT,ht,hg⟩:=hr pins {s3 with heap:=s3.heap.push {cls:= .type "slice",data:= .fields #[vl,vu,.none]}} σ H3 x v vl vu l u s3.heap.objs.size Q I4 r1 (Heap.IsSliceOf.new ..) pl pu q3;show wpAny (model X.prog X.w) X.A (subscriptTail e (.Slice lo hi none p2) v (.ref s3.heap.objs.size)) (EP X pins σ Q) X.xe {s3 with heap:=s3.heap.push {cls:= .type "slice",data:= .fields #[vl,vu,.none]}};exact tail_any (ops:=[.ref s3.heap.objs.size,v]) ht hT hg (by with_unfolding_all rfl)
noncomputable def kA (xs:List V) (lo hi:Option Int):List V:=(xs.drop (HT.bF xs.length 0 lo)).take (HT.bF xs.length xs.length hi - HT.bF xs.length 0 lo)
theorem iG (xs:List V) (lo hi:Option Int):(kA xs lo hi).length<=xs.length:=by
 unfold kA;rw[List.length_take,List.length_drop]
 lia
noncomputable def K3 (K:PySem.W.Frag):V->Option Int->Option Int->Hp->VK->Prop:=λx lo hi H Q=>∃a xs,x= .ref a/\d5 K H a xs/\
 ¬(HT.bF xs.length 0 lo=0/\HT.bF xs.length xs.length hi=xs.length)/\∀p,H p=none->Q (.ref p) (upd H p (.tup (kA xs lo hi)))
theorem DY:Et X (K3 X.K):=by
 intro pins s σ H x v vl vu lo hi sl Q I rx hs pl pu h;obtain⟨a,xs,rfl,hx,hw,q⟩:=h;cases rx;obtain⟨its,r,ht,hz⟩:=I.tuple hx;have hlen:its.toArray.size=xs.length:=by rw[Px];exact r.length.symm
 refine⟨"tuple",_,PyProof.Rows.slot_tuple_getitem.lookup,ht.typeIs,?_⟩;refine HT.gA ht hs pl pu (by rw[hlen];exact hw) ?_ (by rw[hlen];exact hz);rw[hlen];refine⟨.ref s.heap.objs.size,_,I.laid (t':=s.toks) (o:= .tup (kA xs lo hi)) (λb ob q=>Pu _ q) (PF _) ?_,rfl,q _ (I.hok.fresh (PF _))⟩;exact⟨PP (iG xs lo hi) hz,_,(r.drop (HT.bF xs.length 0 lo)).take (HT.bF xs.length xs.length hi - HT.bF xs.length 0 lo),kz.new _ _⟩
noncomputable def GZ (K:PySem.W.Frag):R2:=λx y H Q=>∃a b xs ys,x= .ref a/\y= .ref b/\d5 K H a xs/\d5 K H b ys/\xs≠[]/\xs.length + ys.length<=sizeLine/\
 (ys=[]->Q (.ref a) H)/\(ys≠[]->∀p,H p=none->Q (.ref p) (upd H p (.tup (xs++ys))))
theorem au.mK {xs:List V} {us:List Value} (r:au xs us):us=[]↔xs=[]:=by
 cases r with
 | nil=>simp
 | cons _ _=>simp
theorem jf:iE X (binaryOp .Add) (GZ X.K):=by intro pins s σ H x y v u Q I rx ry h;obtain⟨a,b,xs,ys,rfl,rfl,ha,hb,hx,hz,q1,q2⟩:=h;cases rx;cases ry;obtain⟨its,r1,p1,_⟩:=I.tuple ha;obtain⟨aI,r2,p2,_⟩:=I.tuple hb;refine HT.zc p1 p2 (λz=>hx (r1.mK.mp z)) (λz=>⟨.ref a,H,I,rfl,q1 (r2.mK.mp z)⟩) (λz=>?_) (by rw[<-r1.length,<-r2.length];exact hz);refine⟨.ref s.heap.objs.size,_,I.laid (t':=s.toks) (o:= .tup (xs++ys)) (λb ob q=>Pu _ q) (PF _) ?_,rfl,q2 (λw=>z (r2.mK.mpr w)) _ (I.hok.fresh (PF _))⟩;exact⟨by rw[PY];exact hz,_,r1.append r2,kz.new _ _⟩
end
end L2
namespace L2
open PySem PySem.Spec PyProof.Rows
noncomputable def mF (n:Nat) (i:Int):Option Nat:=if 0<=i then(if i < n then some i.toNat else none) else if -(n:Int)<=i then some (i + n).toNat else none
noncomputable def km {α:Type} (xs:List α) (i:Int):Option α:=(mF xs.length i).bind λj=>xs[j]?
theorem rG {n:Nat} {i:Int} {j:Nat} (h:mF n i=some j):seqIndex? i n=some j/\j < n/\ -(n:Int)<=i/\i < n:=by
 unfold mF at h;by_cases h0:0<=i
 ·rw[if_pos h0] at h;by_cases h1:i < n
  ·rw[if_pos h1] at h;have e:i.toNat=j:=Option.some.inj h;exact⟨by rw[seqIndex_of h0 h1,e],by lia,by lia,h1⟩
  ·rw[if_neg h1] at h;cases h
 ·rw[if_neg h0] at h;by_cases h1: -(n:Int)<=i
  ·rw[if_pos h1] at h;have e:(i + n).toNat=j:=Option.some.inj h;exact⟨by rw[seqIndex_neg (by lia) h1,e],by lia,h1,by lia⟩
  ·rw[if_neg h1] at h;cases h
theorem lQ {α:Type} {xs:List α} {i:Int} {v:α} (h:km xs i=some v):∃j,seqIndex? i xs.length=some j/\xs[j]?=some v/\j < xs.length/\ -(xs.length:Int)<=i/\i < xs.length:=by
 unfold km at h;cases e:mF xs.length i with
 | none=>rw[e] at h;cases h
 | some j=>rw[e] at h;obtain⟨h1,h2,h3,h4⟩:=rG e;exact⟨j,h1,h,h2,h3,h4⟩
theorem iZ {α:Type} {xs:List α} {j:Nat} {v:α} (h:xs[j]?=some v):km xs (j:Int)=some v:=by
 have hj:j < xs.length:=(Pz.mp h).1;have e:mF xs.length (j:Int)=some j:=by unfold mF;rw[if_pos (by lia),if_pos (by lia)];simp
 unfold km;rw[e];exact h
theorem nL {α:Type} (xs:List α) (v:α):km (xs++[v]) (-1)=some v:=by
 have hl:(xs++[v]).length=xs.length + 1:=by simp
 have e:mF (xs++[v]).length (-1)=some xs.length:=by
  unfold mF;rw[hl,if_neg (by decide),if_pos (by lia)];congr 1
  lia
 unfold km;rw[e];show (xs++[v])[xs.length]?=some v;simp
noncomputable def lM (b:Expr):Prop:=∀o i,subscripted b false o i=operate [o,i] (getItem o i)
noncomputable def EW (X:Cx) (r:R2):Prop:=
 ∀(value slice:Expr) (pins:List (Addr×Obj)) (s:Shared) (σ:St) (H:Hp) (x y:V) (v u:Value) (Q:VK),Inv X pins σ H s->RelV x v->RelV y u->r x y H Q->
  subscripted slice false v u=operate [v,u] (getItem v u)->wpAny (model X.prog X.w) X.A (subscriptTail value slice v u) (EP X pins σ Q) X.xe s
noncomputable def Lz (X:Cx) (id:String) (r:V->List V->Hp->VK->Prop):Prop:=
 ∀(pins:List (Addr×Obj)) (s:Shared) (σ:St) (H:Hp) (x:V) (xs:List V) (v:Value) (us:List Value) (Q:VK),Inv X pins σ H s->RelV x v->au xs us->r x xs H Q->
  wpAny (model X.prog X.w) X.A (call (.builtin id) (v::us)) (EP X pins σ Q) X.xe s
section
variable {X:Cx} {a b:Expr} {ta tb:TE} {pos:Pos}
theorem GR {r:R2} (hr:EW X r) (ha:PE X a ta) (hb:PE X b tb) (hs:lM b):PE X (.Subscript a b pos) (IJ r ta tb):=by intro pins s σ H Q I h;exact Subscript_ (BU ha hb I h λv u s2 x y H2 I2 rx ry q=>hr a b pins s2 σ H2 x y v u Q I2 rx ry q (hs _ _))
noncomputable def KR (K:PySem.W.Frag):R2:=λx y H Q=>∃p xs i v,x= .ref p/\y= .int i/\cM K H p xs/\km xs i=some v/\Q v H
noncomputable def KU (K:PySem.W.Frag):R2:=λx y H Q=>∃p xs i v,x= .ref p/\y= .int i/\d5 K H p xs/\km xs i=some v/\Q v H
noncomputable def KS:R2:=λx y H Q=>∃z i c,x= .str z/\y= .int i/\z.length<=sizeLine/\km z.cps.toList i=some c/\Q (.str ⟨#[c]⟩) H
theorem rJ:EW X (KR X.K):=by
 intro value slice pins s σ H x y v u Q I rx ry h hs;obtain⟨p,xs,i,z,rfl,rfl,hq,he,q⟩:=h;cases rx;obtain⟨t,rfl⟩:=ry;obtain⟨its,r,pl,hz⟩:=I.list hq;obtain⟨j,h1,h2,h3,h4,h5⟩:=lQ he;obtain⟨w,ew,K8⟩:=r.get h2;have hl:=r.length;have hn:=hZ;have fin:EP X pins σ Q w s:=⟨z,H,I,K8,q⟩;by_cases h0:0<=i
 ·have hj:i.toNat=j:=by rw[seqIndex_of h0 h5] at h1;exact Option.some.inj h1
  exact item_listR pl.isList h0 (by lia) (by rw[hj];simpa using ew) fin hs
 ·have hj:(i + (its.toArray.size:Int)).toNat=j:=by rw[seqIndex_neg (by lia) h4] at h1;rw[Px,<-hl];exact Option.some.inj h1
  exact subscriptTail_builtinR (x:=w) pl.isList.typeIs slot_list_getitem.lookup
   (wpAny_getItem_list_neg (Q:=λr s'=>r=w/\EP X pins σ Q r s') pl.isList (by lia) (by rw[Px] <;> lia) (by lia) (by rw[hj];simpa using ew) ⟨rfl,fin⟩) hs
theorem CL:EW X (KU X.K):=by
 intro value slice pins s σ H x y v u Q I rx ry h hs;obtain⟨p,xs,i,z,rfl,rfl,hq,he,q⟩:=h;cases rx;obtain⟨t,rfl⟩:=ry;obtain⟨its,r,pl,hz⟩:=I.tuple hq;obtain⟨j,h1,h2,h3,h4,h5⟩:=lQ he;obtain⟨w,ew,K8⟩:=r.get h2;have hl:=r.length;have hn:=hZ;have fin:EP X pins σ Q w s:=⟨z,H,I,K8,q⟩;exact subscriptTail_builtinR (x:=w) pl.typeIs slot_tuple_getitem.lookup
  (getItem_tuple (j:=j) (Q:=λr s'=>r=w/\EP X pins σ Q r s') pl (by lia) (by lia) (by rw[Px,<-hl];exact h1) (by simpa using ew) ⟨rfl,fin⟩) hs
theorem CK:EW X KS:=by
 intro value slice pins s σ H x y v u Q I rx ry h hs;obtain⟨z,i,c,rfl,rfl,hz,he,q⟩:=h;obtain⟨t,rfl⟩:=rx;obtain⟨t',rfl⟩:=ry;obtain⟨j,h1,h2,h3,h4,h5⟩:=lQ he;have hl:z.cps.toList.length=z.length:=by simp[Str.length]
 rw[hl] at h1 h4 h5;have hn:=hZ;exact tail_any (typeIs_str s z t) slot_str_getitem.lookup (getItem_str (c:=c) (by
  have e1:decide (i < -(2 ^ 63:Int))=false:=P8 (by lia);have e2:decide (i>=2 ^ 63)=false:=P8 (by lia);rw[e1,e2,Bool.or_false]) (by rw[h1];simpa using h2) ⟨.str ⟨#[c]⟩,H,I.tok _,⟨_,rfl⟩,q⟩) hs
theorem qa (its:List Value) (n j:Nat) (u:Value):Obj.mapSeq (·.setIfInBounds j u) {cls:= .type "list",data:= .seq its.toArray n}={cls:= .type "list",data:= .seq (its.set j u).toArray n}:=by simp[Obj.mapSeq]
theorem Inv.lst {pins:List (Addr×Obj)} {σ:St} {H:Hp} {s:Shared} {p:Addr} {xs:List V} (I:Inv X pins σ H s) (h:H p=some (.lst xs)):
  ∃(its:List Value) (n:Nat),au xs its/\s.heap.get? p=some {cls:= .type "list",data:= .seq its.toArray n}/\xs.length<=sizeLine:=by
 obtain⟨z,its,n,r,e⟩:=I.hok p _ h;exact⟨its,n,r,e,z⟩
theorem Inv.CZ {pins:List (Addr×Obj)} {σ:St} {H:Hp} {s:Shared} {p:Addr} {xs ys:List V} {its its':List Value} {n n':Nat} {f:Obj->Obj} (I:Inv X pins σ H s) (h:H p=some (.lst xs))
  (ho:s.heap.get? p=some {cls:= .type "list",data:= .seq its.toArray n}) (hf:f {cls:= .type "list",data:= .seq its.toArray n}={cls:= .type "list",data:= .seq its'.toArray n'}) (r:au ys its') (hz:ys.length<=sizeLine) (t:Nat):
  Inv X pins σ (upd H p (.lst ys)) {s with heap:=s.heap.update p f,toks:=t}:=by
 have e:(s.heap.update p f).get? p=some {cls:= .type "list",data:= .seq its'.toArray n'}:=by rw[Heap.get?_update_self f ho (by rw[hf] <;> rfl),hf]
 refine I.write (x:=p) (e:=p) (by rw[h];trivial) (.inl rfl) (λb u hb q=>(Qb _ _ (Ne.symm hb)).trans q) ⟨_,e⟩ ?_;exact⟨hz,its',n',r,e⟩
noncomputable def Bp:V->V->V->Hp->(Hp->Prop)->Prop:=λo i v H Q=>∃p xs k j,o= .ref p/\i= .int k/\H p=some (.lst xs)/\mF xs.length k=some j/\Q (upd H p (.lst (xs.set j v)))
theorem set_list:E4 X Bp:=by
 intro pins s σ H o i v ov iv u Q I ro ri rv h;obtain⟨p,xs,k,j,rfl,rfl,hp,hj,q⟩:=h;cases ro;obtain⟨t,rfl⟩:=ri;obtain⟨its,n,r,ho,hz⟩:=I.lst hp;obtain⟨h1,h2,h3,h4⟩:=rG hj;have hl:=r.length;have hn:=hZ;have I':Inv X pins σ (upd H p (.lst (xs.set j v))) {s with heap:=s.heap.update p (Obj.mapSeq (·.setIfInBounds j u))}:=
  I.CZ hp ho (qa its n j u) (r.set rv j) (by rw[List.length_set];exact hz) s.toks
 by_cases h0:0<=k
 ·have hk:k.toNat=j:=by rw[seqIndex_of h0 h4] at h1;exact Option.some.inj h1
  exact PySem.W.ki_setAt ho h0 (by lia) (by rw[Px,<-hl];exact h4) (by rw[hk];exact⟨_,I',q⟩)
 ·have hk:(k + (its.toArray.size:Int)).toNat=j:=by rw[seqIndex_neg (by lia) h3] at h1;rw[Px,<-hl];exact Option.some.inj h1
  exact PySem.W.ki_setBack ho (by lia) (by rw[Px,<-hl];exact h3) (by lia) (by rw[hk];exact⟨_,I',q⟩)
theorem mX (lo hi:Option Int) (n:Nat):(sliceBounds lo hi none n).1=((HT.bF n 0 lo:Nat):Int)/\(sliceBounds lo hi none n).2.1=((HT.bF n n hi:Nat):Int)/\(sliceBounds lo hi none n).2.2=1:=by
 refine⟨?_,?_,rfl⟩
 ·cases lo with
  | none=>simp[sliceBounds,HT.bF]
  | some i=>
   simp only[sliceBounds,HT.bF,Option.getD_none,show (1:Int) > 0 by decide,if_true];by_cases h:i < 0
   ·simp only[h,if_true] <;> lia
   ·simp only[h,if_false] <;> lia
 ·cases hi with
  | none=>simp[sliceBounds,HT.bF]
  | some i=>
   simp only[sliceBounds,HT.bF,Option.getD_none,show (1:Int) > 0 by decide,if_true];by_cases h:i < 0
   ·simp only[h,if_true] <;> lia
   ·simp only[h,if_false] <;> lia
theorem kI (its:List Value) (lo hi:Option Int):slicePick its.toArray lo hi none=((its.drop (HT.bF its.length 0 lo)).take (HT.bF its.length its.length hi - HT.bF its.length 0 lo)).toArray:=by obtain⟨h1,h2,h3⟩:=mX lo hi its.toArray.size;unfold slicePick;rw[h1,h2,h3];simp only[sliceRange_one,pick_run,Px] <;> rfl
noncomputable def K1 (K:PySem.W.Frag):V->Option Int->Option Int->Hp->VK->Prop:=λx lo hi H Q=>∃a xs,x= .ref a/\cM K H a xs/\∀p,H p=none->Q (.ref p) (upd H p (.lst (kA xs lo hi)))
theorem sJ:Et X (K1 X.K):=by intro pins s σ H x v vl vu lo hi sl Q I rx hs pl pu h;obtain⟨a,xs,rfl,hx,q⟩:=h;cases rx;obtain⟨its,r,ht,hz⟩:=I.list hx;have hlen:=r.length;refine⟨"list",_,slot_list_getitem.lookup,ht.isList.typeIs,?_⟩;refine wpAny_getItem_list_slice ht.isList hs pl pu .none (by simp) ?_ (by rw[Px] <;> lia);rw[kI,<-hlen];refine⟨.ref s.heap.objs.size,_,I.laid (t':=s.toks) (o:= .lst (kA xs lo hi)) (λb ob q=>Pu _ q) (PF _) ?_,rfl,q _ (I.hok.fresh (PF _))⟩;exact⟨PP (iG xs lo hi) hz,_,0,(r.drop (HT.bF xs.length 0 lo)).take (HT.bF xs.length xs.length hi - HT.bF xs.length 0 lo),PJ _ rfl⟩
noncomputable def kW:V->V->Bool
 | .aP,.aP=>true
 | .bl a,.bl b=>a==b
 | .bl a,.int b=>(if a then 1 else 0)==b
 | .int a,.bl b=>a==(if b then 1 else 0)
 | .int a,.int b=>a==b
 | .str a,.str b=>a==b
 | _,_=>false
theorem d7:ck X (.type "list") (λxs H Q=>∃p ys,xs=[.ref p]/\(cM X.K H p ys\/d5 X.K H p ys)/\∀l,H l=none->Q (.ref l) (upd H l (.lst ys))):=by
 intro pins s σ H xs us Q I r h;obtain⟨p,ys,rfl,hq,q⟩:=h;obtain⟨u,rfl,rx⟩:=vals1 r;cases rx;have fin:∀(its:List Value),au ys its->ys.length<=sizeLine->∀(h':Heap) (c':Nat),(∀b o',s.heap.get? b=some o'->h'.get? b=some o')->
   h'.get? s.heap.objs.size=some {cls:= .type "list",dict:=none,data:= .seq its.toArray c',slots:=#[]}->EP X pins σ Q (.ref s.heap.objs.size) {s with heap:=h'}:=λits r' hz h' c' kp e=>
  ⟨.ref s.heap.objs.size,_,I.laid (t':=s.toks) kp (PF _) (show bB X.prog X.w _ h' _ (.lst ys) from⟨hz,its,c',r',e⟩),rfl,q _ (I.hok.fresh (PF _))⟩
 rcases hq with hq | hq
 ·obtain⟨its,r',pl,hz⟩:=I.list hq;have hlen:=r'.length;obtain⟨o,ho,hc,n,hd⟩:=pl.isList;exact call_list_seq p (.inl rfl) ho hc hd (λh' c' kp e=>fin its r' hz h' c' kp e) (by simp only[Px] <;> lia)
 ·obtain⟨its,r',pl,hz⟩:=I.tuple hq;have hlen:=r'.length;obtain⟨o,ho,hc,n,hd⟩:=pl;exact call_list_seq p (.inr rfl) ho hc hd (λh' c' kp e=>fin its r' hz h' c' kp e) (by simp only[Px] <;> lia)
theorem fD:ck X (.type "tuple") (λxs H Q=>∃p ys,xs=[.ref p]/\((cM X.K H p ys/\∀l,H l=none->Q (.ref l) (upd H l (.tup ys)))\/(d5 X.K H p ys/\Q (.ref p) H))):=by
 intro pins s σ H xs us Q I r h;obtain⟨p,ys,rfl,h⟩:=h;obtain⟨u,rfl,rx⟩:=vals1 r;cases rx;rcases h with ⟨hq,q⟩ | ⟨hq,q⟩
 ·obtain⟨its,r',pl,hz⟩:=I.list hq;have hlen:=r'.length;refine call_tuple_list pl.isList (λh' kp=>?_) (by simp only[Px] <;> lia);have I1:Inv X pins σ H {s with heap:=h'}:=I.kept (t':=s.toks) kp;have I2:Inv X pins σ (upd H h'.objs.size (.tup ys)) {s with heap:=h'.push {cls:= .type "tuple",data:= .seq its.toArray}}:=
   I1.laid (t':=s.toks) (λb o e=>Pu _ e) (PF _) (show bB X.prog X.w _ _ _ (.tup ys) from⟨hz,its,r',kz.new _ _⟩)
  exact⟨.ref h'.objs.size,_,I2,rfl,q _ (I1.hok.fresh (PF _))⟩
 ·obtain⟨its,r',pl,hz⟩:=I.tuple hq;exact call_tuple_same pl ⟨.ref p,H,I,rfl,q⟩
noncomputable def Lu (K:PySem.W.Frag) (T:String) (x:V) (H:Hp):Prop:=match x with
 | .str _=>T="str"
 | .int _=>T="int"
 | .ref p=>(T="list"/\∃xs,cM K H p xs)\/(T="tuple"/\∃o,K.lookup p=some o/\o.cls= .type "tuple"/\o.dict=none)\/
   (T="dict"/\((∃cC,H p=some (.dK cC))\/∃cC,H p=some (.dT cC)))\/(T="set"/\∃S n,H p=some (.set S n))
 | _=>False
theorem xS {pins:List (Addr×Obj)} {σ:St} {H:Hp} {s:Shared} {T:String} {x:V} {v:Value} (I:Inv X pins σ H s) (r:RelV x v) (ty:Lu X.K T x H):
  s.TypeIs v T/\∀a,v= .ref a->∃ob,s.heap.get? a=some ob/\ob.dict=none:=by
 cases x with
 | str z=>obtain⟨t,rfl⟩:=r;cases (show T="str" from ty);exact⟨typeIs_str s z t,λ_ e=>nomatch e⟩
 | int i=>obtain⟨t,rfl⟩:=r;cases (show T="int" from ty);exact⟨typeIs_int s i t,λ_ e=>nomatch e⟩
 | ref p=>
  cases r;rcases ty with ⟨rfl,xs,hq⟩ | ⟨rfl,o,hk,hc,hd⟩ | ⟨rfl,hk⟩ | ⟨rfl,S,n,hk⟩
  ·obtain⟨its,_,pl,_⟩:=I.list hq;refine⟨pl.isList.typeIs,λa e=>?_⟩;cases e;obtain⟨o,n,e,c,hd,_⟩:=pl;exact⟨o,e,hd⟩
  ·refine⟨⟨o,I.jb p o hk,hc⟩,λa e=>?_⟩;cases e;exact⟨o,I.jb _ o hk,hd⟩
  ·have z:∃o,s.heap.get? p=some o/\o.ExactDict:=by
    rcases hk with ⟨cC,hk⟩ | ⟨cC,hk⟩
    ·obtain⟨_,_,_,_,o,_,_,e,ex,_⟩:=I.hok p _ hk;exact⟨o,e,ex⟩
    ·obtain⟨_,_,_,_,o,_,_,e,ex,_⟩:=I.hok p _ hk;exact⟨o,e,ex⟩
   obtain⟨o,e,ex⟩:=z;refine⟨⟨o,e,ex.1⟩,λa e2=>?_⟩;cases e2;exact⟨o,e,ex.2.1⟩
  ·obtain⟨o,_,_,_,e,ex,_⟩:=I.hok p _ hk;refine⟨⟨o,e,ex.1⟩,λa e2=>?_⟩;cases e2;exact⟨o,e,ex.2.1⟩
 | _=>exact False.elim ty
noncomputable def Hr (K:PySem.W.Frag) (T:String) (r:V->List V->Hp->VK->Prop) (to:TE):TE:=λσ H Q=>to σ H λx H1=>Lu K T x H1/\r x [] H1 Q
noncomputable def Lj (K:PySem.W.Frag) (T:String) (r:V->List V->Hp->VK->Prop) (to:TE) (t:TA):TE:=λσ H Q=>to σ H λx H1=>Lu K T x H1/\t σ H1 λxs H2=>r x xs H2 Q
variable {o e:Expr} {es:List Expr} {to:TE} {t:TA} {name:Str} {apos df:Pos} {T id:String} {r:V->List V->Hp->VK->Prop}
theorem Dq (pa:PlainAttrs T) (slot:Slot T name id) (Ke:typeOf (.builtin id)=pure (.type "method_descriptor")) (hm:Lz X id r) (ho:PE X o to)
  (nX:attributeBase o name X.env (eval o X.env)=eval o X.env:=by rfl) (v9:(apos.endLine==df.line)=true:=by rfl):PE X (.Call (.Attribute o name apos) [] [] df) (Hr X.K T r to):=by
 intro pins s σ H Q I h;refine wpAny_Call_method0_late nX v9 (bH (ho pins s σ H _ I h) λv s1 ⟨x,H1,I1,r1,ty,q1⟩=>?_);obtain⟨h1,h2⟩:=xS I1 r1 ty;exact⟨T,id,pa,slot,Ke,h1,h2,Calls.callWith_builtin rfl (PySem.evalArgs_none (hm pins s1 σ H1 x [] v [] Q I1 r1 .nil q1))⟩
theorem Bk (pa:PlainAttrs T) (slot:Slot T name id) (Ke:typeOf (.builtin id)=pure (.type "method_descriptor")) (hm:Lz X id r) (ho:PE X o to) (ha:PA X (e::es) t)
  (nX:attributeBase o name X.env (eval o X.env)=eval o X.env:=by rfl)
  (JZ:((backTo df (starEach (e::es) X.env)).all (λx=> !x.1)&&(backToKw df (keywordEach [] X.env)).all (λx=>x.1.isSome)
   &&decide ((e::es).length + ([]:List Keyword).length + (if ([]:List Keyword).isEmpty then 0 else 1) < 30))=true:=by rfl)
  (v9:(apos.endLine==df.line)=true:=by rfl) (hs:starEach (e::es) X.env=(false,eval e X.env)::starEach es X.env:=by rfl) (CB:(backTo df (starEach es X.env)).any (·.1)=false:=by rfl):
  PE X (.Call (.Attribute o name apos) (e::es) [] df) (Lj X.K T r to t):=by
 intro pins s σ H Q I h;refine wpAny_Call_method_late nX JZ v9 rfl (bH (ho pins s σ H _ I h) λv s1 ⟨x,H1,I1,r1,ty,q1⟩=>?_);obtain⟨h1,h2⟩:=xS I1 r1 ty;refine⟨T,id,pa,slot,Ke,h1,h2,?_⟩;have hA:=ha df pins s1 σ H1 _ I1 q1;rw[hs] at hA ⊢;refine Calls.callWith_builtin (by show (false||(backTo df (starEach es X.env)).any (·.1))=false;rw[CB] <;> rfl) (Calls.evalArgs_plain ?_);exact bH hA λus s2 ⟨vs,H2,I2,r2,q2⟩=>hm pins s2 σ H2 x vs v us Q I2 r1 r2 q2
end
end L2
namespace L2
open PySem PySem.Spec PyProof.Rows
noncomputable def EX (X:Cx) (id:String) (r:V->List V->Hp->VK->Prop):Prop:=
 ∀(pins:List (Addr×Obj)) (s:Shared) (σ:St) (H:Hp) (x:V) (xs:List V) (v:Value) (us:List Value) (Q:VK),Inv X pins σ H s->RelV x v->au xs us->r x xs H Q->
  wpAny (model X.prog X.w) X.A (call (.builtin id) (v::us)) (EP X pins σ Q) X.xe s
theorem au.cons_inv {x:V} {xs:List V} {us:List Value} (h:au (x::xs) us):∃u ut,us=u::ut/\RelV x u/\au xs ut:=by
 cases h with
 | cons r t=>exact⟨_,_,rfl,r,t⟩
theorem au.one {x:V} {us:List Value} (h:au [x] us):∃u,us=[u]/\RelV x u:=
 have ⟨u,ut,e,r,t⟩:=h.cons_inv
 ⟨u,by cases t;exact e,r⟩
theorem au.two {x y:V} {us:List Value} (h:au [x,y] us):∃u v,us=[u,v]/\RelV x u/\RelV y v:=
 have ⟨u,ut,e,r,t⟩:=h.cons_inv;have ⟨v,e2,q⟩:=t.one
 ⟨u,v,e2▸e,r,q⟩
theorem au.zero:∀{us:List Value},au [] us->us=[]
 | _,.nil=>rfl
theorem au.dropLast {xs:List V} {us:List Value} (h:au xs us):au xs.dropLast us.dropLast:=by
 induction h with
 | nil=>exact .nil
 | cons r t ih=>
  cases t with
  | nil=>exact .nil
  | cons q t'=>exact .cons r ih
theorem au.rep {xs:List V} {us:List Value} (h:au xs us):∀k:Nat,au (List.replicate k xs).flatten (List.replicate k us).flatten
 | 0=> .nil
 | k + 1=>by rw[List.replicate_succ,List.replicate_succ,List.flatten_cons,List.flatten_cons];exact au.append h (au.rep h k)
theorem pM {α:Type} (l:List α):l.eraseIdx (l.length - 1)=l.dropLast:=by
 induction l with
 | nil=>rfl
 | cons a r ih=>
  cases r with
  | nil=>rfl
  | cons b r=>
   have e:(a::b::r).length - 1=((b::r).length - 1) + 1:=by
    have h1:(a::b::r).length=r.length + 2:=rfl;have h2:(b::r).length=r.length + 1:=rfl
    lia
   rw[e,List.eraseIdx_cons_succ,ih]
   all_goals rfl
theorem foldl_rep (its:List Value):∀(k:Nat) (acc:List Value),
  List.foldl (λx1 x2=>x1++x2) acc.toArray (List.replicate k its.toArray)=(acc++(List.replicate k its).flatten).toArray
 | 0,acc=>by simp
 | k + 1,acc=>by
  have e:acc.toArray++its.toArray=(acc++its).toArray:=by simp
  have e2:(acc++its)++(List.replicate k its).flatten=acc++(List.replicate (k + 1) its).flatten:=by rw[List.replicate_succ,List.flatten_cons,PV]
  rw[<-e2,<-foldl_rep its k (acc++its),<-e,List.replicate_succ,List.foldl_cons]
section
variable {X:Cx} {pins:List (Addr×Obj)} {σ:St} {H:Hp} {s:Shared} {l b:Addr} {xs ys zs:List V}
theorem Inv.wB {its its':List Value} {n:Nat} {f:Array Value->Array Value} {t':Nat} (I:Inv X pins σ H s) (hH:H l=some (.lst xs))
  (e:s.heap.get? l=some {cls:= .type "list",data:= .seq its.toArray n}) (hf:f its.toArray=its'.toArray) (hv:au ys its') (hz:ys.length<=sizeLine):
  Inv X pins σ (upd H l (.lst ys)) {s with heap:=s.heap.update l (Obj.mapSeq f),toks:=t'}:=by
 have q:=PySem.IsL.update e f;rw[hf] at q;refine I.write (x:=l) (e:=l) (by rw[hH];exact trivial) (.inl rfl) (λb' u hb hu=>(Qb s.heap (Obj.mapSeq f) (Ne.symm hb)).trans hu) ⟨_,q⟩ ?_;exact⟨hz,its',_,hv,q⟩
theorem Inv.CW {its:List Value} {t':Nat} (I:Inv X pins σ H s) (hv:au ys its) (hz:ys.length<=sizeLine):
  Inv X pins σ (upd H s.heap.objs.size (.lst ys)) {s with heap:=s.heap.push {cls:= .type "list",data:= .seq its.toArray},toks:=t'}:=
 I.laid (λ_ _ q=>Pu _ q) (PF _) ⟨hz,its,0,hv,PJ _ rfl⟩
theorem Inv.fresh (I:Inv X pins σ H s):H s.heap.objs.size=none:=I.hok.fresh (PF _)
theorem Inv.mI (I:Inv X pins σ H s) (hH:H l=some (.lst xs)):xs.length<=sizeLine/\∃(its:List Value) (n:Nat),au xs its/\xs.length=its.length/\s.heap.get? l=some {cls:= .type "list",data:= .seq its.toArray n}:=by obtain⟨z,its,n,r,e⟩:=I.hok l _ hH;exact⟨z,its,n,r,r.length,e⟩
theorem jV {n:Nat} (h:n<=sizeLine):Builtin.List.listTooLong n=false:=by unfold Builtin.List.listTooLong;exact P8 (by lia)
end
section
variable {X:Cx}
noncomputable def sF:V->List V->Hp->VK->Prop:=λx vs H Q=>∃l xs y,x= .ref l/\vs=[y]/\H l=some (.lst xs)/\xs.length < sizeLine/\Q .aP (upd H l (.lst (xs++[y])))
theorem lp:EX X "list.append" sF:=by
 intro pins s σ H x vs v us Q I rx rv h;obtain⟨l,xs,y,rfl,rfl,hH,hz,q⟩:=h;cases rx;obtain⟨u,rfl,ru⟩:=rv.one;obtain⟨z,its,n,r,hl,e⟩:=I.mI hH;refine call_meets F.slot_list_append ⟨_,e,rfl⟩ F.entry_list_append (F.args_list_append_2 _ _) (PySem.list_append l its.toArray n u (by rw[Px];lia)) ⟨e,?_⟩;refine⟨.aP,_,I.wB (its':=its++[u]) hH e (by simp) (r.append (.cons ru .nil)) ?_,rfl,q⟩;rw[PY,List.length_singleton]
 lia
noncomputable def As:V->List V->Hp->VK->Prop:=λx vs H Q=>∃l b xs zs,x= .ref l/\vs=[.ref b]/\H l=some (.lst xs)/\H b=some (.lst zs)/\xs.length + zs.length<=sizeLine/\Q .aP (upd H l (.lst (xs++zs)))
theorem tW:EX X "list.extend" As:=by
 intro pins s σ H x vs v us Q I rx rv h;obtain⟨l,b,xs,zs,rfl,rfl,hH,hB,hz,q⟩:=h;cases rx;obtain⟨u,rfl,ru⟩:=rv.one;cases ru;obtain⟨z,its,n,r,hl,e⟩:=I.mI hH;obtain⟨z2,aI,n2,r2,d9,e2⟩:=I.mI hB;have fU:its.toArray.size + aI.toArray.size<=sizeLine:=by rw[Px,Px];lia
 have wb:¬(!its.toArray.isEmpty&&Builtin.List.listTooLong (its.toArray.size + aI.toArray.size))=true:=by rw[jV fU,Bool.and_false];exact Bool.false_ne_true
 refine call_meets F.slot_list_extend ⟨_,e,rfl⟩ F.entry_list_extend (F.args_list_extend_2 _ _)
  (AutoSeq1.list_extend_list_list_0 l its.toArray n b aI.toArray n2 wb (by rw[Px];lia) (by lia)) ⟨e,e2,?_⟩
 refine⟨.aP,_,I.wB (its':=its++aI) hH e (by simp) (r.append r2) ?_,rfl,q⟩;rw[PY]
 lia
noncomputable def KZ:V->List V->Hp->VK->Prop:=λx vs H Q=>∃l xs y,x= .ref l/\vs=[]/\H l=some (.lst xs)/\xs[xs.length - 1]?=some y/\Q y (upd H l (.lst xs.dropLast))
theorem Kz:EX X "list.pop" KZ:=by
 intro pins s σ H x vs v us Q I rx rv h;obtain⟨l,xs,y,rfl,rfl,hH,hy,q⟩:=h;cases rx;have Ki:=rv.zero;subst Ki;obtain⟨z,its,n,r,hl,e⟩:=I.mI hH;obtain⟨u,hu,ru⟩:=r.get hy;have On:its.toArray[its.toArray.size - 1]?=some u:=by show its.toArray[its.length - 1]?=some u;rw[<-Array.getElem?_toList,<-hl];exact hu
 refine call_meets F.slot_list_pop ⟨_,e,rfl⟩ F.entry_list_pop (F.args_list_pop_1 _) (MeetsSeq.list_pop_last l its.toArray n u On (by rw[Px];lia)) ⟨e,?_⟩;refine⟨y,_,I.wB (its':=its.dropLast) hH e ?_ r.dropLast ?_,ru,q⟩
 ·show its.toArray.eraseIdxIfInBounds (its.toArray.size - 1)=its.dropLast.toArray;rw[Px,List.eraseIdxIfInBounds_toArray,pM]
 ·rw[List.length_dropLast]
  lia
noncomputable def xg:V->List V->Hp->VK->Prop:=λx vs H Q=>∃l xs,x= .ref l/\vs=[]/\H l=some (.lst xs)/\Q .aP (upd H l (.lst []))
theorem wC:EX X "list.clear" xg:=by intro pins s σ H x vs v us Q I rx rv h;obtain⟨l,xs,rfl,rfl,hH,q⟩:=h;cases rx;have Ki:=rv.zero;subst Ki;obtain⟨z,its,n,r,hl,e⟩:=I.mI hH;refine call_meets F.slot_list_clear ⟨_,e,rfl⟩ F.entry_list_clear (F.args_list_clear_1 _) (AutoSeq1.list_clear_list_0 l its.toArray n (by rw[Px];lia)) ⟨e,?_⟩;exact⟨.aP,_,I.wB (its':=[]) (ys:=[]) hH e rfl .nil (Nat.zero_le _),rfl,q⟩
noncomputable def KP:R2:=λx y H Q=>∃l b xs zs,x= .ref l/\y= .ref b/\H l=some (.lst xs)/\H b=some (.lst zs)/\xs.length + zs.length<=sizeLine/\∀p,H p=none->Q (.ref p) (upd H p (.lst (xs++zs)))
theorem wJ:iE X (binaryOp .Add) KP:=by
 intro pins s σ H x y v u Q I rx ry h;obtain⟨l,b,xs,zs,rfl,rfl,hH,hB,hz,q⟩:=h;cases rx;cases ry;obtain⟨z,its,n,r,hl,e⟩:=I.mI hH;obtain⟨z2,aI,n2,r2,d9,e2⟩:=I.mI hB;refine PySem.P.add_list e e2 ?_ (by rw[Px,Px];lia);have ea:its.toArray++aI.toArray=(its++aI).toArray:=by simp
 rw[ea];exact⟨.ref _,_,I.CW (t':=s.toks) (r.append r2) (by rw[PY];lia),rfl,q _ I.fresh⟩
noncomputable def K0:R2:=λx y H Q=>∃l k xs,x= .ref l/\y= .int k/\H l=some (.lst xs)/\ -(2 ^ 63)<=k/\k < 2 ^ 63/\xs.length * k.toNat<=sizeLine/\
 ∀p,H p=none->Q (.ref p) (upd H p (.lst (List.replicate k.toNat xs).flatten))
theorem len_rep {α:Type} (xs:List α) (k:Nat):(List.replicate k xs).flatten.length=k * xs.length:=by
 induction k with
 | zero=>simp
 | succ k ih=>rw[List.replicate_succ,List.flatten_cons,PY,ih,Nat.succ_mul,Nat.add_comm]
theorem Dl:iE X (binaryOp .Mult) K0:=by
 intro pins s σ H x y v u Q I rx ry h;obtain⟨l,k,xs,rfl,rfl,hH,h1,h2,hz,q⟩:=h;cases rx;obtain⟨t,rfl⟩:=ry;obtain⟨z,its,n,r,hl,e⟩:=I.mI hH;have hlen:its.toArray.size * k.toNat<=sizeLine:=by rw[Px,<-hl];exact hz
 have JW:¬its.toArray.size * k.toNat > (2 ^ 63 - 1) / 8:=by
  have:(sizeLine:Nat)<=(2 ^ 63 - 1) / 8:=by decide
  lia
 have J0:¬(!Builtin.List.listFitsIndex k)=true:=by rw[fitsIndex_both h1 h2];exact Bool.false_ne_true
 have wb:¬Builtin.List.listTooLong (its.toArray.size * k.toNat)=true:=by rw[jV hlen];exact Bool.false_ne_true
 have Ct:List.foldl (λx1 x2=>x1++x2) #[] (List.replicate (if its.toArray.isEmpty=true then 0 else k.toNat) its.toArray)=(List.replicate k.toNat its).flatten.toArray:=by
  have f0:∀m:Nat,List.foldl (λx1 x2=>x1++x2) #[] (List.replicate m its.toArray)=(List.replicate m its).flatten.toArray:=λm=>by have:=foldl_rep its m [];rw[List.nil_append] at this;exact this
  rw[f0];cases its with
  | nil=>simp
  | cons a r'=>rw[if_neg (by simp)]
 refine wpAny_binaryOp_repeat_ref (T:="list") (U:="int") (by decide) ⟨_,e,rfl⟩ (λs'=>typeIs_int s' k t) noFill_list_mul F.fills_int_mul F.slot_int_rmul repeat_list F.slot_int_index.lookup
  (call_meets F.slot_int_rmul (typeIs_int s k t) F.entry_int_rmul (F.args_int_rmul_2 _ _) (int___rmul___int_list k t l its.toArray n)
   ⟨e,rfl,⟨_,e,rfl⟩,call_meets F.slot_list_mul ⟨_,e,rfl⟩ F.entry_list_mul (F.args_list_mul_2 _ _) (AutoListH.list___mul___list_int_3 l its.toArray n k t J0 JW wb) ⟨e,?_⟩⟩)
 rw[Ct];exact⟨.ref _,_,I.CW (t':=s.toks) (r.rep k.toNat) (by rw[len_rep,Nat.mul_comm];exact hz),rfl,q _ I.fresh⟩
end
end L2
namespace Att
open PySem PySem.W PySem.Calls PyProof.Rows
theorem iS {P:Params} {h:Heap}:∀(ns:List Int) (vs:List Value),WellAll P h vs (ns.map WData.int)->IntsAre vs ns:=by
 intro ns
 induction ns with
 | nil=>intro vs w;rw[List.map_nil] at w;cases w;exact .nil
 | cons n ns ih=>
  intro vs w;rw[Qr] at w;cases w with
  | cons a b=>cases a;exact .cons _ _ (ih _ b)
theorem ug {l:OpenLaw} {n:Nat} (hn:l.most=some n) {P:Params} {h:Heap} {args:List WData} {vals:List Value}
  (zw:l.row.toRowW.claim.pre args=true) (Kk:WellAll P h vals args):
  ∃a vs ns,vals=[Value.ref a]/\args=[WData.list (ns.map WData.int)]/\h.get? a=some {cls:= .type "list",data:= .seq vs.toArray}/\IntsAre vs ns/\ns.length<=n:=by
 have Od:WShape.hasAll [] args [.list .int]=true:=(pre_splitW zw).1;have hc:l.pre.holds [] {args:=args}=true:=(pre_splitW zw).2;obtain⟨d,r,rfl,h1,h2⟩:=hasAllW_cons Od;obtain rfl:=hasAllW_nil h2;obtain⟨xs,rfl,h3⟩:=hasW_list h1;obtain⟨ns,rfl⟩:=items_int h3;have hlen:ns.length<=n:=by
  unfold OpenLaw.pre at hc;have h4:(WTm.not (.lt (.lit (.int (n:Int))) (.len (.arg 0)))).holds [] {args:=[.list (ns.map .int)]}=true:=by have h4:=(holds_andW hc).1;rw[hn] at h4;exact h4
  have h5:=condW_of h4 (w_not (w_lt w_lit (w_len_list (w_arg rfl))));rw[PL] at h5;refine Nat.le_of_not_lt λq=>?_
  have q':(n:Int) < ((ns.length:Nat):Int):=by lia
  first
   | (rw[Qc q'] at h5;exact absurd h5 (by decide))
   | (simp at h5;lia)
 cases Kk with
 | cons w1 w2=>
  cases w2;cases w1 with
  | list ho Cn=>exact⟨_,_,ns,rfl,rfl,ho,iS ns _ Cn,hlen⟩
theorem t9 (l:OpenLaw) (args:List WData):l.row.toRowW.claim.post args (.bool true) args=true:=
 postW_of (r:=l.row.toRowW) (X:=(true==true))
  (show WShape.has [] (.bool true) .bool=true by first | rfl | decide | simp[WShape.has,WShape.arms,WShape.armsAll])
  (show (WTm.eq .res (.lit (.bool true))).value [] {args:=args,res:=some (.bool true),after:=args}=some (.bool (true==true)) from w_eq_bool (w_res rfl) w_lit) rfl
theorem nM {l:OpenLaw} {n:Nat} {q:Program} {loose:List Str} {XP:(Str->Option Value)->Heap->Prop} {YP:World->Heap->Prop} {d:DefRec}
  (hn:l.most=some n) (FU:d.params.defaults=[])
  (call:∀(w:World) (s₀ s₁:Shared) (mg mb:Str->Option Value) (fa:Addr) (o:Obj) (pm cd doc:Value) (a:Addr) (vs:List Value) (ns:List Int),
   Ground q loose [] XP w s₀ mg mb s₁.heap->YP w s₁.heap->
   s₁.heap.get? fa=some o->o.data= .func (docDef d.name d.params d.body d.scope pm cd doc)->s₁.heap.CodeRec cd d.name->mg d.name=some (.ref fa)->
   s₁.heap.get? a=some {cls:= .type "list",data:= .seq vs.toArray}->IntsAre vs ns->ns.length<=n->s₁.gens=#[]->
   codeAny (model l.prog w) callerA (.call (.ref fa) ⟨[.ref a],[]⟩) (λr s'=>r= .ok (.ret (.bool true))/\OldK s₁.heap s'.heap/\s'.os=s₁.os/\AllBare s'.gens) s₁):
  WalkO q loose XP YP l.row.toRowW d [] (λf vs=>PySem.call f vs):=by
 intro w s₀ s₁ mg mb G Y fa o pm cd doc dV kV ho hd ux hD hmg hg args vals as zw hlay hrd Kk mC;obtain rfl:dV= .none:=Dflts.none hD FU;obtain rfl:kV= .none:=Dflts.noKw hD;obtain⟨a,vs,ns,rfl,rfl,Cv,hints,hlen⟩:=ug hn zw Kk;refine enter_call (codeAny_mono (call w s₀ s₁ mg mb fa o pm cd doc a vs ns G Y ho (fd_plain hd) ux hmg Cv hints hlen hg) λr s' hq=>?_);obtain⟨rfl,h2,h3,h4⟩:=hq;exact⟨.inl ⟨.bool true,.bool true,[],rfl,λ_=>rfl,.bool true,t9 l _,λ_=>⟨List.Pairwise.nil,λ_ hm=>(nomatch hm)⟩⟩,h2,h3,h4⟩
end Att
namespace L2
open PySem PySem.Spec PyProof.Rows
theorem lH:∀{vs:List Value} {ns:List Int},IntsAre vs ns->au (ns.map V.int) vs
 | _,_,.nil=> .nil
 | _,_,.cons n t h=> .cons ⟨t,rfl⟩ (lH h)
noncomputable def BF (H:Hp):Prop:=∀b,H b=none\/∃o xs,H b=some (.q9 o (.lst xs))
theorem wu {P:Program} {w:World} {K:PySem.W.Frag} {mg mb:Str->Option Value} {CX:iX} {k:Nat} {fa a:Addr} {fd:FuncData} {x:Str} {sp:Sp} {s₁:Shared} {vs:List Value} {ns:List Int}
  (KX:K.In s₁.heap) (pe:s₁.heap.Ns mainGlobals mg) (hb:s₁.heap.Ns builtinsNs mb) (nY:∀x:Str,x≠"__name__"->mb x=bootBuiltins x) (cW:s₁.heap.NoLimit) (hg:s₁.gens=#[])
  (ha:s₁.heap.get? a=some {cls:= .type "list",data:= .seq vs.toArray}) (hi:IntsAre vs ns) (hl:ns.length<=sizeLine) (hr:gk k callerA)
  (F:∀base:Heap,K.In base->base.Ns mainGlobals mg->gW P w K mg base CX k fa fd [x] sp) (FL:∀(s:Shared) (u:Value),BindsTo s fd ⟨[u],[]⟩ [(x,u)])
  (nz:∀H:Hp,BF H->cM K H a (ns.map V.int)->sp [.ref a] H (λv _=>v= .bl true) λ_ _ _=>False)
  (JI:∀H e s',CX [] H s₁ (λ_ _ _=>False) e s'->False):
  codeAny (model P w) callerA (.call (.ref fa) ⟨[.ref a],[]⟩) (λr s'=>r= .ok (.ret (.bool true))/\OldK s₁.heap s'.heap/\s'.os=s₁.os/\AllBare s'.gens) s₁:=by
 have rv:=lH hi;have Kt:=hi.length;have core:∀H:Hp,BF H->cM K H a (ns.map V.int)->d4 P w H s₁.heap->(∀b,H b≠none->b=a)->(H a≠none->K.lookup a=none)->
   codeAny (model P w) callerA (.call (.ref fa) ⟨[.ref a],[]⟩) (λr s'=>r= .ok (.ret (.bool true))/\OldK s₁.heap s'.heap/\s'.os=s₁.os/\AllBare s'.gens) s₁:=by
  intro H hO hS hok hA hK;have qI:∀{b:Addr} {o:Obj},s₁.heap.get? b=some o->H b=none->(mB s₁.heap H).get? b=some o:=λe n=>vY e n
  have GD:∀{b:Addr} {o:Obj} {es:Array DictEntry} {ep:Nat},s₁.heap.get? b=some o->o.data= .dict es ep->H b=none:=λ {b o es ep} e d=>by
   cases q:H b with
   | none=>rfl
   | some u=>have e':b=a:=hA b (by rw[q];simp);subst e';rw[ha] at e;cases e;have d':Data.seq vs.toArray _=Data.dict es ep:=d;cases d'
  have IE:∀{b:Addr} {m:Str->Option Value},s₁.heap.Ns b m->(mB s₁.heap H).Ns b m:=λ {b m} ⟨o,es,ep,e,d,r⟩=>⟨o,es,ep,qI e (GD e d),d,r⟩
  have LP:K.In (mB s₁.heap H):=λb o e=>qI (KX b o e) (by
   cases q:H b with
   | none=>rfl
   | some u=>
    have e':b=a:=hA b (by rw[q];simp);subst e';rw[hK (by rw[q];simp)] at e;cases e)
  have hM:Mod K mg (mB s₁.heap H):=⟨LP,IE pe,⟨mb,IE hb,nY⟩,let ⟨mc,h1,h2⟩:=cW;⟨mc,IE h1,h2⟩⟩;have e0:yF P w K mg (mB s₁.heap H) callerA [] s₁ H:=⟨rfl,hM,λb o e=>zX e,Nat.le_of_eq (tN _ _),trivial,λb hb=>absurd (show b∈([]:List Addr) from hb) (by simp),hok,.of_eq hg⟩;refine codeAny_mono ((F _ LP (IE pe)).run callerA [] s₁ H ⟨[.ref a],[]⟩ [.ref a] [.ref a] _ _ hr e0 (FL s₁ (.ref a)) (.cons rfl .nil) (nz H hO hS)) λr s' h=>?_
  cases r with
  | error e=>exact(JI H e s' h).elim
  | ok fl=>
   cases fl with
   | next=>exact False.elim h
   | brk=>exact False.elim h
   | cont=>exact False.elim h
   | ret u=>
    obtain⟨v,H',os,bare,un,zu,r',q⟩:=h;have q':v= .bl true:=q;subst q';obtain rfl:u=Value.bool true:=r';refine⟨rfl,OldK.of_keep λb o e=>?_,os,bare⟩;cases q:H b with
    | none=>exact un.keep b o e q (by intro z;exact absurd (show b∈([]:List Addr) from z) (by simp)) (by simp)
    | some u=>
     rcases hO b with z | ⟨ob,xs,z⟩
     ·rw[q] at z;cases z
     ·have z2:=un.frzs b ob _ z;obtain⟨e1,_⟩:=hok b _ z;obtain⟨e2,_⟩:=zu b _ z2;rw[e] at e1;cases e1;exact e2
 cases hk:K.lookup a with
 | some o=>have e:=KX a o hk;rw[ha] at e;cases e;refine core (λ_=>none) (λ_=> .inl rfl) (.inr ⟨_,vs.toArray,_,hk,rfl,rfl,rfl,by rw[Px,Kt];exact hl,by simpa using rv⟩) (λb u z=>by have z':(none:Option HO)=some u:=z;cases z') (λb z=>absurd rfl z) λz=>absurd rfl z
 | none=>
  refine core (λb=>if b=a then some (.q9 {cls:= .type "list",data:= .seq vs.toArray} (.lst (ns.map V.int))) else none) (λb=>?_) (.inl (.inr ⟨{cls:= .type "list",data:= .seq vs.toArray},if_pos rfl⟩)) (λb u z=>?_) (λb z=>?_) λ_=>hk
  ·by_cases hb:b=a
   ·exact .inr ⟨_,_,if_pos hb⟩
   ·exact .inl (if_neg hb)
  ·by_cases hb:b=a
   ·have z':=(if_pos hb).symm.trans z;cases z';subst hb;exact⟨ha,by rw[PL];exact hl,vs,_,rv,ha⟩
   ·have z':=(if_neg hb).symm.trans z;cases z'
  ·by_cases hb:b=a
   ·exact hb
   ·exact absurd (if_neg hb) z
end L2
namespace L2
open PySem PySem.Spec PyProof.Rows
theorem AK {l:PySem.W.OpenLaw} {n k:Nat} {q:Program} {loose:List Str} {XP:(Str->Option Value)->Heap->Prop} {YP:World->Heap->Prop} {d:DefRec} {K:Params->PySem.W.Frag} {CX:World->iX} {sp:World->Sp} {x:Str}
  (hn:l.most=some n) (oh:n<=sizeLine) (FU:d.params.defaults=[]) (hr:gk k callerA)
  (hY:∀(w:World) (h:Heap),YP w h->(K w.params).In h)
  (F:∀(w:World) (mg:Str->Option Value) (fa:Addr) (h:Heap),(K w.params).In h->h.Ns mainGlobals mg->mg d.name=some (.ref fa)->
   ∃fd:FuncData,(∀(s:Shared) (u:Value),BindsTo s fd ⟨[u],[]⟩ [(x,u)])/\
    ∀base:Heap,(K w.params).In base->base.Ns mainGlobals mg->gW l.prog w (K w.params) mg base (CX w) k fa fd [x] (sp w))
  (nz:∀(w:World) (H:Hp) (a:Addr) (ns:List Int),ns.length<=n->BF H->cM (K w.params) H a (ns.map V.int)->sp w [.ref a] H (λv _=>v= .bl true) λ_ _ _=>False)
  (JI:∀(w:World) (H:Hp) (s:Shared) (e:Value) (s':Shared),CX w [] H s (λ_ _ _=>False) e s'->False):
  PySem.W.WalkO q loose XP YP l.row.toRowW d [] (λf vs=>PySem.call f vs):=by
 refine Att.nM hn FU λw s₀ s₁ mg mb fa o pm cd doc a vs ns G Y ho hd ux hmg Cv hints hlen hg=>?_
 have KX:=hY w _ Y;obtain⟨fd,hb,hF⟩:=F w mg fa _ KX G.T.g hmg;exact wu KX G.T.g G.T.b G.T.builtins G.T.nolimit hg Cv hints (PP hlen oh) hr hF hb (λH hO hS=>nz w H a ns hlen hO hS) λH e s'=>JI w H s₁ e s'
end L2
namespace L2
open PySem PySem.Spec PyProof.Rows
noncomputable def mf (s:Stmt):Arguments:=match s with
 | .FunctionDef _ a _ _ _ _ _ _ _ _=>a
 | _=>{posonlyargs:=[],args:=[],vararg:=none,kwonlyargs:=[],kw_defaults:=[],kwarg:=none,defaults:=[]}
noncomputable def gv (s:Stmt):List Stmt:=match s with
 | .FunctionDef _ _ b _ _ _ _ _ _ _=>b
 | _=>[]
noncomputable def br (s:Stmt):Scope:=match s with
 | .FunctionDef _ _ _ _ _ _ sc _ _ _=>sc
 | _=>{kind:= .function,names:=[],isGenerator:=false,isCoroutine:=false}
theorem Gi {A B:Prop} (h:B):if false=true then A else B:=by rw[if_neg Bool.false_ne_true];exact h
theorem Gj {A B:Prop} (h:A):if true=true then A else B:=by rw[if_pos rfl];exact h
noncomputable def bj (H H':Hp):Prop:=∀b o,H b=some o->H' b=some o
theorem bj.refl (H:Hp):bj H H:=λ_ _ h=>h
theorem bj.trans {H H1 H2:Hp} (a:bj H H1) (b:bj H1 H2):bj H H2:=λc o h=>b c o (a c o h)
end L2
end
section
namespace Mx
open PySem PyProof.Rows
inductive D where
 | int (i:Int)
 | str (x:Str)
 | tup (ds:List D)
mutual
noncomputable def D.fI:D->D->Bool
 | .int i,.int j=>i==j
 | .str x,.str y=>x==y
 | .tup a,.tup b=>D.eqs a b
 | _,_=>false
noncomputable def D.eqs:List D->List D->Bool
 | [],[]=>true
 | x::xs,y::ys=>D.fI x y&&D.eqs xs ys
 | _,_=>false
end
mutual
noncomputable def D.lt:D->D->Bool
 | .int i,.int j=>decide (i < j)
 | .int _,_=>true
 | .str _,.int _=>false
 | .str x,.str y=>decide (x.cps.toList < y.cps.toList)
 | .str _,.tup _=>true
 | .tup a,.tup b=>D.eK a b
 | .tup _,_=>false
noncomputable def D.eK:List D->List D->Bool
 | [],[]=>false
 | [],_::_=>true
 | _::_,[]=>false
 | x::xs,y::ys=>if D.fI x y=true then D.eK xs ys else D.lt x y
end
mutual
theorem D.cz:∀a b:D,D.fI a b=true↔a=b
 | .int i,.int j=>by simp[D.fI]
 | .str x,.str y=>by simp[D.fI]
 | .tup a,.tup b=>by simp only[D.fI,D.tup.injEq];exact D.qU a b
 | .int _,.str _=>by simp[D.fI]
 | .int _,.tup _=>by simp[D.fI]
 | .str _,.int _=>by simp[D.fI]
 | .str _,.tup _=>by simp[D.fI]
 | .tup _,.int _=>by simp[D.fI]
 | .tup _,.str _=>by simp[D.fI]
theorem D.qU:∀a b:List D,D.eqs a b=true↔a=b
 | [],[]=>by simp[D.eqs]
 | [],_::_=>by simp[D.eqs]
 | _::_,[]=>by simp[D.eqs]
 | x::xs,y::ys=>by simp only[D.eqs,Pw,List.cons.injEq];rw[D.cz x y,D.qU xs ys]
end
noncomputable instance:DecidableEq D:=λa b=>if h:D.fI a b=true then isTrue ((D.cz a b).mp h) else isFalse λe=>h ((D.cz a b).mpr e)
theorem D.ml (a b:D):D.fI a b=decide (a=b):=by rw[Bool.eq_iff_iff,D.cz];simp
theorem D.dO (x y:D) (xs ys:List D):D.eK (x::xs) (y::ys)=if x=y then D.eK xs ys else D.lt x y:=by
 rw[D.eK];by_cases h:x=y
 ·rw[if_pos h,if_pos ((D.cz x y).mpr h)]
 ·rw[if_neg h,if_neg λe=>h ((D.cz x y).mp e)]
mutual
theorem D.lt_irrefl:∀a:D,D.lt a a=false
 | .int i=>by simp[D.lt]
 | .str x=>by simp only[D.lt];exact strKind.irrefl _
 | .tup a=>by simp only[D.lt];exact D.jO a
theorem D.jO:∀a:List D,D.eK a a=false
 | []=>by simp[D.eK]
 | x::xs=>by rw[D.dO,if_pos rfl];exact D.jO xs
end
mutual
theorem D.gJ:∀a b:D,D.lt a b=false->D.lt b a=false->a=b
 | .int i,.int j,h1,h2=>by simp only[D.lt,decide_eq_false_iff_not] at h1 h2;congr 1;lia
 | .str x,.str y,h1,h2=>by simp only[D.lt] at h1 h2;have:=strKind.total _ _ h1 h2;congr 1;cases x;cases y;simp only at this;congr 1;exact Array.toList_inj.mp this
 | .tup a,.tup b,h1,h2=>by simp only[D.lt] at h1 h2;rw[D.lj a b h1 h2]
 | .int _,.str _,h1,_=>by simp[D.lt] at h1
 | .int _,.tup _,h1,_=>by simp[D.lt] at h1
 | .str _,.int _,_,h2=>by simp[D.lt] at h2
 | .str _,.tup _,h1,_=>by simp[D.lt] at h1
 | .tup _,.int _,_,h2=>by simp[D.lt] at h2
 | .tup _,.str _,_,h2=>by simp[D.lt] at h2
theorem D.lj:∀a b:List D,D.eK a b=false->D.eK b a=false->a=b
 | [],[],_,_=>rfl
 | [],_::_,h1,_=>by simp[D.eK] at h1
 | _::_,[],_,h2=>by simp[D.eK] at h2
 | x::xs,y::ys,h1,h2=>by
  rw[D.dO] at h1 h2;by_cases h:x=y
  ·subst h;rw[if_pos rfl] at h1 h2;rw[D.lj xs ys h1 h2]
  ·rw[if_neg h] at h1;rw[if_neg (Ne.symm h)] at h2;exact absurd (D.gJ x y h1 h2) h
end
mutual
theorem D.lt_trans:∀a b c:D,D.lt a b=true->D.lt b c=true->D.lt a c=true
 | .int i,.int j,.int k,h1,h2=>by simp only[D.lt,decide_eq_true_eq] at *;lia
 | .int _,_,.str _,_,_=>by simp[D.lt]
 | .int _,_,.tup _,_,_=>by simp[D.lt]
 | .int _,.str _,.int _,_,h2=>by simp[D.lt] at h2
 | .int _,.tup _,.int _,_,h2=>by simp[D.lt] at h2
 | .str _,.int _,_,h1,_=>by simp[D.lt] at h1
 | .str x,.str y,.str z,h1,h2=>by simp only[D.lt] at *;exact strKind.trans _ _ _ h1 h2
 | .str _,.str _,.int _,_,h2=>by simp[D.lt] at h2
 | .str _,_,.tup _,_,_=>by simp[D.lt]
 | .str _,.tup _,.int _,_,h2=>by simp[D.lt] at h2
 | .str _,.tup _,.str _,_,h2=>by simp[D.lt] at h2
 | .tup _,.int _,_,h1,_=>by simp[D.lt] at h1
 | .tup _,.str _,_,h1,_=>by simp[D.lt] at h1
 | .tup _,.tup _,.int _,_,h2=>by simp[D.lt] at h2
 | .tup _,.tup _,.str _,_,h2=>by simp[D.lt] at h2
 | .tup a,.tup b,.tup c,h1,h2=>by simp only[D.lt] at *;exact D.ll a b c h1 h2
theorem D.ll:∀a b c:List D,D.eK a b=true->D.eK b c=true->D.eK a c=true
 | [],[],_,h1,_=>by simp[D.eK] at h1
 | [],_::_,[],_,h2=>by simp[D.eK] at h2
 | [],_::_,_::_,_,_=>by simp[D.eK]
 | _::_,[],_,h1,_=>by simp[D.eK] at h1
 | _::_,_::_,[],_,h2=>by simp[D.eK] at h2
 | x::xs,y::ys,z::zs,h1,h2=>by
  rw[D.dO] at h1 h2 ⊢;by_cases h:x=y
  ·subst h;rw[if_pos rfl] at h1;by_cases h':x=z
   ·rw[if_pos h'] at h2 ⊢;exact D.ll xs ys zs h1 h2
   ·rw[if_neg h'] at h2 ⊢;exact h2
  ·rw[if_neg h] at h1;by_cases h':y=z
   ·subst h';rw[if_neg h];exact h1
   ·rw[if_neg h'] at h2;have h3:=D.lt_trans x y z h1 h2;by_cases h'':x=z
    ·subst h'';rw[D.lt_irrefl] at h3;cases h3
    ·rw[if_neg h''];exact h3
end
@[reducible] noncomputable def Fk:KeyOrd where
 α:=D
 blt:=D.lt
 irrefl:=D.lt_irrefl
 trans:=D.lt_trans
 negTrans:=λa b c h=>by
  cases h1:D.lt a b with
  | true=>exact .inl rfl
  | false=>
   right;cases h2:D.lt b a with
   | true=>exact D.lt_trans b a c h2 h
   | false=>rw[D.gJ a b h1 h2] at h;exact h
 total:=D.gJ
end Mx
end
section
namespace MxSort
open PySem PySem.W PyProof.Rows
section
variable {O:KeyOrd} {key:Nat->O.α}
noncomputable def pW (key:Nat->O.α) (p:Array Nat) (i:Nat):O.α:=key (p.getD i 0)
noncomputable def Up (key:Nat->O.α) (p:Array Nat) (n:Nat):Prop:=∀i j,i<=j->j < n->O.kle (pW key p i) (pW key p j)
noncomputable def Dn (key:Nat->O.α) (p:Array Nat) (n:Nat):Prop:=∀i j,i<=j->j < n->O.kle (pW key p j) (pW key p i)
theorem rd {p q:Array Nat} {i j:Nat} (h:p[i]?=q[j]?):p.getD i 0=q.getD j 0:=by
 have e1:∀(p:Array Nat) (i:Nat),p.getD i 0=(p[i]?).getD 0:=λp i=>by simp[Array.getD_eq_getD_getElem?]
 rw[e1,e1,h]
theorem rK {p:Array Nat} {i j:Nat} (hj:j<=p.size) (k:Nat):pW key (kas_rev p i j) k=if i<=k/\k < j then pW key p (i + j - 1 - k) else pW key p k:=by
 have e:=getElem?_mirror_all (i:=i) hj k;unfold kas_rev pW;by_cases h1:i<=k/\k < j
 ·rw[if_pos h1] at e ⊢;exact congrArg key (rd e)
 ·rw[if_neg h1] at e ⊢;exact congrArg key (rd e)
noncomputable def Ord (N:Nat) (p:Array Nat):Prop:=p.toList.Perm (List.range N)
theorem Ord.size {N:Nat} {p:Array Nat} (h:Ord N p):p.size=N:=by have:=h.length_eq;rw[List.length_range] at this;rw[<-this];simp
variable {cmp:Nat->Nat->(Bool->Shared->Prop)->Shared->Prop} {s:Shared} {N:Nat}
noncomputable def Tells (O:KeyOrd) (key:Nat->O.α) (cmp:Nat->Nat->(Bool->Shared->Prop)->Shared->Prop) (N:Nat) (s:Shared):Prop:=
 ∀i j,i < N->j < N->∀C:Bool->Shared->Prop,C (O.blt (key i) (key j)) s->cmp i j C s
theorem Up.succ {p:Array Nat} {n:Nat} (h:Up key p n) (h1:1<=n) (h2:O.kle (pW key p (n - 1)) (pW key p n)):Up key p (n + 1):=λi j fm hj=>by
 by_cases e:j=n
 ·subst e;by_cases e2:i=j
  ·subst e2;exact KeyOrd.kle_refl _
  ·exact Qa (h i (j - 1) (by lia) (by lia)) h2
 ·exact h i j fm (by lia)
theorem Dn.succ {p:Array Nat} {n:Nat} (h:Dn key p n) (h1:1<=n) (h2:O.kle (pW key p n) (pW key p (n - 1))):Dn key p (n + 1):=λi j fm hj=>by
 by_cases e:j=n
 ·subst e;by_cases e2:i=j
  ·subst e2;exact KeyOrd.kle_refl _
  ·exact Qa h2 (h i (j - 1) (by lia) (by lia))
 ·exact h i j fm (by lia)
theorem Dn.of {p q:Array Nat} {n:Nat} (e:∀k,pW key q k=pW key p k) (h:Dn key p n):Dn key q n:=λi j a b=>by rw[e,e];exact h i j a b
theorem xT {p:Array Nat} {n:Nat} (hn:n<=p.size) (h:Dn key p n):Up key (kas_rev p 0 n) n:=λi j fm hj=>by rw[rK hn,rK hn,if_pos (by lia),if_pos (by lia)];exact h _ _ (by lia) (by lia)
end
end MxSort
end
section
namespace Mx
open PySem PySem.Spec PyProof.Rows L2 PySem.SeqAt
mutual
noncomputable def D.dep:D->Nat
 | .int _=>0
 | .str _=>0
 | .tup ds=>D.eO ds + 1
noncomputable def D.eO:List D->Nat
 | []=>0
 | d::ds=>max (D.dep d) (D.eO ds)
end
mutual
noncomputable def DV (H:Hp):V->D->Prop
 | x,.int i=>x= .int i
 | x,.str z=>x= .str z
 | x,.tup ds=>∃a xs,x= .ref a/\H a=some (.tup xs)/\a9 H xs ds
noncomputable def a9 (H:Hp):List V->List D->Prop
 | [],[]=>True
 | x::xs,d::ds=>DV H x d/\a9 H xs ds
 | [],_::_=>False
 | _::_,[]=>False
end
theorem a9.nil {H:Hp}:a9 H [] []:=by unfold a9;trivial
theorem a9.cons {H:Hp} {x:V} {xs:List V} {d:D} {ds:List D} (h:DV H x d) (t:a9 H xs ds):a9 H (x::xs) (d::ds):=by unfold a9;exact⟨h,t⟩
theorem DV.int {H:Hp} {i:Int}:DV H (.int i) (.int i):=by unfold DV;rfl
theorem DV.str {H:Hp} {x:Str}:DV H (.str x) (.str x):=by unfold DV;rfl
theorem DV.tup {H:Hp} {a:Addr} {xs:List V} {ds:List D} (h:H a=some (.tup xs)) (t:a9 H xs ds):DV H (.ref a) (.tup ds):=by unfold DV;exact⟨a,xs,rfl,h,t⟩
theorem DV.af {H:Hp} {x:V} {ds:List D} (h:DV H x (.tup ds)):∃a xs,x= .ref a/\H a=some (.tup xs)/\a9 H xs ds:=by unfold DV at h;exact h
theorem DV.int_inv {H:Hp} {x:V} {i:Int} (h:DV H x (.int i)):x= .int i:=by unfold DV at h;exact h
theorem DV.str_inv {H:Hp} {x:V} {i:Str} (h:DV H x (.str i)):x= .str i:=by unfold DV at h;exact h
theorem a9.cons_inv {H:Hp} {xs:List V} {d:D} {ds:List D} (h:a9 H xs (d::ds)):∃x r,xs=x::r/\DV H x d/\a9 H r ds:=by
 cases xs with
 | nil=>unfold a9 at h;exact h.elim
 | cons x r=>unfold a9 at h;exact⟨x,r,rfl,h⟩
theorem a9.length {H:Hp}:∀{xs:List V} {ds:List D},a9 H xs ds->xs.length=ds.length
 | [],[],_=>rfl
 | [],_::_,h=>by unfold a9 at h;exact h.elim
 | _::_,[],h=>by unfold a9 at h;exact h.elim
 | _::xs,_::ds,h=>by unfold a9 at h;simp[a9.length h.2]
theorem a9.get {H:Hp}:∀{xs:List V} {ds:List D} {i:Nat} {x:V},a9 H xs ds->xs[i]?=some x->∃d,ds[i]?=some d/\DV H x d
 | [],_,_,_,_,e=>by simp at e
 | _::_,[],_,_,h,_=>by unfold a9 at h;exact h.elim
 | _::_,_::_,0,_,h,e=>by unfold a9 at h;simp at e;subst e;exact⟨_,rfl,h.1⟩
 | _::xs,_::ds,i + 1,x,h,e=>by unfold a9 at h;obtain⟨d,e1,e2⟩:=a9.get (i:=i) h.2 (by simpa using e);exact⟨d,by simpa using e1,e2⟩
theorem a9.append {H:Hp}:∀{xs ys:List V} {ds es:List D},a9 H xs ds->a9 H ys es->a9 H (xs++ys) (ds++es)
 | [],_,[],_,_,h=>h
 | [],_,_::_,_,h,_=>by unfold a9 at h;exact h.elim
 | _::_,_,[],_,h,_=>by unfold a9 at h;exact h.elim
 | _::xs,ys,_::ds,es,h,h'=>by unfold a9 at h;exact a9.cons h.1 (a9.append h.2 h')
noncomputable def yI (H H':Hp):Prop:=∀a xs,H a=some (.tup xs)->H' a=some (.tup xs)
mutual
theorem DV.mono {H H':Hp} (t:yI H H'):∀{x:V} {d:D},DV H x d->DV H' x d
 | x,.int i,h=>by unfold DV at h ⊢;exact h
 | x,.str z,h=>by unfold DV at h ⊢;exact h
 | x,.tup ds,h=>by obtain⟨a,xs,e,e1,e2⟩:=h.af;subst e;exact DV.tup (t a xs e1) (a9.mono t e2)
theorem a9.mono {H H':Hp} (t:yI H H'):∀{xs:List V} {ds:List D},a9 H xs ds->a9 H' xs ds
 | [],[],_=>a9.nil
 | [],_::_,h=>by unfold a9 at h;exact h.elim
 | _::_,[],h=>by unfold a9 at h;exact h.elim
 | _::xs,_::ds,h=>by unfold a9 at h;exact a9.cons (DV.mono t h.1) (a9.mono t h.2)
end
mutual
theorem DV.inj {H:Hp}:∀{x:V} {d e:D},DV H x d->DV H x e->d=e
 | x,.int i,e,h1,h2=>by
  have:=h1.int_inv;subst this;cases e with
  | int j=>have:=h2.int_inv;injection this with q;rw[q]
  | str j=>have:=h2.str_inv;cases this
  | tup j=>obtain⟨_,_,q,_⟩:=h2.af;cases q
 | x,.str i,e,h1,h2=>by
  have:=h1.str_inv;subst this;cases e with
  | int j=>have:=h2.int_inv;cases this
  | str j=>have:=h2.str_inv;injection this with q;rw[q]
  | tup j=>obtain⟨_,_,q,_⟩:=h2.af;cases q
 | x,.tup ds,e,h1,h2=>by
  obtain⟨a,xs,q,e1,e2⟩:=h1.af;subst q;cases e with
  | int j=>have:=h2.int_inv;cases this
  | str j=>have:=h2.str_inv;cases this
  | tup j=>obtain⟨b,ys,q,f1,f2⟩:=h2.af;cases q;rw[e1] at f1;cases f1;rw[a9.inj e2 f2]
theorem a9.inj {H:Hp}:∀{xs:List V} {ds es:List D},a9 H xs ds->a9 H xs es->ds=es
 | [],[],[],_,_=>rfl
 | [],[],_::_,_,h=>by unfold a9 at h;exact h.elim
 | [],_::_,_,h,_=>by unfold a9 at h;exact h.elim
 | _::_,[],_,h,_=>by unfold a9 at h;exact h.elim
 | _::_,_::_,[],_,h=>by unfold a9 at h;exact h.elim
 | _::xs,_::ds,_::es,h1,h2=>by unfold a9 at h1 h2;rw[DV.inj h1.1 h2.1,a9.inj h1.2 h2.2]
end
noncomputable def Ig (ds es:List D) (j:Nat):Bool:=match ds[j]?,es[j]? with
 | some d,some e=>D.fI d e
 | _,_=>true
theorem qE:∀ds es:List D,((List.range (min ds.length es.length)).all (Ig ds es)&&ds.length==es.length)=D.eqs ds es
 | [],[]=>by simp[D.eqs]
 | [],_::_=>by simp[D.eqs]
 | _::_,[]=>by simp[D.eqs]
 | d::ds,e::es=>by
  have ih:=qE ds es;have hm:min (d::ds).length (e::es).length=min ds.length es.length + 1:=by simp only[P0];lia
  have e1:((d::ds).length==(e::es).length)=(ds.length==es.length):=by rw[Bool.eq_iff_iff];simp
  rw[hm,List.range_succ_eq_map,List.all_cons,List.all_map,e1,D.eqs,<-ih,Bool.and_assoc];rfl
theorem mh {d:D}:∀{ds:List D} {j:Nat},ds[j]?=some d->D.dep d<=D.eO ds
 | [],_,h=>by simp at h
 | d'::ds,0,h=>by simp at h;subst h;unfold D.eO;lia
 | d'::ds,j + 1,h=>by have:=mh (ds:=ds) (j:=j) (by simpa using h);unfold D.eO;lia
section
variable {P:Program} {w:World} {H:Hp} {s:Shared}
theorem ar (hok:d4 P w H s.heap) {a:Addr} {xs:List V} (h:H a=some (.tup xs)):∃its:List Value,au xs its/\s.heap.IsTuple a its.toArray:=by obtain⟨_,its,r,t⟩:=hok a _ h;exact⟨its,r,t.is⟩
theorem eq_data (hok:d4 P w H s.heap):∀(n:Nat) (d e:D) (x y:V) (u v:Value) (A:Around),D.dep d<=n->A.units + n < cLine->DV H x d->DV H y e->RelV x u->RelV y v->EqAt A s u v (D.fI d e):=by
 intro n
 induction n with
 | zero=>
  intro d e x y u v A hd hu hx hy rx ry;cases d with
  | int i=>
   have:=hx.int_inv;subst this;obtain⟨t,rfl⟩:=rx;cases e with
   | int j=>have:=hy.int_inv;subst this;obtain⟨t',rfl⟩:=ry;exact EqAt.int_int i t j t'
   | str j=>have:=hy.str_inv;subst this;obtain⟨t',rfl⟩:=ry;exact EqAt.int_str i t j t'
   | tup j=>obtain⟨b,ys,q,f1,f2⟩:=hy.af;subst q;cases ry;obtain⟨its,_,ht⟩:=ar hok f1;exact EqAt.int_tuple i t ht (by lia)
  | str i=>
   have:=hx.str_inv;subst this;obtain⟨t,rfl⟩:=rx;cases e with
   | int j=>have:=hy.int_inv;subst this;obtain⟨t',rfl⟩:=ry;exact EqAt.str_int i t j t'
   | str j=>have:=hy.str_inv;subst this;obtain⟨t',rfl⟩:=ry;exact EqAt.str_str i t j t'
   | tup j=>obtain⟨b,ys,q,f1,f2⟩:=hy.af;subst q;cases ry;obtain⟨its,_,ht⟩:=ar hok f1;exact EqAt.str_tuple i t ht (by lia)
  | tup ds=>unfold D.dep at hd;lia
 | succ n ih=>
  intro d e x y u v A hd hu hx hy rx ry;cases d with
  | int i=>exact ih (.int i) e x y u v A (by unfold D.dep;lia) (by lia) hx hy rx ry
  | str i=>exact ih (.str i) e x y u v A (by unfold D.dep;lia) (by lia) hx hy rx ry
  | tup ds=>
   obtain⟨a,xs,q,e1,e2⟩:=hx.af;subst q;cases rx;obtain⟨its,r1,ht⟩:=ar hok e1;cases e with
   | int j=>have:=hy.int_inv;subst this;obtain⟨t',rfl⟩:=ry;exact EqAt.tuple_int j t' ht (by lia)
   | str j=>have:=hy.str_inv;subst this;obtain⟨t',rfl⟩:=ry;exact EqAt.tuple_str j t' ht (by lia)
   | tup es=>
    obtain⟨b,ys,q,f1,f2⟩:=hy.af;subst q;cases ry;obtain⟨aI,r2,bR⟩:=ar hok f1;by_cases fK:a=b
    ·subst fK;rw[e1] at f1;cases f1;have:=a9.inj e2 f2;subst this;have q:D.fI (.tup ds) (.tup ds)=true:=(D.cz _ _).mpr rfl;rw[q];exact EqAt.same _
    ·have l1:its.toArray.size=ds.length:=by rw[Px,<-r1.length,e2.length]
     have l2:aI.toArray.size=es.length:=by rw[Px,<-r2.length,f2.length]
     have key:=RcAt.tuples (A:=A) (e:=Ig ds es) ht bR (by lia) (λj h1 h2=>?_)
     ·have q:=qE ds es;rw[<-l1,<-l2] at q;rw[q] at key;exact EqAt.of_refs fK key
     ·have kY:j < xs.length:=by rw[e2.length,<-l1];exact h1
      have kn:j < ys.length:=by rw[f2.length,<-l2];exact h2
      obtain⟨d,g1,g2⟩:=e2.get (i:=j) (x:=xs[j]) (by simp[kY]);obtain⟨e,k1,k2⟩:=f2.get (i:=j) (x:=ys[j]) (by simp[kn]);obtain⟨u,zy,ru⟩:=r1.get (i:=j) (x:=xs[j]) (by simp[kY]);obtain⟨v,CH,rv⟩:=r2.get (i:=j) (x:=ys[j]) (by simp[kn]);have eu:its.toArray[j]=u:=by have:its[j]?=some u:=zy;simp only[List.getElem_toArray];have q:=Pz.mp this;exact q.2
      have ev:aI.toArray[j]=v:=by have:aI[j]?=some v:=CH;simp only[List.getElem_toArray];have q:=Pz.mp this;exact q.2
      rw[eu,ev];have ee:Ig ds es j=D.fI d e:=by unfold Ig;rw[g1,k1]
      rw[ee];refine ih d e xs[j] ys[j] u v A.in1 ?_ (by show A.units + 1 + n < cLine;lia) g2 k2 ru rv;have:=mh g1;unfold D.dep at hd
      lia
end
mutual
noncomputable def D.eF:D->D->Prop
 | .int _,.int _=>True
 | .str _,.str _=>True
 | .tup a,.tup b=>D.fM a b
 | _,_=>False
noncomputable def D.fM:List D->List D->Prop
 | x::xs,y::ys=>D.eF x y/\D.fM xs ys
 | _,_=>True
end
noncomputable def BC (A:Around) (s:Shared) (u v:Value) (b:Bool):Prop:=
 ∀(prog:Program) (w:World) (E:Value->Shared->Prop) (Q:Value->Shared->Prop),Q (.bool b) s->wpAny (model prog w) A (richCompare .Lt u v) Q E s
inductive Zp (A:Around) (s:Shared):List Value->List Value->List D->List D->Prop
 | nil {ws:List Value} {es:List D}:ws.length=es.length->Zp A s [] ws [] es
 | zU {vs:List Value} {ds:List D}:vs.length=ds.length->Zp A s vs [] ds []
 | cons {v w:Value} {d e:D} {vs ws:List Value} {ds es:List D}:EqAt A s v w (D.fI d e)->(d≠e->BC A s v w (D.lt d e))->Zp A s vs ws ds es->Zp A s (v::vs) (w::ws) (d::ds) (e::es)
section
open PySem.AutoSeq1 (wpAny_loadPart')
open PySem.MeetsSeq PySem.MeetsSeq2 PySem.MeetsSeq3
theorem kK (l b:Addr) (items eV:Array Value) (n n2:Nat) (dd yj:Option Addr) (sl uB:Array (Option Value)) (ds es:List D) (z1:items.size=ds.length) (z2:eV.size=es.length):
  Meets (Builtin.«tuple.__lt__» ⟨[.ref l,.ref b],[]⟩)
   (λA R s=>s.heap.get? l=some {cls:= .type "tuple",dict:=dd,data:= .seq items n,slots:=sl}/\s.heap.get? b=some {cls:= .type "tuple",dict:=yj,data:= .seq eV n2,slots:=uB}/\
    Zp A.in1 s items.toList eV.toList ds es/\R (.ok (.ret (.bool (D.eK ds es)))) s):=
 .of_wp λprog w A R s h=>by
  obtain⟨hp,g,d,tk,os⟩:=s;obtain⟨hl,hb,Oq,h⟩:=h;have f2:=AutoSeq1.sub_tuple_tuple
  wp_walk using wpAny_loadPart' hl,wpAny_loadPart' hb,wpAny_forIn_list _ (λrest b s'=>b.1=none/\s'=⟨hp,g,d,tk,os⟩/\∃(vs ws:List Value) (tq fJ:List D),rest=vs.zip ws/\
   Zp A.in1 ⟨hp,g,d,tk,os⟩ vs ws tq fJ/\tq.length + eV.size=fJ.length + items.size/\R (.ok (.ret (.bool (D.eK tq fJ)))) ⟨hp,g,d,tk,os⟩) _
  case turn=>
   rintro⟨y,x⟩ rest b s' ⟨rf,rfl,vs,ws,tq,fJ,hz,Km,hlen,hR⟩;cases Km with
   | nil _=>rw[List.zip_nil_left] at hz;cases hz
   | zU _=>rw[List.zip_nil_right] at hz;cases hz
   | cons he hl Ge=>
    rename_i v wv d0 e0 uD ws' ds'' es'';rw[List.zip_cons_cons] at hz;injection hz with hyx F9;injection hyx with hy hx;subst hy hx;rw[D.dO] at hR;simp only[P0] at hlen;refine Pr (he prog w _ _ ?_);by_cases hde:d0=e0
    ·rw[if_pos hde] at hR;rw[(D.cz d0 e0).mpr hde]
     wp_walk
     exact⟨rfl,rfl,_,_,_,_,F9,Ge,by lia,hR⟩
    ·rw[if_neg hde] at hR;have MZ:D.fI d0 e0=false:=by rw[D.ml];exact P8 hde
     rw[MZ];have N7:=hl hde prog w
     wp_walk using N7
     exact⟨_,rfl,by simpa using hR⟩
  case fin=>
   rintro⟨b1,b2⟩ s' ⟨rf,rfl,vs,ws,tq,fJ,hz,Km,hlen,hR⟩;simp only at rf;subst rf;have hv:D.eK tq fJ=decide (items.size < eV.size):=by
    cases Km with
    | nil _=>
     cases fJ with
     | nil=>simp only[List.length_nil] at hlen;rw[D.eK];exact(P8 (by lia)).symm
     | cons c u=>simp only[List.length_nil,P0] at hlen;rw[D.eK];exact(Qc (by lia)).symm
    | zU _=>
     cases tq with
     | nil=>simp only[List.length_nil] at hlen;rw[D.eK];exact(P8 (by lia)).symm
     | cons c u=>simp only[List.length_nil,P0] at hlen;rw[D.eK];exact(P8 (by lia)).symm
    | cons he hl Ge=>rw[List.zip_cons_cons] at hz;cases hz
   rw[hv] at hR
   wp_walk
   exact⟨_,rfl,by simpa [Builtin.Tuple.tupleCompareSizes] using hR⟩
  case h=>exact⟨rfl,rfl,items.toList,eV.toList,ds,es,rfl,Oq,by lia,h⟩
end
section
variable {P:Program} {w:World} {H:Hp} {s:Shared}
theorem yf (hok:d4 P w H s.heap) {A:Around} {n:Nat} (hu:A.units + n < cLine) (ih:∀(d e:D) (x y:V) (u v:Value),D.dep d<=n->D.eF d e->DV H x d->DV H y e->RelV x u->RelV y v->BC A s u v (D.lt d e)):
  ∀{xs ys:List V} {us vs:List Value} {ds es:List D},D.eO ds<=n->D.fM ds es->a9 H xs ds->a9 H ys es->au xs us->au ys vs->Zp A s us vs ds es
 | [],ys,us,vs,[],es,_,_,_,h2,r1,r2=>by cases r1;exact .nil (by rw[<-r2.length,h2.length])
 | x::xs,[],us,vs,ds,[],_,_,h1,_,r1,r2=>by cases r2;exact .zU (by rw[<-r1.length,h1.length])
 | [],_,_,_,_::_,_,_,_,h,_,_,_=>by unfold a9 at h;exact h.elim
 | _::_,_,_,_,[],_,_,_,h,_,_,_=>by unfold a9 at h;exact h.elim
 | _::_,[],_,_,_::_,_::_,_,_,_,h,_,_=>by unfold a9 at h;exact h.elim
 | _::_,_::_,_,_,_::_,[],_,_,_,h,_,_=>by unfold a9 at h;exact h.elim
 | x::xs,y::ys,us,vs,d::ds,e::es,hd,hl,h1,h2,r1,r2=>by
  unfold a9 at h1 h2;unfold D.fM at hl;unfold D.eO at hd;cases r1 with
  | cons r1 t1=>
   cases r2 with
   | cons r2 t2=>exact .cons (eq_data hok n d e x y _ _ A (by lia) hu h1.1 h2.1 r1 r2) (λ_=>ih d e x y _ _ (by lia) hl.1 h1.1 h2.1 r1 r2) (yf hok hu ih (by lia) hl.2 h1.2 h2.2 t1 t2)
theorem zM (hok:d4 P w H s.heap):∀(n:Nat) (d e:D) (x y:V) (u v:Value) (A:Around),D.dep d<=n->A.units + n < cLine->D.eF d e->DV H x d->DV H y e->RelV x u->RelV y v->BC A s u v (D.lt d e):=by
 intro n
 induction n with
 | zero=>
  intro d e x y u v A hd hu hl hx hy rx ry;cases d with
  | int i=>
   have:=hx.int_inv;subst this;obtain⟨t,rfl⟩:=rx;cases e with
   | int j=>have:=hy.int_inv;subst this;obtain⟨t',rfl⟩:=ry;intro prog wd E Q q;exact(PyProof.Rows.lt_int q:wpAny (model prog wd) A (compareOp .Lt (.int i t) (.int j t')) Q E s)
   | str j=>unfold D.eF at hl;exact hl.elim
   | tup j=>unfold D.eF at hl;exact hl.elim
  | str i=>
   have:=hx.str_inv;subst this;obtain⟨t,rfl⟩:=rx;cases e with
   | int j=>unfold D.eF at hl;exact hl.elim
   | str j=>have:=hy.str_inv;subst this;obtain⟨t',rfl⟩:=ry;intro prog wd E Q q;exact(PySem.P.lt_str q:wpAny (model prog wd) A (compareOp .Lt (.str i t) (.str j t')) Q E s)
   | tup j=>unfold D.eF at hl;exact hl.elim
  | tup ds=>unfold D.dep at hd;lia
 | succ n ih=>
  intro d e x y u v A hd hu hl hx hy rx ry;cases d with
  | int i=>exact ih (.int i) e x y u v A (by unfold D.dep;lia) (by lia) hl hx hy rx ry
  | str i=>exact ih (.str i) e x y u v A (by unfold D.dep;lia) (by lia) hl hx hy rx ry
  | tup ds=>
   obtain⟨a,xs,q,e1,e2⟩:=hx.af;subst q;cases rx;cases e with
   | int j=>unfold D.eF at hl;exact hl.elim
   | str j=>unfold D.eF at hl;exact hl.elim
   | tup es=>
    obtain⟨b,ys,q,f1,f2⟩:=hy.af;subst q;cases ry;obtain⟨its,r1,ht⟩:=ar hok e1;obtain⟨aI,r2,bR⟩:=ar hok f1;have l1:its.toArray.size=ds.length:=by rw[Px,<-r1.length,e2.length]
    have l2:aI.toArray.size=es.length:=by rw[Px,<-r2.length,f2.length]
    have kE:D.eO ds<=n:=by unfold D.dep at hd;lia
    have Cq:D.fM ds es:=by unfold D.eF at hl;exact hl
    have zz:Zp A.in1 s its aI ds es:=yf hok (n:=n) (by show A.units + 1 + n < cLine;lia) (λd e x y u v hd2 d9 zB Gd rx2 ry2=>ih d e x y u v A.in1 hd2 (by show A.units + 1 + n < cLine;lia) d9 zB Gd rx2 ry2) kE Cq e2 f2 r1 r2;intro prog wd E Q q;obtain⟨⟨cls,dd,data,sl⟩,ho,hc,k,zp⟩:=id ht;obtain⟨⟨Fi,yj,data2,uB⟩,rj,nZ,k2,pR⟩:=id bR;simp only at hc zp nZ pR;subst hc zp nZ pR;have q':Q (.bool (D.eK ds es)) s:=by have z:=q;unfold D.lt at z;exact z
    exact richCompare_meets_room (op:= .Lt) ⟨_,ho,rfl⟩ ⟨_,rj,rfl⟩ PySem.F.slot_tuple_lt PySem.F.entry_tuple_lt (PySem.F.args_tuple_lt_2 _ _) (kK a b its.toArray aI.toArray k k2 dd yj sl uB ds es l1 l2)
     ⟨ho,rj,zz,show Value.bool (D.eK ds es)≠Value.notImplemented/\Q (.bool (D.eK ds es)) s from⟨(λx=>nomatch x),q'⟩⟩ (by lia)
end
end Mx
end
section
namespace Mx
open PySem PySem.W PySem.Spec PyProof.Rows L2 PySem.SeqAt MxSort
section
variable {P:Program} {w:World} {H:Hp} {prog:Program} {s:Shared} {A:Around}
theorem zH {b:Bool} {n m:Nat} {Q:Bool->Shared->Prop} {us vs:List Value} {ds es:List D} (z:Zp A s us vs ds es):∀(i:Nat),1<=i->ds.length + m=es.length + n->Q (D.eK ds es) s->KatLex prog w A b (decide (n < m)) Q (us.zip vs) i s:=by
 induction z with
 | nil hl=>
  intro i hi hlen q;rw[List.zip_nil_left];refine kat_nil ?_;rename_i ws es;cases es with
  | nil=>simp only[List.length_nil] at hlen;rw[D.eK] at q;rw[P8 (by lia)];exact q
  | cons c u=>simp only[List.length_nil,P0] at hlen;rw[D.eK] at q;rw[Qc (by lia)];exact q
 | zU hl=>
  intro i hi hlen q;rw[List.zip_nil_right];refine kat_nil ?_;rename_i vs ds;cases ds with
  | nil=>simp only[List.length_nil] at hlen;rw[D.eK] at q;rw[P8 (by lia)];exact q
  | cons c u=>simp only[List.length_nil,P0] at hlen;rw[D.eK] at q;rw[P8 (by lia)];exact q
 | cons he hl z' ih=>
  intro i hi hlen q;rename_i v wv d e uD ws' tq fJ;rw[List.zip_cons_cons];simp only[P0] at hlen;rw[D.dO] at q;refine kat_cons (he prog w _ _ ?_);by_cases hde:d=e
  ·rw[(D.cz d e).mpr hde];rw[if_pos hde] at q;exact kat_yes (ih (i + 1) (by lia) (by lia) q)
  ·rw[show D.fI d e=false by rw[D.ml];exact P8 hde];rw[if_neg hde] at q;refine kat_no ?_;rw[show (b&&i==0)=false by rw[show (i==0)=false by simp;lia];simp];exact kat_one v wv (hl hde prog w _ _ q)
end
noncomputable def jr (ds es:List D):Prop:=es.Perm ds/\es.Pairwise λa b=>D.lt b a=false
theorem a9.map {H:Hp} {xs:List V} {ds:List D} (h:a9 H xs ds):∀{p:List Nat},(∀i∈p,i < xs.length)->a9 H (p.map λi=>xs.getD i .aP) (p.map λi=>ds.getD i (.int 0))
 | [],_=>a9.nil
 | i::p,hp=>by have hi:=hp i PH;obtain⟨d,e1,e2⟩:=h.get (i:=i) (x:=xs[i]) (by simp[hi]);refine a9.cons ?_ (a9.map h λj hj=>hp j (PC _ hj));dsimp only;rw[show xs.getD i .aP=xs[i] by simp[hi],show ds.getD i (.int 0)=d by simp[e1]];exact e2
theorem o4 {xs:List V} {us:List Value} (h:au xs us):∀{p:List Nat},(∀i∈p,i < xs.length)->au (p.map λi=>xs.getD i .aP) (p.map λi=>us.getD i .none)
 | [],_=> .nil
 | i::p,hp=>by have hi:=hp i PH;obtain⟨u,e1,e2⟩:=h.get (i:=i) (x:=xs[i]) (by simp[hi]);refine .cons ?_ (o4 h λj hj=>hp j (PC _ hj));dsimp only;rw[show xs.getD i .aP=xs[i] by simp[hi],show us.getD i .none=u by simp[e1]];exact e2
theorem c6 {α:Type} (l:List α) (d:α):(List.range l.length).map (λi=>l.getD i d)=l:=by
 refine List.ext_getElem (by simp) λi h1 h2=>?_
 simp at h1;simp[h1]
end Mx
end
section
namespace L2
open PySem PySem.Spec PyProof.Rows
noncomputable def lZ (env:Env):List (Str×NameKind)->List (Str×Addr)->List (Str×Addr)
 | [],cs=>cs
 | (n,k)::r,cs=>lZ env r (if k== .free then(n,(env.cells.lookup n).getD 0)::cs else cs)
noncomputable def eD (scope:Scope) (env:Env):List (Str×Addr):=lZ env scope.names []
theorem jE {env:Env}:∀(l:List (Str×NameKind)) (cs:List (Str×Addr)),(∀y∈l,y.2= .free->∃c,env.cells.lookup y.1=some c)->
  (forIn l cs (λx r=>do
   if x.2==NameKind.free then do let a<-cellOf env x.1;pure (ForInStep.yield ((x.1,a)::r)) else pure (ForInStep.yield r)):Sem (List (Str×Addr)))=pure (lZ env l cs)
 | [],cs,_=>rfl
 | (n,k)::r,cs,h=>by
  rw[List.forIn_cons];have ih:=λcs=>jE r cs λy hy=>h y (PC _ hy)
  cases hk:(k==NameKind.free) with
  | false=>simp only[hk,Bool.false_eq_true,if_false,lZ,pure_bind];exact ih cs
  | true=>
   obtain⟨c,hc⟩:=h (n,k) PH (by simpa using hk);have kD:env.cells.lookup n=some c:=hc;have e:cellOf env n=pure c:=by unfold cellOf;rw[kD]
   simp only[hk,if_true,lZ,e,pure_bind,kD,Option.getD_some];exact ih _
theorem fG {scope:Scope} {env:Env} (h:∀y∈scope.names,y.2= .free->∃c,env.cells.lookup y.1=some c):closureFor scope env=pure (eD scope env):=by have q:=jE (env:=env) scope.names [] h;unfold closureFor eD;rw[<-q];simp only[bind_pure]
theorem iF {env:Env} {x:Str} {c:Addr}:∀(l:List (Str×NameKind)) (cs:List (Str×Addr)),(∀y∈l,y.2= .free->∃c,env.cells.lookup y.1=some c)->
  (∀c,cs.lookup x=some c->env.cells.lookup x=some c)->(lZ env l cs).lookup x=some c->env.cells.lookup x=some c
 | [],cs,_,h2,h=>h2 c h
 | (n,k)::r,cs,h1,h2,h=>by
  refine iF r _ (λy hy=>h1 y (PC _ hy)) (λc' kD=>?_) h;by_cases hk:(k==NameKind.free)=true
  ·rw[if_pos hk] at kD;rw[P9] at kD;by_cases hx:(x==n)=true
   ·rw[hx] at kD;have wg:x=n:=by simpa using hx
    subst wg;obtain⟨c₁,e⟩:=h1 (x,k) PH (by simpa using hk);have e':env.cells.lookup x=some c₁:=e;rw[e'] at kD ⊢;simpa using kD
   ·rw[Bool.not_eq_true] at hx;rw[hx] at kD;exact h2 c' kD
  ·rw[if_neg hk] at kD;exact h2 c' kD
theorem jx {env:Env} {x:Str}:∀(l:List (Str×NameKind)) (cs:List (Str×Addr)),(((x,NameKind.free)∈l)\/∃c,cs.lookup x=some c)->∃c,(lZ env l cs).lookup x=some c
 | [],cs,h=>by
  rcases h with h | h
  ·cases h
  ·exact h
 | (n,k)::r,cs,h=>by
  refine jx r _ ?_;by_cases hk:(k==NameKind.free)=true
  ·rw[if_pos hk];by_cases hx:(x==n)=true
   ·exact .inr ⟨_,by rw[P9,hx]⟩
   ·rw[Bool.not_eq_true] at hx;rcases h with h | h
    ·rcases PQ.mp h with e | h
     ·injection e with e1 e2;subst e1;simp at hx
     ·exact .inl h
    ·exact .inr (by obtain⟨c,e⟩:=h;exact⟨c,by rw[P9,hx];exact e⟩)
  ·rw[if_neg hk];rcases h with h | h
   ·rcases PQ.mp h with e | h
    ·injection e with e1 e2;subst e2;exact absurd rfl hk
    ·exact .inl h
   ·exact .inr h
theorem aV {env:Env} {x:Str}:∀{names:List (Str×NameKind)} {k:NameKind},names.lookup x=some k->
  (names.map λ(n,k)=>if (k==NameKind.free&&env.scope.kind== .function&&env.kindOf n==some .cell) then(n,NameKind.cell) else(n,k)).lookup x=
   some (if (k==NameKind.free&&env.scope.kind== .function&&env.kindOf x==some .cell) then NameKind.cell else k)
 | [],_,h=>by simp at h
 | (n,k')::r,k,h=>by
  have ih:=@aV env x r k;show List.lookup x ((if (k'==NameKind.free&&env.scope.kind== .function&&env.kindOf n==some .cell)=true then(n,NameKind.cell) else(n,k'))::_)=_;cases hx:x==n with
  | true=>
   have wg:x=n:=by simpa using hx
   subst wg;simp only[P9,hx] at h;cases h;by_cases hc:(k'==NameKind.free&&env.scope.kind== .function&&env.kindOf x==some .cell)=true
   ·simp only[hc,if_true,P9,hx]
   ·rw[if_neg hc,if_neg hc];simp only[P9,hx]
  | false=>
   simp only[P9,hx] at h;by_cases hc:(k'==NameKind.free&&env.scope.kind== .function&&env.kindOf n==some .cell)=true
   ·rw[if_pos hc];simp only[P9,hx];exact ih h
   ·rw[if_neg hc];simp only[P9,hx];exact ih h
theorem bI {env:Env} {x:Str}:∀{names:List (Str×NameKind)},names.lookup x=none->
  (names.map λ(n,k)=>if (k==NameKind.free&&env.scope.kind== .function&&env.kindOf n==some .cell) then(n,NameKind.cell) else(n,k)).lookup x=none
 | [],h=>rfl
 | (n,k')::r,h=>by
  show List.lookup x ((if (k'==NameKind.free&&env.scope.kind== .function&&env.kindOf n==some .cell)=true then(n,NameKind.cell) else(n,k'))::_)=_;cases hx:x==n with
  | true=>simp only[P9,hx] at h;cases h
  | false=>
   simp only[P9,hx] at h;by_cases hc:(k'==NameKind.free&&env.scope.kind== .function&&env.kindOf n==some .cell)=true
   ·rw[if_pos hc];simp only[P9,hx];exact bI h
   ·rw[if_neg hc];simp only[P9,hx];exact bI h
noncomputable def cF (cap:List (Option Nat)) (σ:St):St:=cap.map λo=>o.bind λi=>(σ[i]?).join
noncomputable def AN (X:Cx) (ifs:List Expr) (t:TT):Prop:=
 ∀(pins:List (Addr×Obj)) (s:Shared) (σ:St) (H:Hp) (Q:Bool->Hp->Prop),Inv X pins σ H s->t σ H Q->
  wpAny (model X.prog X.w) X.A (forIn ifs true λc r=>if r=true then do let ok<-isTrue c X.env (eval c X.env);pure (ForInStep.yield ok) else pure (ForInStep.yield r)) (TP X pins σ Q) X.xe s
noncomputable def Lp:TT:=λ_ H Q=>Q true H
theorem Ap {X:Cx}:AN X [] Lp:=λ_ _ _ H _ I h=>wpAny_tests_nil ⟨H,I,h⟩
theorem Aq {X:Cx} {c:Expr} {t:TT} (h:PT X c t):AN X [c] t:=λpins s σ H Q I hw=>wpAny_tests_one (h pins s σ H Q I hw)
noncomputable def EU (J:It) (g:TG) (tt:TT) (te:TE) (σ0:St) (D:Addr) (F:Hp->Prop) (H1:Hp):Prop:=
 ∃W:Nat->Nat->List V->Hp->Prop,(∃m,W 0 m [] (upd H1 D (.lst [])))/\∀i m acc H,W i m acc H->
  (J.stop i H/\F H)\/(J.go i H/\∀x H',J.yld i H x H'->g x σ0 H' λσ2 H2=>tt σ2 H2 λb H3=>if b=true then te σ2 H3 λv H4=>∃fy,H4 D=some (.lst fy)/\fy.length < sizeLine/\
   ∃m',m' < m/\W (i + 1) m' (fy++[v]) (upd H4 D (.lst (fy++[v]))) else∃m',m' < m/\W (i + 1) m' acc H3)
end L2
end
section
namespace Mx
open PySem PySem.W PySem.Spec PyProof.Rows L2 PySem.SeqAt
section
variable {X:Cx}
noncomputable def K2:V->Option Int->Option Int->Hp->VK->Prop:=λx lo hi H Q=>∃z,x= .str z/\z.length<=sizeLine/\Q (.str (PySem.Txt.slice z lo hi)) H
theorem DX:Et X K2:=by
 intro pins s σ H x v vl vu lo hi sl Q I rx hs pl pu h;obtain⟨z,rfl,hz,q⟩:=h;obtain⟨t,rfl⟩:=rx;refine⟨"str",_,PySem.F.slot_str_getitem.lookup,typeIs_str _ _ _,?_⟩;have fin:∀(t':Tok) (k:Nat),EP X pins σ Q (.str (PySem.Txt.slice z lo hi) t') {s with toks:=k}:=λt' k=>⟨.str _,H,I.tok k,⟨t',rfl⟩,q⟩
 have hlen:=PP (PySem.Txt.slice_le z lo hi) hz;obtain⟨o,ho,hc,hd⟩:=hs;cases pl with
 | none=>
  cases pu with
  | none=>exact wpAny_getItem_str_slice (l:=none) (u:=none) (st:=none) ⟨o,ho,hc,hd⟩ rfl (post_val_or_str ⟨hlen,fin⟩)
  | int j tj=>exact wpAny_getItem_str_slice (l:=none) (u:=some (j,tj)) (st:=none) ⟨o,ho,hc,hd⟩ rfl (post_val_or_str ⟨hlen,fin⟩)
 | int i ti=>
  cases pu with
  | none=>exact wpAny_getItem_str_slice (l:=some (i,ti)) (u:=none) (st:=none) ⟨o,ho,hc,hd⟩ rfl (post_val_or_str ⟨hlen,fin⟩)
  | int j tj=>exact wpAny_getItem_str_slice (l:=some (i,ti)) (u:=some (j,tj)) (st:=none) ⟨o,ho,hc,hd⟩ rfl (post_val_or_str ⟨hlen,fin⟩)
noncomputable def KQ (K:PySem.W.Frag):List V->Hp->VK->Prop:=λxs H Q=>∃x T t b,xs=[x,.ty T]/\gq K H x t/\PySem.W.kitOne K t (.type T)=some b/\Q (.bl b) H
theorem vh:ck X (.builtin "isinstance") (KQ X.K):=by intro pins s σ H xs us Q I r h;obtain⟨x,T,t,b,rfl,ty,hk,q⟩:=h;obtain⟨u,v,rfl,r1,r2⟩:=r.two;cases r2;exact tR I r1 ty hk λtk=>⟨.bl b,H,I.tok tk,rfl,q⟩
end
end Mx
end
section
namespace Mx
open PySem PySem.W PySem.Spec PyProof.Rows L2
structure uM (z TI TO i1 i2:Addr):Prop where
 TIz:TI≠z
 TOz:TO≠z
 i1z:i1≠z
 i2z:i2≠z
 TITO:TI≠TO
 TIi1:TI≠i1
 TIi2:TI≠i2
 TOi1:TO≠i1
 TOi2:TO≠i2
 i12:i1≠i2
theorem b9 {H:Hp} {p:Addr} (h:H p=none) (o:HO):bj H (upd H p o):=λb u q=>by rw[aF (a6 q h)];exact q
theorem lB {H H':Hp} (h:bj H H'):yI H H':=λa xs q=>h a _ q
theorem xq {H1 H:Hp} {D:Addr} {o:HO} (h:bj H1 H) (hD:H1 D=none):bj H1 (upd H D o):=λb u q=>by rw[aF (a6 q hD)];exact h b u q
theorem kh {H:Hp} {D:Addr} {xs ys:List V} (hD:H D=some (.lst xs)):yI H (upd H D (.lst ys)):=λb zs q=>by
 by_cases e:b=D
 ·subst e;rw[hD] at q;cases q
 ·rw[aF e];exact q
theorem Ex {α:Type} {x y:α} {r:List α}:km (x::y::r) 1=some y:=iZ (j:=1) rfl
theorem at2 {α:Type} {x y z:α} {r:List α}:km (x::y::z::r) 2=some z:=iZ (j:=2) rfl
section
variable {K:PySem.W.Frag} {g:TG} {tt:TT} {te:TE} {σ0:L2.St} {D:Addr} {F:Hp->Prop} {H1:Hp}
theorem nR {J:It} {n:Nat} (hD:H1 D=none) (E:Nat->List Mx.D) (hE:E 0=[]) (hn:n < sizeLine) (go:∀i H,i < n->bj H1 H->J.go i H) (stop:∀H,bj H1 H->J.stop n H)
  (hs:∀i x H H',i < n->bj H1 H->J.yld i H x H'->bj H H'/\∀(N:V->Hp->Prop) (M:Hp->Prop),(∀v H4 e,bj H' H4->DV H4 v e->E (i + 1)=E i++[e]->N v H4)->(∀H3,bj H' H3->E (i + 1)=E i->M H3)->
   g x σ0 H' λσ2 H2=>tt σ2 H2 λb H3=>if b=true then te σ2 H3 N else M H3)
  (hd:∀H acc,bj H1 H->H D=some (.lst acc)->a9 H acc (E n)->F H):EU J g tt te σ0 D F H1:=by
 refine⟨λi m acc H=>m=n - i/\i<=n/\bj H1 H/\H D=some (.lst acc)/\a9 H acc (E i)/\acc.length<=i,⟨n,by simp,Nat.zero_le _,b9 hD _,aM,by rw[hE];exact a9.nil,PF _⟩,?_⟩;rintro i m acc H ⟨rfl,hi,hS,JK,kF,rh⟩;by_cases cJ:i < n
 ·refine .inr ⟨go i H cJ hS,λx H' y=>?_⟩;obtain⟨s1,st⟩:=hs i x H H' cJ hS y;refine st _ _ (λv H4 e s4 he e4=>?_) (λH3 s3 e3=>?_)
  ·have La:=s1.trans s4;have FD:=La _ _ JK;refine⟨acc,FD,by lia,n - (i + 1),by lia,rfl,cJ,xq (hS.trans La) hD,aM,?_,by simp;lia⟩;rw[e4];exact(a9.append (kF.mono (lB La)) (a9.cons he a9.nil)).mono (kh FD)
  ·have K9:=s1.trans s3;exact⟨n - (i + 1),by lia,rfl,cJ,hS.trans K9,K9 _ _ JK,by rw[e3];exact kF.mono (lB K9),by lia⟩
 ·have e:i=n:=by lia
  subst e;exact .inl ⟨stop H hS,hd H acc hS JK kF⟩
end
noncomputable def bL:Bool->Heap->Addr->Addr->Nat->Prop
 | false,h,i,l,k=>h.IsListIter i l k
 | true,h,i,l,k=>h.IsTupleIter i l k
noncomputable def eL:Bool->Heap->Addr->Array Value->Prop
 | false,h,l,xs=>h.IsList l xs
 | true,h,l,xs=>h.IsTuple l xs
theorem bL.at:∀{b:Bool} {h h':Heap} {i l:Addr} {k:Nat},bL b h i l k->(∀o,h.get? i=some o->h'.get? i=some o)->bL b h' i l k
 | false,_,_,_,_,_,x,e=>Heap.IsListIter.at x e
 | true,_,_,_,_,_,x,e=>Heap.IsTupleIter.at x e
theorem eL.at:∀{b:Bool} {h h':Heap} {l:Addr} {xs:Array Value},eL b h l xs->(∀o,h.get? l=some o->h'.get? l=some o)->eL b h' l xs
 | false,_,_,_,_,x,e=>let ⟨o,ho,r⟩:=x;⟨o,e o ho,r⟩
 | true,_,_,_,_,x,e=>let ⟨o,ho,r⟩:=x;⟨o,e o ho,r⟩
theorem bL.obj:∀{b:Bool} {h:Heap} {i l:Addr} {k:Nat},bL b h i l k->∃o,h.get? i=some o/\∀v,o.data≠ .cell v
 | false,_,_,_,_,x=>by obtain⟨o,e,c,d⟩:=x;exact⟨o,e,λv q=>by rw[d] at q;cases q⟩
 | true,_,_,_,_,x=>by obtain⟨o,e,c,d⟩:=x;exact⟨o,e,λv q=>by rw[d] at q;cases q⟩
section
variable {prog:Program} {w:World} {A:Around} {E:Value->Shared->Prop} {s:Shared}
theorem qv {it t:Addr} {i:Nat} {items:Array Value} {x:Value} {Q:Value->Shared->Prop} (hit:s.heap.IsTupleIter it t i) (ht:s.heap.IsTuple t items) (hx:items[i]?=some x)
  (hQ:∀h',h'.IsTupleIter it t (i + 1)->Heap.SameBut it s.heap h'->Q x {s with heap:=h'}):wpAny (model prog w) A (Builtin.SmallTypes.nextOf (.ref it)) Q E s:=by
 obtain⟨o,ho,hc,hd⟩:=id hit;obtain⟨ol,J6,_,nl,EF⟩:=ht;unfold Builtin.SmallTypes.nextOf;refine Pr (wpAny_callSpecial?_slot (name:=Str.ofString "__next__") hit.typeIs F.slot_tuple_iterator_next (wpAny_call_entry F.slot_tuple_iterator_next hit.typeIs F.entry_tuple_iterator_next (show wpAny _ _ (field (.ref it) 0 >>=_) _ _ s from Pr (wpAny_field ho hd (x:= .ref t) rfl ?_)) (F.args_tuple_iterator_next_1 _)));show wpAny _ _ (if (Value.ref t==Value.none)=true then _ else _) _ _ s;rw[if_neg (show¬((Value.ref t==Value.none)=true) from Bool.false_ne_true)];refine(show wpAny _ _ (field (.ref it) 1 >>=_) _ _ s from Pr (wpAny_field ho hd (x:= .int i 0) rfl (show wpAny _ _ (seqItems? (.ref t) >>=_) _ _ s from Pr (wpAny_seqItems J6 EF ?_))));simp only[Int.toNat_natCast,hx];refine Pr (wpAny_setField ho hd (by simp) (Pv ⟨x,rfl,Pv (hQ _ ⟨_,Heap.get?_update_self _ ho (Obj.isFreed_of_fields (Obj.data_mapFields hd _)),(Obj.cls_mapFields ..).trans hc,?_⟩ (Heap.SameBut.update ..))⟩));rw[Obj.data_mapFields hd];simp[rawInt]
theorem uk {it t:Addr} {i:Nat} {items:Array Value} {Q:Value->Shared->Prop} (hh:A.handled=none) (hit:s.heap.IsTupleIter it t i) (ht:s.heap.IsTuple t items) (hx:items[i]?=none)
  (hE:∀h' e,Heap.ExtBut it s.heap h'->(∃o,h'.get? e=some o/\o.cls= .type "StopIteration")->E (.ref e) {s with heap:=h'}):wpAny (model prog w) A (Builtin.SmallTypes.nextOf (.ref it)) Q E s:=by
 obtain⟨o,ho,hc,hd⟩:=id hit;obtain⟨ol,J6,_,nl,EF⟩:=ht;unfold Builtin.SmallTypes.nextOf;refine Pr (wpAny_callSpecial?_slot (name:=Str.ofString "__next__") hit.typeIs F.slot_tuple_iterator_next (wpAny_call_entry F.slot_tuple_iterator_next hit.typeIs F.entry_tuple_iterator_next (show wpAny _ _ (field (.ref it) 0 >>=_) _ _ s from Pr (wpAny_field ho hd (x:= .ref t) rfl ?_)) (F.args_tuple_iterator_next_1 _)));show wpAny _ _ (if (Value.ref t==Value.none)=true then _ else _) _ _ s;rw[if_neg (show¬((Value.ref t==Value.none)=true) from Bool.false_ne_true)];refine(show wpAny _ _ (field (.ref it) 1 >>=_) _ _ s from Pr (wpAny_field ho hd (x:= .int i 0) rfl (show wpAny _ _ (seqItems? (.ref t) >>=_) _ _ s from Pr (wpAny_seqItems J6 EF ?_))));simp only[Int.toNat_natCast,hx];refine Pr (wpAny_rule (Pr (wpAny_setField ho hd (by simp) (show wpAny _ _ (newExc (.type "StopIteration") [] >>=_) _ _ _ from Pr ?_))));simp only[newExc,newTuple];refine Pr (wpAny_newObj_type (Pr (m:=firstArgMember _ _) (wpAny_of_eq (a:=Value.none) (by first | rfl | (simp only[firstArgMember];rfl)) (wpAny_newObj_type ?_ (by size_fits)))) (by size_fits));simp only[raiseNew];refine Pr (wpAny_handled ?_)
 first | rw[show A.in1.handled=none from hh] | rw[hh]
 exact Pr (Pv (wpAny_throw (hE _ _ (((Heap.SameBut.update ..).extBut.push _).push _) ⟨_,PJ _ rfl,rfl⟩)))
theorem fV {b:Bool} {it l:Addr} {i:Nat} {items:Array Value} {x:Value} {Q:Value->Shared->Prop} (hit:bL b s.heap it l i) (hl:eL b s.heap l items) (hx:items[i]?=some x)
  (hQ:∀h',bL b h' it l (i + 1)->Heap.SameBut it s.heap h'->Q x {s with heap:=h'}):wpAny (model prog w) A (Builtin.SmallTypes.nextOf (.ref it)) Q E s:=by
 cases b with
 | false=>exact wpAny_nextOf_list_item hit hl hx hQ
 | true=>exact qv hit hl hx hQ
theorem k9 {b:Bool} {it l:Addr} {i:Nat} {items:Array Value} {Q:Value->Shared->Prop} (hh:A.handled=none) (hit:bL b s.heap it l i) (hl:eL b s.heap l items) (hx:items[i]?=none)
  (hE:∀h' e,Heap.ExtBut it s.heap h'->(∃o,h'.get? e=some o/\o.cls= .type "StopIteration")->E (.ref e) {s with heap:=h'}):wpAny (model prog w) A (Builtin.SmallTypes.nextOf (.ref it)) Q E s:=by
 cases b with
 | false=>exact wpAny_nextOf_list_end hh hit hl hx hE
 | true=>exact uk hh hit hl hx hE
end
structure gX (z TO i1 i2 l:Addr):Prop where
 z:l≠z
 o:l≠TO
 a:l≠i1
 b:l≠i2
section
variable {prog:Program} {w:World} {A:Around} {E:Value->Shared->Prop} {s:Shared}
theorem uv {b1 b2:Bool} {z TI TO i1 i2 l1 l2:Addr} {k1 k2:Nat} {xs ys:Array Value} {x y a b:Value} {Q:Option Value->Shared->Prop} (D:uM z TI TO i1 i2) (O1:gX z TO i1 i2 l1) (O2:gX z TO i1 i2 l2)
  (hz:IsZip s.heap z TI TO .none) (JO:IsPair s.heap TI (.ref i1) (.ref i2)) (JQ:IsPair s.heap TO a b) (h1:bL b1 s.heap i1 l1 k1) (h2:bL b2 s.heap i2 l2 k2) (iR:eL b1 s.heap l1 xs) (d9:eL b2 s.heap l2 ys) (hx:xs[k1]?=some x) (hy:ys[k2]?=some y)
  (hQ:∀h',IsZip h' z TI TO (rawInt s.heap.objs.size)->IsPair h' TO x y->bL b1 h' i1 l1 (k1 + 1)->bL b2 h' i2 l2 (k2 + 1)->IsPair h' s.heap.objs.size x y->
   (∀c o,c≠z->c≠TO->c≠i1->c≠i2->s.heap.get? c=some o->h'.get? c=some o)->Q (some (.ref s.heap.objs.size)) {s with heap:=h'}):wpAny (model prog w) A (pyNext (.ref z)) Q E s:=by
 have hT:s.TypeIs (.ref z) "zip":=⟨_,hz,rfl⟩;unfold pyNext;refine Pr (wpAny_attempt (wpAny_callSpecial?_slot (name:=Str.ofString "__next__") hT F.slot_zip_next (wpAny_call_entry F.slot_zip_next hT F.entry_zip_next ?_ (F.args_zip_next_1 _))));refine(show wpAny _ _ (field (.ref z) 2 >>=_) _ _ _ from Pr (wpAny_field hz rfl (x:= .bool false) rfl (show wpAny _ _ (field (.ref z) 3 >>=_) _ _ _ from Pr (wpAny_field hz rfl (x:= .ref TI) rfl (Pr (wpAny_seqItems JO rfl (show wpAny _ _ (Builtin.SmallTypes.ownedTupleIsFree (.ref z) >>=_) _ _ _ from Pr ?_)))))));unfold Builtin.SmallTypes.ownedTupleIsFree;refine Pr (wpAny_field hz rfl (x:= .none) rfl (Pv ?_));simp only[if_true];refine Pr (wpAny_rule (Pr (wpAny_field hz rfl (x:= .ref TO) rfl (Pr (Qg hz (by simp) λg1 z1 e1=>Pr ?_)))))
 replace z1:IsZip g1 z TI TO .ellipsis:=z1
 simp only[List.zipIdx_cons,List.zipIdx_nil,List.forIn_cons,List.forIn_nil];refine Pr (Pr (wpAny_onRaise (show wpAny _ _ (Builtin.SmallTypes.nextOf (.ref i1) >>=_) _ _ _ from Pr (fV (h1.at λo q=>e1.extBut _ o D.i1z q) (iR.at λo q=>e1.extBut _ o O1.z q) hx λg2 j1 e2=>Pv ?_))));have t2:IsPair g2 TO a b:=e2.extBut _ _ D.TOi1 (e1.extBut _ _ D.TOz JQ);refine Pr (wpAny_seqItems t2 rfl (Pr (wpAny_updateSeq_pair t2 λg3 t3 e3=>Pr (wpAny_letGo (Pv ?_)))))
 replace t3:IsPair g3 TO x b:=t3
 refine Pr (Pr (wpAny_onRaise (show wpAny _ _ (Builtin.SmallTypes.nextOf (.ref i2) >>=_) _ _ _ from Pr (fV (h2.at λo q=>e3.extBut _ o D.TOi2.symm (e2.extBut _ o D.i12.symm (e1.extBut _ o D.i2z q))) (d9.at λo q=>e3.extBut _ o O2.o (e2.extBut _ o O2.a (e1.extBut _ o O2.z q))) hy λg4 j2 e4=>Pv ?_))));have t4:IsPair g4 TO x b:=e4.extBut _ _ D.TOi2 t3;refine Pr (wpAny_seqItems t4 rfl (Pr (wpAny_updateSeq_pair t4 λg5 t5 e5=>Pr (wpAny_letGo (Pv (Pv ?_))))))
 replace t5:IsPair g5 TO x y:=t5
 refine Pr (wpAny_seqItems t5 rfl (Pr (wpAny_newTuple ?_)));have sz:g5.objs.size=s.heap.objs.size:=by rw[e5.1,e4.1,e3.1,e2.1,e1.1]
 have z5:IsZip g5 z TI TO .ellipsis:=e5.extBut _ _ D.TOz.symm (e4.extBut _ _ D.i2z.symm (e3.extBut _ _ D.TOz.symm (e2.extBut _ _ D.i1z.symm z1)));have old:∀c o,c≠z->c≠TO->c≠i1->c≠i2->s.heap.get? c=some o->g5.get? c=some o:=λc o c1 c2 c3 c4 q=>e5.extBut _ _ c2 (e4.extBut _ _ c4 (e3.extBut _ _ c2 (e2.extBut _ _ c3 (e1.extBut _ _ c1 q))))
 have n1:bL b1 g5 i1 l1 (k1 + 1):=j1.at λo q=>e5.extBut _ o D.TOi1.symm (e4.extBut _ o D.i12 (e3.extBut _ o D.TOi1.symm q))
 have n2:bL b2 g5 i2 l2 (k2 + 1):=j2.at λo q=>e5.extBut _ o D.TOi2.symm q
 have MH:z < g5.objs.size:=PN z5;refine(show wpAny _ _ (Builtin.SmallTypes.ownedTupleHandOut (.ref z) (.ref g5.objs.size) >>=_) _ _ _ from Pr ?_);unfold Builtin.SmallTypes.ownedTupleHandOut;have z6:IsZip (g5.push {cls:= .type "tuple",data:= .seq #[x,y]}) z TI TO .ellipsis:=Pu _ z5;refine Pr (Qg z6 (by simp) λg7 z7 e7=>?_)
 replace z7:IsZip g7 z TI TO (rawInt g5.objs.size):=z7
 refine Qg z7 (by simp) λg8 z8 e8=>?_
 replace z8:IsZip g8 z TI TO (rawInt g5.objs.size):=z8
 have up:∀c o,c≠z->g5.get? c=some o->g8.get? c=some o:=λc o c1 q=>e8.extBut _ _ c1 (e7.extBut _ _ c1 (Pu _ q))
 have t8:IsPair g8 g5.objs.size x y:=e8.extBut _ _ (Nat.ne_of_gt MH) (e7.extBut _ _ (Nat.ne_of_gt MH) (PJ _ rfl));rw[sz] at z8 t8;refine Pv ⟨_,rfl,Pv ?_⟩;show Q (some (.ref g5.objs.size)) _;rw[sz];exact hQ g8 z8 (up _ _ D.TOz t5) (n1.at λo q=>up _ o D.i1z q) (n2.at λo q=>up _ o D.i2z q) t8 λc o c1 c2 c3 c4 q=>up c o c1 (old c o c1 c2 c3 c4 q)
theorem yd {b1 b2:Bool} {z TI TO i1 i2 l1 l2:Addr} {k1 k2:Nat} {xs ys:Array Value} {a b:Value} {Q:Option Value->Shared->Prop} (hh:A.handled=none) (D:uM z TI TO i1 i2) (O1:gX z TO i1 i2 l1) (O2:gX z TO i1 i2 l2)
  (hz:IsZip s.heap z TI TO .none) (JO:IsPair s.heap TI (.ref i1) (.ref i2)) (JQ:IsPair s.heap TO a b) (h1:bL b1 s.heap i1 l1 k1) (h2:bL b2 s.heap i2 l2 k2) (iR:eL b1 s.heap l1 xs) (d9:eL b2 s.heap l2 ys) (FY:xs[k1]?=none\/ys[k2]?=none)
  (hQ:∀h',(∀c o,c≠z->c≠TO->c≠i1->c≠i2->s.heap.get? c=some o->h'.get? c=some o)->Q none {s with heap:=h'}):wpAny (model prog w) A (pyNext (.ref z)) Q E s:=by
 have hT:s.TypeIs (.ref z) "zip":=⟨_,hz,rfl⟩;unfold pyNext;refine Pr (wpAny_attempt (wpAny_callSpecial?_slot (name:=Str.ofString "__next__") hT F.slot_zip_next (wpAny_call_entry F.slot_zip_next hT F.entry_zip_next ?_ (F.args_zip_next_1 _))));have stop:∀(h':Heap) (e:Addr),(∀c o,c≠z->c≠TO->c≠i1->c≠i2->s.heap.get? c=some o->h'.get? c=some o)->(∃o,h'.get? e=some o/\o.cls= .type "StopIteration")->wpAny (model prog w) A (isInstance (.ref e) (.type "StopIteration")) (λr s'=>r=true/\Q none s') E {s with heap:=h'}:=λh' e kk he=>by obtain⟨o,ho,hc⟩:=he;exact wpAny_isInstance (T:="StopIteration") (b:=true) ⟨o,ho,hc⟩ isSubtype_stop ⟨rfl,hQ _ kk⟩
 refine(show wpAny _ _ (field (.ref z) 2 >>=_) _ _ _ from Pr (wpAny_field hz rfl (x:= .bool false) rfl (show wpAny _ _ (field (.ref z) 3 >>=_) _ _ _ from Pr (wpAny_field hz rfl (x:= .ref TI) rfl (Pr (wpAny_seqItems JO rfl (show wpAny _ _ (Builtin.SmallTypes.ownedTupleIsFree (.ref z) >>=_) _ _ _ from Pr ?_)))))));unfold Builtin.SmallTypes.ownedTupleIsFree;refine Pr (wpAny_field hz rfl (x:= .none) rfl (Pv ?_));simp only[if_true];refine Pr (wpAny_rule (Pr (wpAny_field hz rfl (x:= .ref TO) rfl (Pr (Qg hz (by simp) λg1 z1 e1=>Pr ?_)))))
 replace z1:IsZip g1 z TI TO .ellipsis:=z1
 simp only[List.zipIdx_cons,List.zipIdx_nil,List.forIn_cons,List.forIn_nil];refine Pr (Pr (wpAny_onRaise ?_));show wpAny _ _ (Builtin.SmallTypes.nextOf (.ref i1) >>=_) _ _ _;cases hx:xs[k1]? with
 | none=>
  refine Pr (k9 hh (h1.at λo q=>e1.extBut _ o D.i1z q) (iR.at λo q=>e1.extBut _ o O1.z q) hx λg2 e e2 he=>?_);obtain⟨oe,Cw,FQ⟩:=he;have z2:IsZip g2 z TI TO .ellipsis:=e2 _ _ D.i1z.symm z1;have JY:e≠z:=λx=>by subst x;rw[z2] at Cw;cases Cw;simp at FQ
  refine Qg z2 (by simp) λg3 _ e3=>?_
  refine Pr (wpAny_mono (stop g3 e (λc o c1 _ c3 _ x=>e3.extBut _ _ c1 (e2 _ _ c3 (e1.extBut _ _ c1 x))) ⟨oe,e3.extBut _ _ JY Cw,FQ⟩) (λr s' q=>?_) λ_ _ q=>q);obtain⟨rfl,q⟩:=q;exact Pv q
 | some x=>
  have hy:ys[k2]?=none:=by rcases FY with h | h;rw[hx] at h;cases h;exact h
  refine Pr (fV (h1.at λo q=>e1.extBut _ o D.i1z q) (iR.at λo q=>e1.extBut _ o O1.z q) hx λg2 j1 e2=>Pv ?_);have t2:IsPair g2 TO a b:=e2.extBut _ _ D.TOi1 (e1.extBut _ _ D.TOz JQ);refine Pr (wpAny_seqItems t2 rfl (Pr (wpAny_updateSeq_pair t2 λg3 t3 e3=>Pr (wpAny_letGo (Pv ?_)))));refine Pr (Pr (wpAny_onRaise (show wpAny _ _ (Builtin.SmallTypes.nextOf (.ref i2) >>=_) _ _ _ from Pr (k9 hh (h2.at λo q=>e3.extBut _ o D.TOi2.symm (e2.extBut _ o D.i12.symm (e1.extBut _ o D.i2z q))) (d9.at λo q=>e3.extBut _ o O2.o (e2.extBut _ o O2.a (e1.extBut _ o O2.z q))) hy λg4 e e4 he=>?_))));obtain⟨oe,Cw,FQ⟩:=he;have z4:IsZip g4 z TI TO .ellipsis:=e4 _ _ D.i2z.symm (e3.extBut _ _ D.TOz.symm (e2.extBut _ _ D.i1z.symm z1));have JY:e≠z:=λx=>by subst x;rw[z4] at Cw;cases Cw;simp at FQ
  refine Qg z4 (by simp) λg5 _ e5=>?_
  refine Pr (wpAny_mono (stop g5 e (λc o c1 c2 c3 c4 x=>e5.extBut _ _ c1 (e4 _ _ c4 (e3.extBut _ _ c2 (e2.extBut _ _ c3 (e1.extBut _ _ c1 x))))) ⟨oe,e5.extBut _ _ JY Cw,FQ⟩) (λr s' q=>?_) λ_ _ q=>q);obtain⟨rfl,q⟩:=q;exact Pv q
end
noncomputable def om:Bool->Addr->Obj
 | false,l=>{cls:= .type "list_iterator",data:= .fields #[.ref l,.int 0 0]}
 | true,l=>{cls:= .type "tuple_iterator",data:= .fields #[.ref l,.int 0 0]}
theorem oo:∀{b:Bool} {h:Heap} {i l:Addr},h.get? i=some (om b l)->bL b h i l 0
 | false,_,_,_,e=>⟨_,e,rfl,rfl⟩
 | true,_,_,_,e=>⟨_,e,rfl,rfl⟩
theorem k8 (b:Bool) (l:Addr):(om b l).isFreed=false:=by cases b <;> rfl
noncomputable abbrev IL (h:Heap) (b1:Bool) (l1:Addr):Heap:=h.push (om b1 l1)
noncomputable abbrev IM (h:Heap) (b1 b2:Bool) (l1 l2:Addr):Heap:=(IL h b1 l1).push (om b2 l2)
noncomputable abbrev IP (h:Heap) (b1 b2:Bool) (l1 l2:Addr):Heap:=(IM h b1 b2 l1 l2).push {cls:= .type "tuple",data:= .seq #[.ref h.objs.size,.ref (IL h b1 l1).objs.size]}
noncomputable abbrev IQ (h:Heap) (b1 b2:Bool) (l1 l2:Addr):Heap:=(IP h b1 b2 l1 l2).push {cls:= .type "tuple",data:= .seq #[.none,.none]}
noncomputable abbrev ET (h:Heap) (b1 b2:Bool) (l1 l2:Addr):Heap:=(IQ h b1 b2 l1 l2).push {cls:= .type "zip",data:= .fields #[.none,.bool false,.bool false,.ref (IM h b1 b2 l1 l2).objs.size,.ref (IP h b1 b2 l1 l2).objs.size]}
theorem eL.push {b:Bool} {h:Heap} {l:Addr} {xs:Array Value} (x:eL b h l xs) (o:Obj):eL b (h.push o) l xs:=x.at λ_ e=>Pu _ e
theorem ye (b1 b2:Bool) (l1 l2:Addr) (xs ys:Array Value):
  Meets (Builtin.«zip.__new__» ⟨[.type "zip",.ref l1,.ref l2],[]⟩) (λ_ R s=>eL b1 s.heap l1 xs/\eL b2 s.heap l2 ys/\R (.ok (.ret (.ref (IQ s.heap b1 b2 l1 l2).objs.size))) {s with heap:=ET s.heap b1 b2 l1 l2}):=
 .of_wp λprog w A R s h=>by
  obtain⟨hp,g,d,tk,os⟩:=s;obtain⟨iR,d9,h⟩:=h;have Of:=sub_zip;have Io:=d9.push (om b1 l1);cases b1 <;> cases b2
  ·have k1:Heap.IsList (Shared.heap ⟨hp,g,d,tk,os⟩) l1 xs:=iR;have k2:Heap.IsList (Shared.heap ⟨hp.push {cls:= .type "list_iterator",data:= .fields #[.ref l1,.int 0 0]},g,d,tk,os⟩) l2 ys:=Io
   wp_walk using wpAny_pyIter_list k1,wpAny_pyIter_list k2
   exact⟨_,rfl,h⟩
  ·have k1:Heap.IsList (Shared.heap ⟨hp,g,d,tk,os⟩) l1 xs:=iR;have k2:Heap.IsTuple (Shared.heap ⟨hp.push {cls:= .type "list_iterator",data:= .fields #[.ref l1,.int 0 0]},g,d,tk,os⟩) l2 ys:=Io
   wp_walk using wpAny_pyIter_list k1,wpAny_pyIter_tuple k2
   exact⟨_,rfl,h⟩
  ·have k1:Heap.IsTuple (Shared.heap ⟨hp,g,d,tk,os⟩) l1 xs:=iR;have k2:Heap.IsList (Shared.heap ⟨hp.push {cls:= .type "tuple_iterator",data:= .fields #[.ref l1,.int 0 0]},g,d,tk,os⟩) l2 ys:=Io
   wp_walk using wpAny_pyIter_tuple k1,wpAny_pyIter_list k2
   exact⟨_,rfl,h⟩
  ·have k1:Heap.IsTuple (Shared.heap ⟨hp,g,d,tk,os⟩) l1 xs:=iR;have k2:Heap.IsTuple (Shared.heap ⟨hp.push {cls:= .type "tuple_iterator",data:= .fields #[.ref l1,.int 0 0]},g,d,tk,os⟩) l2 ys:=Io
   wp_walk using wpAny_pyIter_tuple k1,wpAny_pyIter_tuple k2
   exact⟨_,rfl,h⟩
section
variable {prog:Program} {w:World} {A:Around} {E:Value->Shared->Prop} {s:Shared}
theorem sZ {b1 b2:Bool} {l1 l2:Addr} {xs ys:Array Value} {Q:Value->Shared->Prop} (iR:eL b1 s.heap l1 xs) (d9:eL b2 s.heap l2 ys)
  (h:∀h',IsZip h' (s.heap.objs.size + 4) (s.heap.objs.size + 2) (s.heap.objs.size + 3) .none->IsPair h' (s.heap.objs.size + 2) (.ref s.heap.objs.size) (.ref (s.heap.objs.size + 1))->IsPair h' (s.heap.objs.size + 3) .none .none->
   bL b1 h' s.heap.objs.size l1 0->bL b2 h' (s.heap.objs.size + 1) l2 0->(∀c o,s.heap.get? c=some o->h'.get? c=some o)->Q (.ref (s.heap.objs.size + 4)) {s with heap:=h'}):wpAny (model prog w) A (call (.type "zip") [.ref l1,.ref l2]) Q E s:=by
 refine callType_new F.called_zip (by decide) (F.typeCall_zip_2 _ _) (F.newCall_zip_2 _ _) (λobj=>F.args_object_init_3 obj _ _) F.entry_zip_new (ye b1 b2 l1 l2 xs ys) ⟨iR,d9,?_⟩;have y1:(IL s.heap b1 l1).objs.size=s.heap.objs.size + 1:=Qd ..;have y2:(IM s.heap b1 b2 l1 l2).objs.size=s.heap.objs.size + 2:=by rw[Qd,y1]
 have y3:(IP s.heap b1 b2 l1 l2).objs.size=s.heap.objs.size + 3:=by rw[Qd,y2]
 have y4:(IQ s.heap b1 b2 l1 l2).objs.size=s.heap.objs.size + 4:=by rw[Qd,y3]
 have g5:(ET s.heap b1 b2 l1 l2).get? (IQ s.heap b1 b2 l1 l2).objs.size=some _:=PJ _ rfl;have g4:(ET s.heap b1 b2 l1 l2).get? (IP s.heap b1 b2 l1 l2).objs.size=some _:=Pu _ (PJ _ rfl);have g3:(ET s.heap b1 b2 l1 l2).get? (IM s.heap b1 b2 l1 l2).objs.size=some _:=Pu _ (Pu _ (PJ _ rfl));have g2:(ET s.heap b1 b2 l1 l2).get? (IL s.heap b1 l1).objs.size=some _:=Pu _ (Pu _ (Pu _ (PJ _ (k8 b2 l2))));have g1:(ET s.heap b1 b2 l1 l2).get? s.heap.objs.size=some _:=Pu _ (Pu _ (Pu _ (Pu _ (PJ _ (k8 b1 l1)))));show _/\_;rw[y2,y3,y4] at g5;rw[y1,y2] at g3;rw[y3] at g4;rw[y1] at g2;rw[y4];exact⟨⟨_,g5,rfl⟩,h _ g5 g3 g4 (oo g1) (oo g2) λc o x=>Pu _ (Pu _ (Pu _ (Pu _ (Pu _ x))))⟩
end
noncomputable def pf:Bool->List V->HO
 | false,xs=> .lst xs
 | true,xs=> .tup xs
theorem rm {b:Bool} {xs ys:List V} (h:pf b xs=pf b ys):xs=ys:=by
 cases b with
 | false=>injection h
 | true=>injection h
noncomputable def IV (b1 b2:Bool) (l1 l2:Addr):It where
 go:=λi H=>∃xs ys x y,H l1=some (pf b1 xs)/\H l2=some (pf b2 ys)/\xs[i]?=some x/\ys[i]?=some y
 yld:=λi H v H'=>∃p x y,v= .ref p/\H p=none/\H'=upd H p (.tup [x,y])/\∀xs ys,H l1=some (pf b1 xs)->H l2=some (pf b2 ys)->xs[i]?=some x/\ys[i]?=some y
 stop:=λi H=>∃xs ys,H l1=some (pf b1 xs)/\H l2=some (pf b2 ys)/\(xs.length<=i\/ys.length<=i)
theorem fw {X:Cx} {pins:List (Addr×Obj)} {s:Shared} {σ:L2.St} {H:Hp} (I:Inv X pins σ H s) {b:Bool} {l:Addr} {xs:List V} (h:H l=some (pf b xs)):∃its:List Value,au xs its/\eL b s.heap l its.toArray:=by
 cases b with
 | false=>obtain⟨its,r,p,_⟩:=I.list (.inl (.inl h));exact⟨its,r,p.isList⟩
 | true=>obtain⟨its,r,p,_⟩:=I.tuple (.inl (.inl h));exact⟨its,r,p⟩
noncomputable def OW (b1 b2:Bool) (z TI TO i1 i2 l1 l2:Addr) (i:Nat) (h:Heap):Prop:=IsZip h z TI TO .none/\IsPair h TI (.ref i1) (.ref i2)/\(∃a b,IsPair h TO a b)/\bL b1 h i1 l1 i/\bL b2 h i2 l2 i
theorem uq {P:Program} {w:World} {K:PySem.W.Frag} {es:List Expr} {k:Nat} {tp:Pos} {b1 b2:Bool} {z TI TO i1 i2 l1 l2:Addr} (ap:uM z TI TO i1 i2):
  Turn P w K (.Tuple es k tp) (IV b1 b2 l1 l2) [z,TI,TO,i1,i2] z (OW b1 b2 z TI TO i1 i2 l1 l2) where
 mem:=by simp
 obj:=λi h st b hb=>by
  obtain⟨s1,s2,⟨a,b',s3⟩,s4,s5⟩:=st;simp only[PQ,PU,or_false] at hb;rcases hb with rfl | rfl | rfl | rfl | rfl
  ·exact⟨_,s1,λv q=>by cases q⟩
  ·exact⟨_,s2,λv q=>by cases q⟩
  ·exact⟨_,s3,λv q=>by cases q⟩
  ·exact s4.obj
  ·exact s5.obj
 keep:=λi h h' st kk=>by obtain⟨s1,s2,⟨a,b',s3⟩,s4,s5⟩:=st;exact⟨kk z (by simp) _ s1,kk TI (by simp) _ s2,⟨a,b',kk TO (by simp) _ s3⟩,s4.at λo e=>kk i1 (by simp) o e,s5.at λo e=>kk i2 (by simp) o e⟩
 item:=by
  intro X hP hw hK hc i pins s σ H E I hf st hg;subst hP hw hK;obtain⟨xs,ys,x,y,iR,d9,hx,hy⟩:=hg;obtain⟨s1,s2,⟨a,b',s3⟩,s4,s5⟩:=st;obtain⟨fA,r1,p1⟩:=fw I iR;obtain⟨aI,r2,p2⟩:=fw I d9;obtain⟨u1,zy,OG⟩:=r1.get hx;obtain⟨u2,Oi,OJ⟩:=r2.get hy;have ne:∀{l:Addr} {o:HO},H l=some o->∀b∈[z,TI,TO,i1,i2],l≠b:=λ {l o} hl b hb e=>by subst e;rw[(hf l hb).1] at hl;cases hl
  have off:∀{l:Addr} {o:HO},H l=some o->gX z TO i1 i2 l:=λ {l o} hl=>⟨ne hl z (by simp),ne hl TO (by simp),ne hl i1 (by simp),ne hl i2 (by simp)⟩
  refine uv ap (off iR) (off d9) s1 s2 s3 s4 s5 p1 p2 (by simpa using zy) (by simpa using Oi) λh' a1 a2 a3 a4 a5 a7=>⟨_,rfl,?_⟩
  refine wpAny_letOwnedTupleGo_zip (s:={s with heap:=h'}) a1 λh2 c1 c2=>?_
  have ND:s.heap.objs.size≠z:=λe=>by have:=PN s1;rw[<-e] at this;exact Nat.lt_irrefl _ this
  have JP:IsPair h2 TI (.ref i1) (.ref i2):=(c2.2 TI ap.TIz).trans (a7 TI _ ap.TIz ap.TITO ap.TIi1 ap.TIi2 s2);have JN:h2.get? s.heap.objs.size=some {cls:= .type "tuple",data:= .seq #[u1,u2]}:=(c2.2 _ ND).trans a5;have kk:∀b o,b∉[z,TI,TO,i1,i2]->s.heap.get? b=some o->h2.get? b=some o:=λb o hb e=>by simp only[PQ,PU,or_false,not_or] at hb;exact(c2.2 b hb.1).trans (a7 b o hb.1 hb.2.2.1 hb.2.2.2.1 hb.2.2.2.2 e)
  have lt:∀{b:Addr} {o:Obj},s.heap.get? b=some o->b≠s.heap.objs.size:=λe=>Qe (PN e)
  have GC:∀b u,H b=some u->b∉[z,TI,TO,i1,i2]:=λb u e hb=>by rw[(hf b hb).1] at e;cases e
  have ED:H s.heap.objs.size=none:=I.fresh;have I2:Inv X pins σ (upd H s.heap.objs.size (.tup [x,y])) {s with heap:=h2,toks:=s.toks}:=by
   refine I.step (g':=s.gens) (d':=s.drawn) (ch:=[z,TI,TO,i1,i2]) (λb hb=>⟨(hf b hb).2.2.2.1,(hf b hb).2.1,(hf b hb).2.2.2.2.1,(hf b hb).2.2.2.2.2⟩) (λb o _ _ hb e _=>kk b o hb e) (λb o _ _ hb e _=>⟨o.slots,kk b o hb e⟩)
    (λb o hb e n=>by rw[aF (lt e)];exact n) (λb o hb e=>⟨o,kk b o hb e⟩) (λb zs e=>by rw[aF (a6 e ED)];exact e) (λb o u e=>by rw[aF (a6 e ED)];exact e)
    (λb ps e=>⟨#[],by rw[aF (a6 e ED),e];simp⟩) (λm hm=>?_) (λb u e=>?_) I.bare
   ·obtain⟨o,fJ,ep,ho,rr⟩:=hm;exact⟨o,fJ,ep,kk _ o (λhb=>(hf _ hb).2.1 rfl) ho,rr⟩
   ·by_cases hb:b=s.heap.objs.size
    ·subst hb;rw[aM] at e;cases e;exact⟨by show 2<=sizeLine;decide,[u1,u2],.cons OG (.cons OJ .nil),_,JN,rfl,0,rfl,rfl,rfl⟩
    ·rw[aF hb] at e;refine(I.hok b u e).mZ (λc v hc q=>kk c v ?_ q) (λc q=>by rw[aF (a6 q ED)];exact q) λc zs q=>by rw[aF (a6 q ED)];exact q
     rcases hc with rfl | hc
     ·exact GC c u e
     ·exact GC c _ hc
  refine⟨.ref s.heap.objs.size,_,I2,rfl,⟨s.heap.objs.size,x,y,rfl,ED,rfl,λuu IK q1 q2=>?_⟩,⟨c1,JP,⟨u1,u2,(c2.2 TO ap.TOz).trans a2⟩,a3.at λo e=>(c2.2 i1 ap.i1z).trans e,a4.at λo e=>(c2.2 i2 ap.i2z).trans e⟩,λb hb=>?_⟩
  ·rw[iR] at q1;rw[d9] at q2;rw[rm (Option.some.inj q1).symm,rm (Option.some.inj q2).symm];exact⟨hx,hy⟩
  ·rw[aF (λe=>?_)]
   ·exact(hf b hb).1
   ·have q:∃o,s.heap.get? b=some o:=by
     simp only[PQ,PU,or_false] at hb;rcases hb with rfl | rfl | rfl | rfl | rfl
     ·exact⟨_,s1⟩
     ·exact⟨_,s2⟩
     ·exact⟨_,s3⟩
     ·obtain⟨o,e,_⟩:=s4.obj;exact⟨o,e⟩
     ·obtain⟨o,e,_⟩:=s5.obj;exact⟨o,e⟩
    obtain⟨o,q⟩:=q;exact lt q e
 done:=by
  intro X hP hw hK hc i pins s σ H E I hf st hg;subst hP hw hK;obtain⟨xs,ys,iR,d9,FY⟩:=hg;obtain⟨s1,s2,⟨a,b',s3⟩,s4,s5⟩:=st;obtain⟨fA,r1,p1⟩:=fw I iR;obtain⟨aI,r2,p2⟩:=fw I d9;have ne:∀{l:Addr} {o:HO},H l=some o->∀b∈[z,TI,TO,i1,i2],l≠b:=λ {l o} hl b hb e=>by subst e;rw[(hf l hb).1] at hl;cases hl
  have off:∀{l:Addr} {o:HO},H l=some o->gX z TO i1 i2 l:=λ {l o} hl=>⟨ne hl z (by simp),ne hl TO (by simp),ne hl i1 (by simp),ne hl i2 (by simp)⟩
  have e1:=r1.length;have e2:=r2.length;refine yd (I.ok.hd hc) ap (off iR) (off d9) s1 s2 s3 s4 s5 p1 p2 (by simp;lia) λh' kk=>⟨rfl,?_⟩
  have GC:∀b u,H b=some u->b∉[z,TI,TO,i1,i2]:=λb u e hb=>by rw[(hf b hb).1] at e;cases e
  have Gr:∀b o,b∉[z,TI,TO,i1,i2]->s.heap.get? b=some o->h'.get? b=some o:=λb o hb e=>by simp only[PQ,PU,or_false,not_or] at hb;exact kk b o hb.1 hb.2.2.1 hb.2.2.2.1 hb.2.2.2.2 e
  refine I.step (g':=s.gens) (d':=s.drawn) (t':=s.toks) (h':=h') (ch:=[z,TI,TO,i1,i2]) (λb hb=>⟨(hf b hb).2.2.2.1,(hf b hb).2.1,(hf b hb).2.2.2.2.1,(hf b hb).2.2.2.2.2⟩) (λb o _ _ hb e _=>Gr b o hb e) (λb o _ _ hb e _=>⟨o.slots,Gr b o hb e⟩)
   (λb o hb e n=>n) (λb o hb e=>⟨o,Gr b o hb e⟩) (λb zs e=>e) (λb o u e=>e) (λb ps e=>⟨#[],by rw[e];simp⟩) (λm hm=>?_) (λb u e=>?_) I.bare
  ·obtain⟨o,fJ,ep,ho,rr⟩:=hm;exact⟨o,fJ,ep,Gr _ o (λhb=>(hf _ hb).2.1 rfl) ho,rr⟩
  ·refine(I.hok b u e).mZ (λc v hc q=>Gr c v ?_ q) (λc q=>q) λc zs q=>q
   rcases hc with rfl | hc
   ·exact GC c u e
   ·exact GC c _ hc
 self:=λ_ _ _ _ _ st h=>wpAny_pyIter_zip st.1 h
noncomputable def Gg (ta:TA):TI:=λσ H R=>ta σ H λvs H1=>∃b1 b2 l1 l2 xs ys,vs=[.ref l1,.ref l2]/\H1 l1=some (pf b1 xs)/\H1 l2=some (pf b2 ys)/\R (IV b1 b2 l1 l2) H1
theorem Ag {X:Cx} {es:List Expr} {k:Nat} {tp:Pos} {a b:Expr} {ta:TA} {p pos:Pos} (hg:Gl X "zip") (hm:X.mg "zip"=none) (ha:PA X [a,b] ta) (hs:starEach [a,b] X.env=[(false,eval a X.env),(false,eval b X.env)]:=by rfl) (EJ:starEach [b] X.env=[(false,eval b X.env)]:=by rfl):
  PI X (.Tuple es k tp) (.Call (.Name "zip" p) [a,b] [] pos) (Gg ta):=by
 intro pins s σ H R I h;refine Call_ (jN I hg hm boot_zip (PyProof.Rows.callWith_type1 (bH (ha pos pins s σ H _ I h) λus s1 ⟨vs,H1,I1,r1,q1⟩=>?_) (by rw[hs,EJ]) (by rw[EJ];rfl)));obtain⟨b1,b2,l1,l2,xs,ys,e,e1,e2,q⟩:=q1;subst e;obtain⟨u,v,rfl,ru,rv⟩:=r1.two;cases ru;cases rv;obtain⟨fA,_,p1⟩:=fw I1 e1;obtain⟨aI,_,p2⟩:=fw I1 e2;refine sZ p1 p2 λh' g1 g2 g3 g4 g5 kk=>?_
 refine wpAny_pyIter_zip (s:={s1 with heap:=h'}) g1 ?_;have I2:Inv X pins σ H1 {s1 with heap:=h'}:=I1.kept (t':=s1.toks) kk;refine⟨s1.heap.objs.size + 4,[s1.heap.objs.size + 4,s1.heap.objs.size + 2,s1.heap.objs.size + 3,s1.heap.objs.size,s1.heap.objs.size + 1],_,_,H1,rfl,I2,uq (l1:=l1) (l2:=l2) ⟨?_,?_,?_,?_,?_,?_,?_,?_,?_,?_⟩,⟨g1,g2,⟨_,_,g3⟩,g4,g5⟩,λb hb=>?_,q⟩
 iterate 10 (first | (apply Qe;lia) | (apply Nat.ne_of_gt;lia))
 have ko:s1.heap.objs.size<=b:=by simp only[PQ,PU,or_false] at hb;rcases hb with h | h | h | h | h <;> (rw[h];first | exact Nat.le_add_right _ _ | exact PF _)
 exact I1.tD ko (I1.hok.fresh ko)
end Mx
end
section
namespace MxTim
open PySem PySem.W PyProof.Rows
noncomputable def A7:Bool->Keyed->Array Keyed->Nat->Nat->Nat->StateT SortSt Sem (Option Nat):=sortPriv% PySem.Builtin.gallop
theorem Cj (fB:Bool) (k:Keyed) (xs:Array Keyed) (b m h:Nat):A7 fB k xs b m h=(do
 let past (i:Nat):StateT SortSt Sem (Option Bool):=do
  let y<-elem' xs (b + i)
  if fB then lt' y k else return (<-lt' k y).map (!·)
 let mut la:=0
 let mut st:=1
 let mut u:=0
 let mut v:=0
 let some c0<-past h | return none
 if c0 then
  let mx:=m - h
  for _ in [0:m] do
   if st>=mx then break
   let some c1<-past (h + st) | return none
   if !c1 then break
   la:=st
   st:=2 * st + 1
  u:=h + la + 1
  v:=h + min st mx
 else
  let mx:=h + 1
  for _ in [0:m] do
   if st>=mx then break
   let some c1<-past (h - st) | return none
   if c1 then break
   la:=st
   st:=2 * st + 1
  u:=h + 1 - min st mx
  v:=h - la
 for _ in [0:m] do
  if u>=v then break
  let mm:=u + (v - u) / 2
  let some c2<-past mm | return none
  if c2 then u:=mm + 1 else v:=mm
 return some v):=rfl
section
variable {prog:Program} {w:World} {A:Around} {E:Value->Shared->Prop} {κ:SortKind} {s:Shared} {O:KeyOrd} {ky:Keyed->O.α} {Mem:Keyed->Prop}
noncomputable def Tells (prog:Program) (w:World) (A:Around) (κ:SortKind) (s:Shared) (O:KeyOrd) (ky:Keyed->O.α) (Mem:Keyed->Prop):Prop:=
 ∀x y,Mem x->Mem y->∀C:Bool->Shared->Prop,C (O.blt (ky x) (ky y)) s->wpAny (model prog w) A (keyLt' κ x.1 y.1) C (λ_ _=>False) s
theorem oz (T:Tells prog w A κ s O ky Mem) {x y:Keyed} (hx:Mem x) (hy:Mem y) {st:SortSt} (hk:kindOf st=κ) {Q:Option Bool->SortSt->Shared->Prop} (h:Q (some (O.blt (ky x) (ky y))) st s):kasC (model prog w) A E (lt' x y) Q st s:=by rw[lt'_eq];refine PD (kasC_get ?_);rw[hk];refine PD (kasC_lift (wpAny_attempt (wpAny_mono (T x y hx hy (λc s'=>Q (some c) st s') h) (λc s' hc=>?_) λ_ _ hF=>hF.elim)));exact PK hc
theorem aQ {xs:Array Keyed} {i:Nat} {x:Keyed} (hx:xs[i]?=some x) {st:SortSt} {Q:Keyed->SortSt->Shared->Prop} (h:Q x st s):kasC (model prog w) A E (elem' xs i) Q st s:=by rw[elem'_eq,hx];exact PK h
theorem cD {β:Type} {l:List Nat} {b0:β} {f:Nat->β->StateT SortSt Sem (ForInStep β)} {Q:β->SortSt->Shared->Prop} (Inv:Nat->β->SortSt->Prop) {cY:SortSt} (h0:Inv 0 b0 cY)
  (step:∀j b st x,j < l.length->Inv j b st->kasC (model prog w) A E (f x b) (λr aj s'=>s'=s/\match r with | .done b'=>Q b' aj s | .yield b'=>Inv (j + 1) b' aj) st s)
  (fin:∀b st,Inv l.length b st->Q b st s):kasC (model prog w) A E (forIn l b0 f) Q cY s:=by
 have go:∀(l':List Nat) (j:Nat) (b:β) (st:SortSt),j + l'.length=l.length->Inv j b st->kasC (model prog w) A E (forIn l' b f) Q st s:=by
  intro l'
  induction l' with
  | nil=>intro j b st hj hI;simp only[List.length_nil,Nat.add_zero] at hj;subst hj;exact kasC_nil (fin b st hI)
  | cons x l' ih=>
   intro j b st hj hI;simp only[P0] at hj;refine kasC_cons (wpAny_mono (step j b st x (by lia) hI) (λr s' h'=>?_) λ_ _ e=>e);obtain⟨r,aj⟩:=r;obtain⟨rfl,h'⟩:=h';cases r with
   | done b'=>exact h'
   | yield b'=>exact ih (j + 1) b' aj (by lia) h'
 exact go l 0 b0 cY (by lia) h0
theorem bE {α:Type} {m:StateT SortSt Sem α} {Q Q':α->SortSt->Shared->Prop} {st:SortSt} (h:kasC (model prog w) A E m Q st s) (hq:∀a aj s',Q a aj s'->Q' a aj s'):kasC (model prog w) A E m Q' st s:=by unfold kasC at h ⊢;exact wpAny_mono h (λr s' h'=>hq _ _ _ h') λ_ _ e=>e
noncomputable def dm (O:KeyOrd) (ky:Keyed->O.α) (fB:Bool) (k:Keyed) (g:Nat->Keyed) (i:Nat):Bool:=if fB=true then O.blt (ky (g i)) (ky k) else !O.blt (ky k) (ky (g i))
theorem g9 (T:Tells prog w A κ s O ky Mem) {fB:Bool} {k:Keyed} {xs:Array Keyed} {b m h:Nat} (g:Nat->Keyed) (hg:∀i,i < m->xs[b + i]?=some (g i)) (hm:∀i,i < m->Mem (g i)) (hk:Mem k) (hh:h < m)
  (mono:∀i j,i<=j->j < m->dm O ky fB k g j=true->dm O ky fB k g i=true) {st:SortSt} (hs:kindOf st=κ) {Q:Option Nat->SortSt->Shared->Prop}
  (q:∀v,v<=m->(∀i,i < v->dm O ky fB k g i=true)->(∀i,v<=i->i < m->dm O ky fB k g i=false)->Q (some v) st s):kasC (model prog w) A E (A7 fB k xs b m h) Q st s:=by
 have past:∀(i:Nat) {R:Option Bool->SortSt->Shared->Prop},i < m->R (some (dm O ky fB k g i)) st s->kasC (model prog w) A E (do
   let y<-elem' xs (b + i)
   if fB=true then lt' y k else do
    let r<-lt' k y
    pure (r.map (!·))) R st s:=λi R hi hR=>by
  refine PD (aQ (hg i hi) ?_);unfold dm at hR;cases fB with
  | true=>rw[if_pos rfl] at hR ⊢;exact oz T (hm i hi) hk hs hR
  | false=>rw[if_neg (by simp)] at hR ⊢;exact PD (oz T hk (hm i hi) hs (PK hR))
 have rV:∀i j,i<=j->j < m->dm O ky fB k g i=false->dm O ky fB k g j=false:=λi j fm hj hi=>by
  cases c:dm O ky fB k g j with
  | false=>rfl
  | true=>rw[mono i j fm hj c] at hi;cases hi
 rw[Cj];dsimp only;refine PD (past h hh ?_);dsimp only;cases c0:dm O ky fB k g h with
 | true=>
  rw[if_pos rfl];refine PD (bE (Q:=λr aj s'=>st=aj/\s=s'/\∃la sp,r=(none,la,sp)/\h + la < m/\la < sp/\dm O ky fB k g (h + la)=true/\∀i,h + min sp (m - h)<=i->i < m->dm O ky fB k g i=false) (kasC_range (cD (λj r aj=>st=aj/\∃la sp,r=(none,la,sp)/\h + la < m/\la < sp/\j + 1<=sp/\dm O ky fB k g (h + la)=true) ⟨rfl,0,1,rfl,by lia,by lia,by lia,c0⟩ (λj r aj x hj hI=>?_) (λr aj hI=>?_))) (λr aj s' hI=>?_))
  ·obtain⟨rfl,la,sp,rfl,rh,nz,F0,hb⟩:=hI;dsimp only;by_cases c:sp>=m - h
   ·rw[if_pos c];exact PK ⟨rfl,rfl,rfl,la,sp,rfl,rh,nz,hb,λi hi him=>by lia⟩
   ·rw[if_neg c];refine PD (past _ (by lia) ?_);dsimp only;cases cb:dm O ky fB k g (h + sp) with
    | true=>rw[if_neg (by simp)];exact PK ⟨rfl,rfl,_,_,rfl,by lia,by lia,by lia,cb⟩
    | false=>rw[if_pos (by simp)];exact PK ⟨rfl,rfl,rfl,la,sp,rfl,rh,nz,hb,λi hi him=>rV (h + sp) i (by lia) him cb⟩
  ·obtain⟨rfl,la,sp,rfl,rh,nz,F0,hb⟩:=hI;rw[List.length_range'] at F0;exact⟨rfl,rfl,la,sp,rfl,rh,nz,hb,λi hi him=>by lia⟩
  obtain⟨rfl,rfl,la,sp,rfl,rh,nz,hb,yv⟩:=hI;have mC:∀i,i < h + la + 1->dm O ky fB k g i=true:=λi hi=>mono i _ (by lia) rh hb
  dsimp only;refine PD (kasC_range (cD (λj r aj=>st=aj/\∃u v,r=(none,u,v)/\v<=m/\u<=v/\v - u + j<=m/\(∀i,i < u->dm O ky fB k g i=true)/\(∀i,v<=i->i < m->dm O ky fB k g i=false)) ⟨rfl,_,_,rfl,by lia,by lia,by lia,mC,yv⟩ (λj r aj x hj hI=>?_) (λr aj hI=>?_)))
  ·obtain⟨rfl,u,v,rfl,hv,Kj,F2,h1,h2⟩:=hI;dsimp only;by_cases c:u>=v
   ·rw[if_pos c];have e:u=v:=by lia
    subst e;exact PK ⟨rfl,PK (q u hv h1 h2)⟩
   ·rw[if_neg c];have N1:u + (v - u) / 2 < v:=by lia
    refine PD (past _ (by lia) ?_);dsimp only;cases cb:dm O ky fB k g (u + (v - u) / 2) with
    | true=>rw[if_pos rfl];exact PK ⟨rfl,rfl,_,_,rfl,hv,by lia,by lia,λi hi=>mono i _ (by lia) (by lia) cb,h2⟩
    | false=>rw[if_neg (by simp)];exact PK ⟨rfl,rfl,_,_,rfl,by lia,by lia,by lia,h1,λi hi him=>rV _ i hi him cb⟩
  ·obtain⟨rfl,u,v,rfl,hv,Kj,F2,h1,h2⟩:=hI;have e:u=v:=by
    rw[List.length_range'] at F2
    lia
   subst e;exact PK (q u hv h1 h2)
 | false=>
  rw[if_neg (by simp)];refine PD (bE (Q:=λr aj s'=>st=aj/\s=s'/\∃la sp,r=(none,la,sp)/\la<=h/\la < sp/\dm O ky fB k g (h - la)=false/\∀i,i < h + 1 - min sp (h + 1)->dm O ky fB k g i=true) (kasC_range (cD (λj r aj=>st=aj/\∃la sp,r=(none,la,sp)/\la<=h/\la < sp/\j + 1<=sp/\dm O ky fB k g (h - la)=false) ⟨rfl,0,1,rfl,by lia,by lia,by lia,c0⟩ (λj r aj x hj hI=>?_) (λr aj hI=>?_))) (λr aj s' hI=>?_))
  ·obtain⟨rfl,la,sp,rfl,rh,nz,F0,hb⟩:=hI;dsimp only;by_cases c:sp>=h + 1
   ·rw[if_pos c];exact PK ⟨rfl,rfl,rfl,la,sp,rfl,rh,nz,hb,λi hi=>by lia⟩
   ·rw[if_neg c];refine PD (past _ (by lia) ?_);dsimp only;cases cb:dm O ky fB k g (h - sp) with
    | true=>rw[if_pos rfl];exact PK ⟨rfl,rfl,rfl,la,sp,rfl,rh,nz,hb,λi hi=>mono i (h - sp) (by lia) (by lia) cb⟩
    | false=>rw[if_neg (by simp)];exact PK ⟨rfl,rfl,_,_,rfl,by lia,by lia,by lia,cb⟩
  ·obtain⟨rfl,la,sp,rfl,rh,nz,F0,hb⟩:=hI;rw[List.length_range'] at F0;exact⟨rfl,rfl,la,sp,rfl,rh,nz,hb,λi hi=>by lia⟩
  obtain⟨rfl,rfl,la,sp,rfl,rh,nz,hb,mC⟩:=hI;have yv:∀i,h - la<=i->i < m->dm O ky fB k g i=false:=λi hi him=>rV (h - la) i (by lia) him hb
  dsimp only;refine PD (kasC_range (cD (λj r aj=>st=aj/\∃u v,r=(none,u,v)/\v<=m/\u<=v/\v - u + j<=m/\(∀i,i < u->dm O ky fB k g i=true)/\(∀i,v<=i->i < m->dm O ky fB k g i=false)) ⟨rfl,_,_,rfl,by lia,by lia,by lia,mC,yv⟩ (λj r aj x hj hI=>?_) (λr aj hI=>?_)))
  ·obtain⟨rfl,u,v,rfl,hv,Kj,F2,h1,h2⟩:=hI;dsimp only;by_cases c:u>=v
   ·rw[if_pos c];have e:u=v:=by lia
    subst e;exact PK ⟨rfl,PK (q u hv h1 h2)⟩
   ·rw[if_neg c];have N1:u + (v - u) / 2 < v:=by lia
    refine PD (past _ (by lia) ?_);dsimp only;cases cb:dm O ky fB k g (u + (v - u) / 2) with
    | true=>rw[if_pos rfl];exact PK ⟨rfl,rfl,_,_,rfl,hv,by lia,by lia,λi hi=>mono i _ (by lia) (by lia) cb,h2⟩
    | false=>rw[if_neg (by simp)];exact PK ⟨rfl,rfl,_,_,rfl,by lia,by lia,by lia,h1,λi hi him=>rV _ i hi him cb⟩
  ·obtain⟨rfl,u,v,rfl,hv,Kj,F2,h1,h2⟩:=hI;have e:u=v:=by
    rw[List.length_range'] at F2
    lia
   subst e;exact PK (q u hv h1 h2)
end
section
variable {O:KeyOrd} {ky:Keyed->O.α}
noncomputable def le (O:KeyOrd) (ky:Keyed->O.α) (x y:Keyed):Prop:=O.kle (ky x) (ky y)
noncomputable def gp (O:KeyOrd) (ky:Keyed->O.α) (l:List Keyed):Prop:=l.Pairwise (le O ky)
structure MI (O:KeyOrd) (ky:Keyed->O.α) (la lb out:List Keyed) (i j:Nat):Prop where
 p:out.Perm (la.take i++lb.take j)
 s:gp O ky out
 a:∀x∈out,∀y∈la.drop i,le O ky x y
 b:∀x∈out,∀y∈lb.drop j,le O ky x y
theorem cv {l:List Keyed} {i k:Nat}:l.drop i=(l.drop i).take k++l.drop (i + k):=by rw[<-List.drop_drop,List.take_append_drop]
theorem gd {l:List Keyed} {i k:Nat}:l.take (i + k)=l.take i++(l.drop i).take k:=by rw[List.take_add]
theorem MI.nJ {la lb out:List Keyed} {i j k:Nat} (h:MI O ky la lb out i j) (sa:gp O ky la) (hk:∀x∈(la.drop i).take k,∀y∈lb.drop j,le O ky x y):MI O ky la lb (out++(la.drop i).take k) (i + k) j:=by
 have sd:gp O ky (la.drop i):=sa.sublist (List.drop_sublist _ _);rw[cv (k:=k)] at sd;obtain⟨s1,s2,s3⟩:=List.pairwise_append.mp sd;have C1:∀y∈(la.drop i).take k,y∈la.drop i:=λy hy=>List.mem_of_mem_take hy
 have tV:∀y∈la.drop (i + k),y∈la.drop i:=λy hy=>by rw[cv (k:=k)];exact Qf _ hy
 refine⟨?_,List.pairwise_append.mpr ⟨h.s,s1,λx hx y hy=>h.a x hx y (C1 y hy)⟩,λx hx y hy=>?_,λx hx y hy=>?_⟩
 ·rw[gd];refine(h.p.append_right _).trans ?_;rw[PV,PV];exact List.Perm.append_left _ List.perm_append_comm
 ·rcases P5.mp hx with hx | hx
  ·exact h.a x hx y (tV y hy)
  ·exact s3 x hx y hy
 ·rcases P5.mp hx with hx | hx
  ·exact h.b x hx y hy
  ·exact hk x hx y hy
theorem MI.nK {la lb out:List Keyed} {i j k:Nat} (h:MI O ky la lb out i j) (sb:gp O ky lb) (hk:∀x∈(lb.drop j).take k,∀y∈la.drop i,le O ky x y):MI O ky la lb (out++(lb.drop j).take k) i (j + k):=by
 have sd:gp O ky (lb.drop j):=sb.sublist (List.drop_sublist _ _);rw[cv (k:=k)] at sd;obtain⟨s1,s2,s3⟩:=List.pairwise_append.mp sd;have C1:∀y∈(lb.drop j).take k,y∈lb.drop j:=λy hy=>List.mem_of_mem_take hy
 have tV:∀y∈lb.drop (j + k),y∈lb.drop j:=λy hy=>by rw[cv (k:=k)];exact Qf _ hy
 refine⟨?_,List.pairwise_append.mpr ⟨h.s,s1,λx hx y hy=>h.b x hx y (C1 y hy)⟩,λx hx y hy=>?_,λx hx y hy=>?_⟩
 ·rw[gd];refine(h.p.append_right _).trans ?_;rw[PV]
 ·rcases P5.mp hx with hx | hx
  ·exact h.a x hx y hy
  ·exact hk x hx y hy
 ·rcases P5.mp hx with hx | hx
  ·exact h.b x hx y (tV y hy)
  ·exact s3 x hx y hy
noncomputable def ph (O:KeyOrd) (ky:Keyed->O.α) (la lb out:List Keyed):Prop:=out.Perm (la++lb)/\gp O ky out
theorem MI.qT {la lb out:List Keyed} {i j:Nat} (h:MI O ky la lb out i j) (sa:gp O ky la) (hj:lb.length<=j):ph O ky la lb (out++la.drop i++lb.drop j):=by have e:lb.drop j=[]:=List.drop_of_length_le hj;have e2:lb.take j=lb:=List.take_of_length_le hj;rw[e,Qn];refine⟨?_,List.pairwise_append.mpr ⟨h.s,sa.sublist (List.drop_sublist _ _),h.a⟩⟩;refine(h.p.append_right _).trans ?_;rw[e2,PV];refine(List.Perm.append_left _ List.perm_append_comm).trans ?_;rw[<-PV,List.take_append_drop]
theorem MI.Fp {la lb out:List Keyed} {i j:Nat} (h:MI O ky la lb out i j) (sb:gp O ky lb) (hi:la.length<=i):ph O ky la lb (out++la.drop i++lb.drop j):=by have e:la.drop i=[]:=List.drop_of_length_le hi;have e2:la.take i=la:=List.take_of_length_le hi;rw[e,Qn];refine⟨?_,List.pairwise_append.mpr ⟨h.s,sb.sublist (List.drop_sublist _ _),h.b⟩⟩;refine(h.p.append_right _).trans ?_;rw[e2,PV,List.take_append_drop]
theorem MI.rM {la lb out:List Keyed} {i j:Nat} (h:MI O ky la lb out i j) (sa:gp O ky la) (sb:gp O ky lb) (hl:∀x∈lb.drop j,∀y∈la.drop i,le O ky x y):ph O ky la lb (out++lb.drop j++la.drop i):=by
 refine⟨?_,List.pairwise_append.mpr ⟨List.pairwise_append.mpr ⟨h.s,sb.sublist (List.drop_sublist _ _),h.b⟩,sa.sublist (List.drop_sublist _ _),λx hx y hy=>?_⟩⟩
 ·refine((h.p.append_right _).append_right _).trans ?_;rw[PV (la.take i),List.take_append_drop];refine(List.perm_append_comm).trans ?_;rw[<-PV];refine(List.Perm.append_right _ List.perm_append_comm).trans ?_;rw[List.take_append_drop]
 ·rcases P5.mp hx with hx | hx
  ·exact h.a x hx y hy
  ·exact hl x hx y hy
theorem MI.start {la lb:List Keyed}:MI O ky la lb [] 0 0:=⟨by simp,List.Pairwise.nil,λx hx=>absurd hx (by simp),λx hx=>absurd hx (by simp)⟩
end
noncomputable def C3:Array Keyed->Array Keyed->StateT SortSt Sem (Array Keyed):=sortPriv% PySem.Builtin.mergeLo
noncomputable def setG:Nat->StateT SortSt Sem Unit:=sortPriv% PySem.Builtin.setMinGallop
noncomputable abbrev GS:=Option (Array Keyed)×Array Keyed×Nat×Nat×Nat×Nat×Nat
noncomputable abbrev SS:=Option (Array Keyed)×Array Keyed×Nat×Nat×Nat×Nat
noncomputable abbrev OS:=Option (Array Keyed)×Array Keyed×Nat×Nat×Nat
noncomputable def yA (x y o:Array Keyed) (i j:Nat):Array Keyed:=o++x.extract i x.size++y.extract j y.size
noncomputable def uf (x y o:Array Keyed) (i j:Nat):Array Keyed:=o++y.extract j y.size++x.extract i x.size
noncomputable def Im (x y o:Array Keyed) (i j mg ca cb:Nat):StateT SortSt Sem (ForInStep GS):=do
 let e<-elem' x i
 if (i + 1 + 1==x.size)=true then pure (.done (some (uf x y (o.push e) (i + 1) j),o.push e,i + 1,j,mg,ca,cb))
 else if (decide (ca < 7)&&decide (cb < 7))=true then pure (.done (none,o.push e,i + 1,j,mg,ca,cb))
 else pure (.yield (none,o.push e,i + 1,j,mg,ca,cb))
noncomputable def Il (x y o:Array Keyed) (i j mg ca pd:Nat):StateT SortSt Sem (ForInStep GS):=do
 let e<-elem' y j
 if (j + 1==y.size)=true then pure (.done (some (yA x y (o.push e) i (j + 1)),o.push e,i,j + 1,mg,ca,pd))
 else do
  let f<-elem' x i
  let r<-A7 true f y (j + 1) (y.size - (j + 1)) 0
  match r with
  | some k=>
   if k > 0 then
    if (j + 1 + k==y.size)=true then pure (.done (some (yA x y (o.push e++y.extract (j + 1) (j + 1 + k)) i (j + 1 + k)),o.push e++y.extract (j + 1) (j + 1 + k),i,j + 1 + k,mg,ca,k))
    else Im x y (o.push e++y.extract (j + 1) (j + 1 + k)) i (j + 1 + k) mg ca k
   else Im x y (o.push e) i (j + 1) mg ca k
  | _=>pure (.done (some (yA x y (o.push e) i (j + 1)),o.push e,i,j + 1,mg,ca,pd))
noncomputable def Ik (x y o:Array Keyed) (i j mg Jn pd:Nat):StateT SortSt Sem (ForInStep GS):=do
 setG mg
 let e<-elem' y j
 let r<-A7 false e x i (x.size - i) 0
 match r with
 | some k=>
  if k > 0 then
   if (i + k + 1==x.size)=true then pure (.done (some (uf x y (o++x.extract i (i + k)) (i + k) j),o++x.extract i (i + k),i + k,j,mg,k,pd))
   else if (i + k==x.size)=true then pure (.done (some (yA x y (o++x.extract i (i + k)) (i + k) j),o++x.extract i (i + k),i + k,j,mg,k,pd))
   else Il x y (o++x.extract i (i + k)) (i + k) j mg k pd
  else Il x y o i j mg k pd
 | _=>pure (.done (some (yA x y o i j),o,i,j,mg,Jn,pd))
noncomputable def EM (x y:Array Keyed) (mg:Nat) (r:SS):StateT SortSt Sem (ForInStep SS):=do
 let e<-elem' y r.2.2.2.1
 let f<-elem' x r.2.2.1
 let c<-lt' e f
 match c with
 | some yw=>
  if yw=true then do
   let e<-elem' y r.2.2.2.1
   if (r.2.2.2.1 + 1==y.size)=true then pure (.done (some (yA x y (r.2.1.push e) r.2.2.1 (r.2.2.2.1 + 1)),r.2.1.push e,r.2.2.1,r.2.2.2.1 + 1,0,r.2.2.2.2.2 + 1))
   else if r.2.2.2.2.2 + 1>=mg then pure (.done (none,r.2.1.push e,r.2.2.1,r.2.2.2.1 + 1,0,r.2.2.2.2.2 + 1))
   else pure (.yield (none,r.2.1.push e,r.2.2.1,r.2.2.2.1 + 1,0,r.2.2.2.2.2 + 1))
  else do
   let f<-elem' x r.2.2.1
   if (r.2.2.1 + 1 + 1==x.size)=true then pure (.done (some (uf x y (r.2.1.push f) (r.2.2.1 + 1) r.2.2.2.1),r.2.1.push f,r.2.2.1 + 1,r.2.2.2.1,r.2.2.2.2.1 + 1,0))
   else if r.2.2.2.2.1 + 1>=mg then pure (.done (none,r.2.1.push f,r.2.2.1 + 1,r.2.2.2.1,r.2.2.2.2.1 + 1,0))
   else pure (.yield (none,r.2.1.push f,r.2.2.1 + 1,r.2.2.2.1,r.2.2.2.2.1 + 1,0))
 | _=>pure (.done (some (yA x y r.2.1 r.2.2.1 r.2.2.2.1),r.2.1,r.2.2.1,r.2.2.2.1,r.2.2.2.2.1,r.2.2.2.2.2))
noncomputable def Do (x y:Array Keyed) (r:OS):StateT SortSt Sem (ForInStep OS):=do
 let a<-forIn [:x.size + y.size] ((none,r.2.1,r.2.2.1,r.2.2.2.1,0,0):SS) λ_ a=>EM x y r.2.2.2.2 a
 match a.1 with
 | some v=>pure (.done (some v,a.2.1,a.2.2.1,a.2.2.2.1,r.2.2.2.2))
 | none=>do
  rule "list.sort.gallop"
  let b<-forIn [:x.size + y.size] ((none,a.2.1,a.2.2.1,a.2.2.2.1,r.2.2.2.2 + 1,a.2.2.2.2.1,a.2.2.2.2.2):GS) λ_ b=>
   if b.2.2.2.2.1 > 1 then Ik x y b.2.1 b.2.2.1 b.2.2.2.1 (b.2.2.2.2.1 - 1) b.2.2.2.2.2.1 b.2.2.2.2.2.2 else Ik x y b.2.1 b.2.2.1 b.2.2.2.1 b.2.2.2.2.1 b.2.2.2.2.2.1 b.2.2.2.2.2.2
  match b.1 with
  | some v=>pure (.done (some v,b.2.1,b.2.2.1,b.2.2.2.1,b.2.2.2.2.1))
  | none=>do
   setG (b.2.2.2.2.1 + 1)
   pure (.yield (none,b.2.1,b.2.2.1,b.2.2.2.1,b.2.2.2.2.1 + 1))
noncomputable def Mj (x y:Array Keyed):StateT SortSt Sem (Array Keyed):=do
 rule "list.sort.merge-lo"
 let e<-elem' y 0
 if (1==y.size)=true then pure (yA x y #[e] 0 1)
 else if (0 + 1==x.size)=true then pure (uf x y #[e] 0 1)
 else do
  let st<-get
  let r<-forIn [:x.size + y.size] ((none,#[e],0,1,gallopOf st):OS) λ_ r=>Do x y r
  match r.1 with
  | some a=>pure a
  | none=>unsupported "internal:list.sort.merge-bound"
theorem zQ (x y:Array Keyed):C3 x y=Mj x y:=by kernel_rfl
theorem i6 (x:Array Keyed) (i:Nat):(x.extract i x.size).toList=x.toList.drop i:=by rw[Array.toList_extract];show (x.toList.drop i).take (x.size - i)=_;exact List.take_of_length_le (by rw[List.length_drop];simp)
theorem jD (x:Array Keyed) (i k:Nat):(x.extract i (i + k)).toList=(x.toList.drop i).take k:=by rw[Array.toList_extract];show (x.toList.drop i).take (i + k - i)=_;rw[Nat.add_sub_cancel_left]
theorem eX (x y o:Array Keyed) (i j:Nat):(yA x y o i j).toList=o.toList++x.toList.drop i++y.toList.drop j:=by unfold yA;rw[Array.toList_append,Array.toList_append,i6,i6]
theorem fv (x y o:Array Keyed) (i j:Nat):(uf x y o i j).toList=o.toList++y.toList.drop j++x.toList.drop i:=by unfold uf;rw[Array.toList_append,Array.toList_append,i6,i6]
theorem aB {x:Array Keyed} {i:Nat} (h:i < x.size):x[i]?=some (kas_item x i):=by unfold kas_item;simp[Array.getD,h]
theorem take_one {x:Array Keyed} {i:Nat} (h:i < x.size):(x.toList.drop i).take 1=[kas_item x i]:=by have e:x.toList.drop i=x.toList[i]'(by simpa using h)::x.toList.drop (i + 1):=List.drop_eq_getElem_cons (by simpa using h);rw[e];unfold kas_item;simp[Array.getD,h]
theorem fu {x o:Array Keyed} {i:Nat} (h:i < x.size):(o.push (kas_item x i)).toList=o.toList++(x.toList.drop i).take 1:=by rw[take_one h];simp
section
variable {O:KeyOrd} {ky:Keyed->O.α} {Mem:Keyed->Prop}
theorem cc {x:Array Keyed} (sx:gp O ky x.toList) {i j:Nat} (fm:i<=j) (hj:j < x.size):le O ky (kas_item x i) (kas_item x j):=by
 have e:∀k,(h:k < x.size)->kas_item x k=x.toList[k]'(by simpa using h):=λk h=>by unfold kas_item;simp[Array.getD,h]
 rw[e i (by lia),e j hj];by_cases c:i=j
 ·subst c;exact KeyOrd.kle_refl _
 ·exact List.pairwise_iff_getElem.mp sx i j (by simpa using (show i < x.size by lia)) (by simpa using hj) (by lia)
theorem bY {x:Array Keyed} {i:Nat} {e:Keyed} (h:e∈x.toList.drop i):∃k,i<=k/\k < x.size/\e=kas_item x k:=by
 obtain⟨k,hk,rfl⟩:=List.getElem_of_mem h;rw[List.length_drop] at hk;have vZ:i + k < x.size:=by simp at hk;lia
 refine⟨i + k,by lia,vZ,?_⟩;rw[List.getElem_drop];unfold kas_item;simp[Array.getD,vZ]
theorem aW {x:Array Keyed} {i n:Nat} {e:Keyed} (h:e∈(x.toList.drop i).take n):∃k,i<=k/\k < i + n/\k < x.size/\e=kas_item x k:=by
 obtain⟨k,hk,rfl⟩:=List.getElem_of_mem h;rw[List.length_take,List.length_drop] at hk;have vZ:i + k < x.size:=by simp at hk;lia
 refine⟨i + k,by lia,by lia,vZ,?_⟩;rw[List.getElem_take,List.getElem_drop];unfold kas_item;simp[Array.getD,vZ]
structure MP (O:KeyOrd) (ky:Keyed->O.α) (Mem:Keyed->Prop) (x y:Array Keyed):Prop where
 sa:gp O ky x.toList
 sb:gp O ky y.toList
 ma:∀i,i < x.size->Mem (kas_item x i)
 mb:∀i,i < y.size->Mem (kas_item y i)
 pa:1<=x.size
 pb:1<=y.size
 first:O.blt (ky (kas_item y 0)) (ky (kas_item x 0))=true
 last:∀j,j < y.size->O.blt (ky (kas_item y j)) (ky (kas_item x (x.size - 1)))=true
theorem MP.lst {x y:Array Keyed} (h:MP O ky Mem x y) {i j:Nat} (hi:i + 1=x.size):∀e∈y.toList.drop j,∀f∈x.toList.drop i,le O ky e f:=λe he f hf=>by
 obtain⟨k,_,k2,rfl⟩:=bY he;obtain⟨l,l1,l2,rfl⟩:=bY hf;have:l=x.size - 1:=by lia
 subst this;exact KeyOrd.kle_of_klt (h.last k k2)
structure yH (O:KeyOrd) (ky:Keyed->O.α) (x y o:Array Keyed) (i j:Nat):Prop where
 m:MI O ky x.toList y.toList o.toList i j
 i1:i + 1 < x.size
 j1:j < y.size
noncomputable def GP (O:KeyOrd) (ky:Keyed->O.α) (x y:Array Keyed) (n:Nat) (v:Option (Array Keyed)) (o:Array Keyed) (i j:Nat):Prop:=(∃a,v=some a/\ph O ky x.toList y.toList a.toList)\/(v=none/\yH O ky x y o i j/\n<=i + j)
noncomputable def SI (cY st:SortSt):Prop:=kindOf st=kindOf cY/\arrOf st=arrOf cY/\pendingOf st=pendingOf cY/\failedOf st=failedOf cY
theorem SI.refl (st:SortSt):SI st st:=⟨rfl,rfl,rfl,rfl⟩
theorem SI.trans {a b c:SortSt} (h:SI a b) (g:SI b c):SI a c:=⟨g.1.trans h.1,g.2.1.trans h.2.1,g.2.2.1.trans h.2.2.1,g.2.2.2.trans h.2.2.2⟩
variable {prog:Program} {w:World} {A:Around} {E:Value->Shared->Prop} {κ:SortKind} {s:Shared}
theorem jk {g:Nat} {st:SortSt} {Q:Unit->SortSt->Shared->Prop} (h:∀aj,SI st aj->Q () aj s):kasC (model prog w) A E (setG g) Q st s:=by
 have e:setG g=modify λt=>SortSt.mk' (kindOf t) (arrOf t) (pendingOf t) g (failedOf t):=by kernel_rfl
 rw[e];exact kasC_modify (h _ ⟨rfl,rfl,rfl,rfl⟩)
noncomputable def uG (O:KeyOrd) (ky:Keyed->O.α) (x y:Array Keyed) (n:Nat):ForInStep GS->Prop
 | .done r=>GP O ky x y n r.1 r.2.1 r.2.2.1 r.2.2.2.1
 | .yield r=>r.1=none/\GP O ky x y n r.1 r.2.1 r.2.2.1 r.2.2.2.1
theorem vP {x y o:Array Keyed} (M:MP O ky Mem x y) {i j mg ca cb n:Nat} (h:MI O ky x.toList y.toList o.toList i j) (hi:i + 1 < x.size) (hj:j < y.size) (hk:∀l,j<=l->l < y.size->le O ky (kas_item x i) (kas_item y l)) (hn:n<=i + 1 + j) {st:SortSt} {Q:ForInStep GS->SortSt->Shared->Prop}
  (q:∀r,uG O ky x y n r->Q r st s):kasC (model prog w) A E (Im x y o i j mg ca cb) Q st s:=by
 unfold Im;refine PD (aQ (aB (by lia)) ?_);have m1:=h.nJ (k:=1) M.sa (λe he f hf=>by
  obtain⟨a,a1,a2,a3,rfl⟩:=aW he;obtain⟨b,b1,b2,rfl⟩:=bY hf;have:a=i:=by lia
  subst this;exact hk b b1 b2)
 rw[<-fu (x:=x) (by lia)] at m1;by_cases c:(i + 1 + 1==x.size)=true
 ·rw[if_pos c];have c':i + 1 + 1=x.size:=by simpa using c
  refine PK (q _ (.inl ⟨_,rfl,?_⟩));rw[fv];exact m1.rM M.sa M.sb (M.lst c')
 ·rw[if_neg c];have c':¬i + 1 + 1=x.size:=by simpa using c
  have g:GP O ky x y n none (o.push (kas_item x i)) (i + 1) j:= .inr ⟨rfl,⟨m1,by lia,hj⟩,by lia⟩;by_cases d:(decide (ca < 7)&&decide (cb < 7))=true
  ·rw[if_pos d];exact PK (q _ g)
  ·rw[if_neg d];exact PK (q _ ⟨rfl,g⟩)
theorem vO (T:Tells prog w A κ s O ky Mem) {x y o:Array Keyed} (M:MP O ky Mem x y) {i j mg ca cb n:Nat} (h:MI O ky x.toList y.toList o.toList i j) (hi:i + 1 < x.size) (hj:j < y.size) (hk:∀l,i<=l->l < x.size->le O ky (kas_item y j) (kas_item x l)) (hn:n<=i + j + 1) {st:SortSt} (hs:kindOf st=κ)
  {Q:ForInStep GS->SortSt->Shared->Prop} (q:∀r,uG O ky x y n r->Q r st s):kasC (model prog w) A E (Il x y o i j mg ca cb) Q st s:=by
 unfold Il;refine PD (aQ (aB hj) ?_);have m1:=h.nK (k:=1) M.sb (λe he f hf=>by
  obtain⟨a,a1,a2,a3,rfl⟩:=aW he;obtain⟨b,b1,b2,rfl⟩:=bY hf;have:a=j:=by lia
  subst this;exact hk b b1 b2)
 rw[<-fu (x:=y) hj] at m1;by_cases c:(j + 1==y.size)=true
 ·rw[if_pos c];have c':j + 1=y.size:=by simpa using c
  refine PK (q _ (.inl ⟨_,rfl,?_⟩));rw[eX];exact m1.qT M.sa (by simp;lia)
 ·rw[if_neg c];have c':¬j + 1=y.size:=by simpa using c
  refine PD (aQ (aB (by lia)) (PD ?_));refine g9 T (λt=>kas_item y (j + 1 + t)) (λt ht=>aB (by lia)) (λt ht=>M.mb _ (by lia)) (M.ma i (by lia)) (by lia) (λa b fK hb nY=>?_) hs (λk hk1 cJ ko=>?_)
  ·unfold dm at nY ⊢;rw[if_pos rfl] at nY ⊢;have:=cc M.sb (show j + 1 + a<=j + 1 + b by lia) (by lia);exact KeyOrd.klt_of_kle_of_klt this nY
  ·have lo:∀t,t < k->O.blt (ky (kas_item y (j + 1 + t))) (ky (kas_item x i))=true:=λt ht=>by have:=cJ t ht;unfold dm at this;rw[if_pos rfl] at this;exact this
   have tM:∀l,j + 1 + k<=l->l < y.size->le O ky (kas_item x i) (kas_item y l):=λl iR d9=>by have z:=ko (l - (j + 1)) (by lia) (by lia);unfold dm at z;rw[if_pos rfl] at z;have z2:O.blt (ky (kas_item y (j + 1 + (l - (j + 1))))) (ky (kas_item x i))=false:=z;rw[show j + 1 + (l - (j + 1))=l by lia] at z2;exact z2
   dsimp only;by_cases k0:k > 0
   ·rw[if_pos k0];have m2:=m1.nK (k:=k) M.sb (λe he f hf=>by
     obtain⟨a,a1,a2,a3,rfl⟩:=aW he;obtain⟨b,b1,b2,rfl⟩:=bY hf;have h1:=lo (a - (j + 1)) (by lia);rw[show j + 1 + (a - (j + 1))=a by lia] at h1;exact Qa (KeyOrd.kle_of_klt h1) (cc M.sa b1 b2))
    rw[<-jD,<-Array.toList_append] at m2;by_cases d:(j + 1 + k==y.size)=true
    ·rw[if_pos d];have d':j + 1 + k=y.size:=by simpa using d
     refine PK (q _ (.inl ⟨_,rfl,?_⟩));rw[eX];exact m2.qT M.sa (by simp;lia)
    ·rw[if_neg d];have d':¬j + 1 + k=y.size:=by simpa using d
     exact vP M m2 hi (by lia) tM (by lia) q
   ·rw[if_neg k0];have:k=0:=by lia
    subst this;exact vP M m1 hi (by lia) tM (by lia) q
theorem vN (T:Tells prog w A κ s O ky Mem) {x y o:Array Keyed} (M:MP O ky Mem x y) {i j mg ca cb n:Nat} (h:yH O ky x y o i j) (hn:n<=i + j) {cY st:SortSt} (hs:kindOf st=κ) (jH:SI cY st)
  {Q:ForInStep GS->SortSt->Shared->Prop} (q:∀r aj,SI cY aj->uG O ky x y n r->Q r aj s):kasC (model prog w) A E (Ik x y o i j mg ca cb) Q st s:=by
 unfold Ik;have hi:=h.i1;have hj:=h.j1;refine PD (jk λoS h1=>?_);have CD:kindOf oS=κ:=h1.1.trans hs;have q':=λr=>q r oS (jH.trans h1)
 refine PD (aQ (aB hj) (PD ?_));refine g9 T (λt=>kas_item x (i + t)) (λt ht=>aB (by lia)) (λt ht=>M.ma _ (by lia)) (M.mb j hj) (by lia) (λa b fK hb nY=>?_) CD (λk hk1 cJ ko=>?_)
 ·unfold dm at nY ⊢;rw[if_neg (by simp)] at nY ⊢;have:=cc M.sa (show i + a<=i + b by lia) (by lia);cases z:O.blt (ky (kas_item y j)) (ky (kas_item x (i + a))) with
  | false=>rfl
  | true=>have z2:O.blt (ky (kas_item y j)) (ky (kas_item x (i + b)))=true:=KeyOrd.klt_of_klt_of_kle z this;have vU:(!O.blt (ky (kas_item y j)) (ky (kas_item x (i + b))))=true:=nY;rw[z2] at vU;cases vU
 ·have lo:∀t,t < k->le O ky (kas_item x (i + t)) (kas_item y j):=λt ht=>by have z:=cJ t ht;unfold dm at z;rw[if_neg (by simp)] at z;have z2:(!O.blt (ky (kas_item y j)) (ky (kas_item x (i + t))))=true:=z;show O.blt (ky (kas_item y j)) (ky (kas_item x (i + t)))=false;simpa using z2
  have tM:∀l,i + k<=l->l < x.size->le O ky (kas_item y j) (kas_item x l):=λl iR d9=>by
   have z:=ko (l - i) (by lia) (by lia);unfold dm at z;rw[if_neg (by simp)] at z;have z2:(!O.blt (ky (kas_item y j)) (ky (kas_item x (i + (l - i)))))=false:=z;rw[show i + (l - i)=l by lia] at z2;have z3:O.blt (ky (kas_item y j)) (ky (kas_item x l))=true:=by simpa using z2
   exact KeyOrd.kle_of_klt z3
  dsimp only;by_cases k0:k > 0
  ·rw[if_pos k0];have m2:=h.m.nJ (k:=k) M.sa (λe he f hf=>by
    obtain⟨a,a1,a2,a3,rfl⟩:=aW he;obtain⟨b,b1,b2,rfl⟩:=bY hf;have h1:=lo (a - i) (by lia);rw[show i + (a - i)=a by lia] at h1;exact Qa h1 (cc M.sb b1 b2))
   rw[<-jD,<-Array.toList_append] at m2;by_cases c:(i + k + 1==x.size)=true
   ·rw[if_pos c];have c':i + k + 1=x.size:=by simpa using c
    refine PK (q' _ (.inl ⟨_,rfl,?_⟩));rw[fv];exact m2.rM M.sa M.sb (M.lst c')
   ·rw[if_neg c];have c':¬i + k + 1=x.size:=by simpa using c
    by_cases d:(i + k==x.size)=true
    ·rw[if_pos d];have d':i + k=x.size:=by simpa using d
     refine PK (q' _ (.inl ⟨_,rfl,?_⟩));rw[eX];exact m2.Fp M.sb (by simp;lia)
    ·rw[if_neg d];have d':¬i + k=x.size:=by simpa using d
     exact vO T M m2 (by lia) hj tM (by lia) CD q'
  ·rw[if_neg k0];have:k=0:=by lia
   subst this;exact vO T M h.m hi hj tM (by lia) CD q'
end
section
variable {O:KeyOrd} {ky:Keyed->O.α} {Mem:Keyed->Prop}
variable {prog:Program} {w:World} {A:Around} {E:Value->Shared->Prop} {κ:SortKind} {s:Shared}
noncomputable def SStep (O:KeyOrd) (ky:Keyed->O.α) (x y:Array Keyed) (n:Nat):ForInStep SS->Prop
 | .done r=>GP O ky x y n r.1 r.2.1 r.2.2.1 r.2.2.2.1
 | .yield r=>r.1=none/\GP O ky x y n r.1 r.2.1 r.2.2.1 r.2.2.2.1
theorem GP.none {x y:Array Keyed} {n:Nat} {v:Option (Array Keyed)} {o:Array Keyed} {i j:Nat} (h:GP O ky x y n v o i j) (hv:v=none):yH O ky x y o i j/\n<=i + j:=by
 rcases h with ⟨a,e,_⟩ | ⟨_,h⟩
 ·rw[hv] at e;cases e
 ·exact h
theorem DZ (T:Tells prog w A κ s O ky Mem) {x y:Array Keyed} (M:MP O ky Mem x y) {mg:Nat} {r:SS} (h:yH O ky x y r.2.1 r.2.2.1 r.2.2.2.1) {n:Nat} (hn:n<=r.2.2.1 + r.2.2.2.1 + 1) {st:SortSt} (hs:kindOf st=κ)
  {Q:ForInStep SS->SortSt->Shared->Prop} (q:∀r',SStep O ky x y n r'->Q r' st s):kasC (model prog w) A E (EM x y mg r) Q st s:=by
 obtain⟨v,o,i,j,ca,cb⟩:=r;have hi:i + 1 < x.size:=h.i1;have hj:j < y.size:=h.j1;have hm:MI O ky x.toList y.toList o.toList i j:=h.m;dsimp only at hn;unfold EM;dsimp only;refine PD (aQ (aB hj) (PD (aQ (aB (by lia)) (PD (oz T (M.mb j hj) (M.ma i (by lia)) hs ?_)))));dsimp only;cases c:O.blt (ky (kas_item y j)) (ky (kas_item x i)) with
 | true=>
  rw[if_pos rfl];refine PD (aQ (aB hj) ?_);have m1:=hm.nK (k:=1) M.sb (λe he f hf=>by
   obtain⟨a,a1,a2,a3,rfl⟩:=aW he;obtain⟨b,b1,b2,rfl⟩:=bY hf;have:a=j:=by lia
   subst this;exact Qa (KeyOrd.kle_of_klt c) (cc M.sa b1 b2))
  rw[<-fu (x:=y) hj] at m1;by_cases d:(j + 1==y.size)=true
  ·rw[if_pos d];have d':j + 1=y.size:=by simpa using d
   refine PK (q _ (.inl ⟨_,rfl,?_⟩));rw[eX];exact m1.qT M.sa (by simp;lia)
  ·rw[if_neg d];have d':¬j + 1=y.size:=by simpa using d
   have g:GP O ky x y n none (o.push (kas_item y j)) i (j + 1):= .inr ⟨rfl,⟨m1,hi,by lia⟩,by lia⟩;by_cases e:cb + 1>=mg
   ·rw[if_pos e];exact PK (q _ g)
   ·rw[if_neg e];exact PK (q _ ⟨rfl,g⟩)
 | false=>
  rw[if_neg (by simp)];refine PD (aQ (aB (by lia)) ?_);have m1:=hm.nJ (k:=1) M.sa (λe he f hf=>by
   obtain⟨a,a1,a2,a3,rfl⟩:=aW he;obtain⟨b,b1,b2,rfl⟩:=bY hf;have:a=i:=by lia
   subst this;exact Qa (show O.kle (ky (kas_item x a)) (ky (kas_item y j)) from c) (cc M.sb b1 b2))
  rw[<-fu (x:=x) (by lia)] at m1;by_cases d:(i + 1 + 1==x.size)=true
  ·rw[if_pos d];have d':i + 1 + 1=x.size:=by simpa using d
   refine PK (q _ (.inl ⟨_,rfl,?_⟩));rw[fv];exact m1.rM M.sa M.sb (M.lst d')
  ·rw[if_neg d];have d':¬i + 1 + 1=x.size:=by simpa using d
   have g:GP O ky x y n none (o.push (kas_item x i)) (i + 1) j:= .inr ⟨rfl,⟨m1,by lia,hj⟩,by lia⟩;by_cases e:ca + 1>=mg
   ·rw[if_pos e];exact PK (q _ g)
   ·rw[if_neg e];exact PK (q _ ⟨rfl,g⟩)
noncomputable def EY (O:KeyOrd) (ky:Keyed->O.α) (x y:Array Keyed) (n:Nat):ForInStep OS->Prop
 | .done r=>∃a,r.1=some a/\ph O ky x.toList y.toList a.toList
 | .yield r=>r.1=none/\yH O ky x y r.2.1 r.2.2.1 r.2.2.2.1/\n<=r.2.2.1 + r.2.2.2.1
theorem Ab (T:Tells prog w A κ s O ky Mem) {x y:Array Keyed} (M:MP O ky Mem x y) {r:OS} (h:yH O ky x y r.2.1 r.2.2.1 r.2.2.2.1) {n:Nat} (hn:n<=r.2.2.1 + r.2.2.2.1) {cY st:SortSt} (hs:kindOf st=κ) (jH:SI cY st)
  {Q:ForInStep OS->SortSt->Shared->Prop} (q:∀r' aj,SI cY aj->EY O ky x y (n + 1) r'->Q r' aj s):kasC (model prog w) A E (Do x y r) Q st s:=by
 unfold Do;have hp:=M.pa;refine PD (bE (Q:=λa aj s'=>st=aj/\s=s'/\GP O ky x y (n + 1) a.1 a.2.1 a.2.2.1 a.2.2.2.1) (kasC_range (cD (λjj a aj=>st=aj/\a.1=none/\yH O ky x y a.2.1 a.2.2.1 a.2.2.2.1/\n + jj<=a.2.2.1 + a.2.2.2.1) ⟨rfl,rfl,h,by simpa using hn⟩ (λjj a aj z hj hI=>?_) (λa aj hI=>?_))) (λa aj s' hI=>?_))
 ·obtain⟨rfl,a0,BK,an⟩:=hI;refine DZ T M BK (n:=n + jj + 1) (by lia) hs (λr' gh=>⟨rfl,?_⟩);cases r' with
  | done b=>
   refine⟨rfl,rfl,?_⟩;rcases gh with ⟨v,e,m⟩ | ⟨e,ok,l⟩
   ·exact .inl ⟨v,e,m⟩
   ·exact .inr ⟨e,ok,by lia⟩
  | yield b=>obtain⟨b0,gb⟩:=gh;obtain⟨ok,l⟩:=gb.none b0;exact⟨rfl,b0,ok,by lia⟩
 ·obtain⟨rfl,a0,BK,an⟩:=hI;rw[List.length_range'] at an;exact⟨rfl,rfl,.inr ⟨a0,BK,by lia⟩⟩
 obtain⟨rfl,rfl,ga⟩:=hI;rcases ga with ⟨v,e,m⟩ | ⟨e,ok,l⟩
 ·rw[e];exact PK (q _ _ jH ⟨v,rfl,m⟩)
 ·rw[e];refine PD (kasC_lift (wpAny_rule ?_));refine PD (bE (Q:=λb aj s'=>SI cY aj/\s=s'/\GP O ky x y (n + 1) b.1 b.2.1 b.2.2.1 b.2.2.2.1) (kasC_range (cD (λjj b aj=>SI cY aj/\kindOf aj=κ/\b.1=none/\yH O ky x y b.2.1 b.2.2.1 b.2.2.2.1/\n + 1<=b.2.2.1 + b.2.2.2.1) ⟨jH,hs,rfl,ok,l⟩ (λjj b aj z hj hI=>?_) (λb aj hI=>?_))) (λb aj s' hI=>?_))
  ·obtain⟨si,ks,b0,yZ,bn⟩:=hI;have kk:∀de,SI cY de->kindOf de=κ:=λde h2=>(h2.1.trans si.1.symm).trans ks
   by_cases c:b.2.2.2.2.1 > 1
   ·rw[if_pos c];refine vN T M yZ bn ks si (λr' de h2 gh=>⟨rfl,?_⟩);cases r' with
    | done b'=>exact⟨h2,rfl,gh⟩
    | yield b'=>obtain⟨c0,gc⟩:=gh;obtain⟨C9,l'⟩:=gc.none c0;exact⟨h2,kk de h2,c0,C9,l'⟩
   ·rw[if_neg c];refine vN T M yZ bn ks si (λr' de h2 gh=>⟨rfl,?_⟩);cases r' with
    | done b'=>exact⟨h2,rfl,gh⟩
    | yield b'=>obtain⟨c0,gc⟩:=gh;obtain⟨C9,l'⟩:=gc.none c0;exact⟨h2,kk de h2,c0,C9,l'⟩
  ·obtain⟨si,ks,b0,yZ,bn⟩:=hI;exact⟨si,rfl,.inr ⟨b0,yZ,bn⟩⟩
  obtain⟨si,rfl,gb⟩:=hI;rcases gb with ⟨v,e2,m⟩ | ⟨e2,KG,l2⟩
  ·rw[e2];exact PK (q _ _ si ⟨v,rfl,m⟩)
  ·rw[e2];exact PD (jk λde h2=>PK (q _ _ (si.trans h2) ⟨rfl,KG,l2⟩))
theorem zR (T:Tells prog w A κ s O ky Mem) {x y:Array Keyed} (M:MP O ky Mem x y) {st:SortSt} (hs:kindOf st=κ) {Q:Array Keyed->SortSt->Shared->Prop} (q:∀v aj,SI st aj->ph O ky x.toList y.toList v.toList->Q v aj s):kasC (model prog w) A E (C3 x y) Q st s:=by
 rw[zQ];unfold Mj;have hp:=M.pa;have hq:=M.pb;refine PD (kasC_lift (wpAny_rule ?_));refine PD (aQ (aB (by lia)) ?_);have m1:=(MI.start (O:=O) (ky:=ky) (la:=x.toList) (lb:=y.toList)).nK (k:=1) M.sb (λe he f hf=>by
  obtain⟨a,a1,a2,a3,rfl⟩:=aW he;obtain⟨b,b1,b2,rfl⟩:=bY hf;have:a=0:=by lia
  subst this;exact Qa (KeyOrd.kle_of_klt M.first) (cc M.sa (Nat.zero_le b) b2))
 have e0:(#[kas_item y 0]:Array Keyed).toList=[]++(y.toList.drop 0).take 1:=by rw[take_one (by lia)];rfl
 rw[<-e0,Nat.zero_add] at m1;by_cases c:(1==y.size)=true
 ·rw[if_pos c];have c':1=y.size:=by simpa using c
  refine PK (q _ _ (SI.refl _) ?_);rw[eX];exact m1.qT M.sa (by simp;lia)
 ·rw[if_neg c];have c':¬1=y.size:=by simpa using c
  by_cases d:(0 + 1==x.size)=true
  ·rw[if_pos d];have d':0 + 1=x.size:=by simpa using d
   refine PK (q _ _ (SI.refl _) ?_);rw[fv];exact m1.rM M.sa M.sb (M.lst d')
  ·rw[if_neg d];have d':¬0 + 1=x.size:=by simpa using d
   refine PD (kasC_get ?_);refine PD (bE (Q:=λr aj s'=>SI st aj/\s=s'/\∃a,r.1=some a/\ph O ky x.toList y.toList a.toList) (kasC_range (cD (λjj r aj=>SI st aj/\r.1=none/\yH O ky x y r.2.1 r.2.2.1 r.2.2.2.1/\jj + 1<=r.2.2.1 + r.2.2.2.1) ⟨SI.refl _,rfl,⟨m1,(show 0 + 1 < x.size by lia),(show 1 < y.size by lia)⟩,by simp⟩ (λjj r aj z hj hI=>?_) (λr aj hI=>?_))) (λr aj s' hI=>?_))
   ·obtain⟨si,r0,Av,rn⟩:=hI;refine Ab T M Av rn (si.1.trans hs) si (λr' de h2 gh=>⟨rfl,?_⟩);cases r' with
    | done b=>exact⟨h2,rfl,gh⟩
    | yield b=>exact⟨h2,gh.1,gh.2.1,gh.2.2⟩
   ·obtain⟨si,r0,Av,rn⟩:=hI;rw[List.length_range'] at rn;have h1:=Av.i1;have h2:=Av.j1
    lia
   obtain⟨si,rfl,a,e,m⟩:=hI;rw[e];exact PK (q _ _ si m)
end
section
variable {O:KeyOrd} {ky:Keyed->O.α}
structure HI (O:KeyOrd) (ky:Keyed->O.α) (la lb R:List Keyed) (i j:Nat):Prop where
 p:R.Perm (la.drop i++lb.drop j)
 s:gp O ky R
 a:∀x∈la.take i,∀y∈R,le O ky x y
 b:∀x∈lb.take j,∀y∈R,le O ky x y
theorem e9 {l:List Keyed} {i k:Nat} (h:k<=i):l.take i=l.take k++(l.drop k).take (i - k):=by have:=gd (l:=l) (i:=k) (k:=i - k);rw[show k + (i - k)=i by lia] at this;exact this
theorem ju {l:List Keyed} {i k:Nat} (h:k<=i):l.drop k=(l.drop k).take (i - k)++l.drop i:=by have:=cv (l:=l) (i:=k) (k:=i - k);rw[show k + (i - k)=i by lia] at this;exact this
theorem HI.nJ {la lb R:List Keyed} {i k j:Nat} (h:HI O ky la lb R i j) (hk:k<=i) (sa:gp O ky la) (hb:∀e∈(la.drop k).take (i - k),∀y∈lb.take j,le O ky y e):HI O ky la lb ((la.drop k).take (i - k)++R) k j:=by
 have st:gp O ky (la.take i):=sa.sublist (List.take_sublist _ _);rw[e9 hk] at st;obtain⟨s1,s2,s3⟩:=List.pairwise_append.mp st;have m1:∀y∈(la.drop k).take (i - k),y∈la.take i:=λy hy=>by rw[e9 hk];exact Qf _ hy
 have m2:∀y∈la.take k,y∈la.take i:=λy hy=>by rw[e9 hk];exact List.mem_append_left _ hy
 refine⟨?_,List.pairwise_append.mpr ⟨s2,h.s,λx hx y hy=>h.a x (m1 x hx) y hy⟩,λx hx y hy=>?_,λx hx y hy=>?_⟩
 ·refine(h.p.append_left _).trans ?_;rw[<-PV,<-ju (l:=la) hk]
 ·rcases P5.mp hy with hy | hy
  ·exact s3 x hx y hy
  ·exact h.a x (m2 x hx) y hy
 ·rcases P5.mp hy with hy | hy
  ·exact hb y hy x hx
  ·exact h.b x hx y hy
theorem HI.nK {la lb R:List Keyed} {i k j:Nat} (h:HI O ky la lb R i j) (hk:k<=j) (sb:gp O ky lb) (hb:∀e∈(lb.drop k).take (j - k),∀y∈la.take i,le O ky y e):HI O ky la lb ((lb.drop k).take (j - k)++R) i k:=by
 have st:gp O ky (lb.take j):=sb.sublist (List.take_sublist _ _);rw[e9 hk] at st;obtain⟨s1,s2,s3⟩:=List.pairwise_append.mp st;have m1:∀y∈(lb.drop k).take (j - k),y∈lb.take j:=λy hy=>by rw[e9 hk];exact Qf _ hy
 have m2:∀y∈lb.take k,y∈lb.take j:=λy hy=>by rw[e9 hk];exact List.mem_append_left _ hy
 refine⟨?_,List.pairwise_append.mpr ⟨s2,h.s,λx hx y hy=>h.b x (m1 x hx) y hy⟩,λx hx y hy=>?_,λx hx y hy=>?_⟩
 ·refine(h.p.append_left _).trans ?_;rw[<-PV];refine(List.Perm.append_right _ List.perm_append_comm).trans ?_;rw[PV,<-ju (l:=lb) hk]
 ·rcases P5.mp hy with hy | hy
  ·exact hb y hy x hx
  ·exact h.a x hx y hy
 ·rcases P5.mp hy with hy | hy
  ·exact s3 x hx y hy
  ·exact h.b x (m2 x hx) y hy
theorem HI.g6 {la lb R:List Keyed} {i j:Nat} (h:HI O ky la lb R i j) (sa:gp O ky la) (sb:gp O ky lb) (hf:∀x∈lb.take j,∀y∈la.take i,le O ky x y):ph O ky la lb (lb.take j++la.take i++R):=by
 refine⟨?_,?_⟩
 ·refine(h.p.append_left _).trans ?_;rw[PV,<-PV (la.take i),List.take_append_drop];refine(List.perm_append_comm).trans ?_;rw[PV];refine List.Perm.append_left _ ((List.perm_append_comm).trans ?_);rw[List.take_append_drop]
 ·refine List.pairwise_append.mpr ⟨List.pairwise_append.mpr ⟨sb.sublist (List.take_sublist _ _),sa.sublist (List.take_sublist _ _),hf⟩,h.s,λx hx y hy=>?_⟩;rcases P5.mp hx with hx | hx
  ·exact h.b x hx y hy
  ·exact h.a x hx y hy
theorem HI.qS {la lb R:List Keyed} {j:Nat} (h:HI O ky la lb R 0 j) (sa:gp O ky la) (sb:gp O ky lb):ph O ky la lb (la.take 0++lb.take j++R):=by have:=h.g6 sa sb (λx hx y hy=>absurd hy (by simp));simpa using this
theorem HI.B8 {la lb R:List Keyed} {i:Nat} (h:HI O ky la lb R i 0) (sa:gp O ky la) (sb:gp O ky lb):ph O ky la lb (la.take i++lb.take 0++R):=by have:=h.g6 sa sb (λx hx y hy=>absurd hx (by simp));simpa using this
theorem HI.start {la lb:List Keyed}:HI O ky la lb [] la.length lb.length:=⟨by simp,List.Pairwise.nil,λx _ y hy=>absurd hy (by simp),λx _ y hy=>absurd hy (by simp)⟩
end
noncomputable def C2:Array Keyed->Array Keyed->StateT SortSt Sem (Array Keyed):=sortPriv% PySem.Builtin.mergeHi
noncomputable abbrev GH:=Option (Array Keyed)×Nat×Nat×Array Keyed×Nat×Nat×Nat
noncomputable abbrev SH:=Option (Array Keyed)×Nat×Nat×Array Keyed×Nat×Nat
noncomputable abbrev OH:=Option (Array Keyed)×Nat×Nat×Array Keyed×Nat
noncomputable def kC (x y o:Array Keyed) (i j:Nat):Array Keyed:=x.extract 0 i++y.extract 0 j++o.reverse
noncomputable def tE (x y o:Array Keyed) (i j:Nat):Array Keyed:=y.extract 0 j++x.extract 0 i++o.reverse
noncomputable def Iv (x y o:Array Keyed) (i j mg ca cb:Nat):StateT SortSt Sem (ForInStep GH):=do
 let e<-elem' x (i - 1)
 if (i - 1==0)=true then pure (.done (some (kC x y (o.push e) (i - 1) j),i - 1,j,o.push e,mg,ca,cb))
 else if (decide (ca < 7)&&decide (cb < 7))=true then pure (.done (none,i - 1,j,o.push e,mg,ca,cb))
 else pure (.yield (none,i - 1,j,o.push e,mg,ca,cb))
noncomputable def d9 (x y o:Array Keyed) (i j mg ca pd:Nat):StateT SortSt Sem (ForInStep GH):=do
 let e<-elem' y (j - 1)
 if (j - 1==1)=true then pure (.done (some (tE x y (o.push e) i (j - 1)),i,j - 1,o.push e,mg,ca,pd))
 else do
  let f<-elem' x (i - 1)
  let r<-A7 true f y 0 (j - 1) (j - 1 - 1)
  match r with
  | some k=>
   if j - 1 - k > 0 then
    if (k==1)=true then pure (.done (some (tE x y (o.push e++(y.extract k (j - 1)).reverse) i k),i,k,o.push e++(y.extract k (j - 1)).reverse,mg,ca,j - 1 - k))
    else if (k==0)=true then pure (.done (some (kC x y (o.push e++(y.extract k (j - 1)).reverse) i k),i,k,o.push e++(y.extract k (j - 1)).reverse,mg,ca,j - 1 - k))
    else Iv x y (o.push e++(y.extract k (j - 1)).reverse) i k mg ca (j - 1 - k)
   else Iv x y (o.push e) i (j - 1) mg ca (j - 1 - k)
  | _=>pure (.done (some (kC x y (o.push e) i (j - 1)),i,j - 1,o.push e,mg,ca,pd))
noncomputable def iR (x y o:Array Keyed) (i j mg Jn pd:Nat):StateT SortSt Sem (ForInStep GH):=do
 setG mg
 let e<-elem' y (j - 1)
 let r<-A7 false e x 0 i (i - 1)
 match r with
 | some k=>
  if i - k > 0 then
   if (k==0)=true then pure (.done (some (kC x y (o++(x.extract k i).reverse) k j),k,j,o++(x.extract k i).reverse,mg,i - k,pd))
   else d9 x y (o++(x.extract k i).reverse) k j mg (i - k) pd
  else d9 x y o i j mg (i - k) pd
 | _=>pure (.done (some (kC x y o i j),i,j,o,mg,Jn,pd))
noncomputable def Lf (x y:Array Keyed) (mg:Nat) (r:SH):StateT SortSt Sem (ForInStep SH):=do
 let e<-elem' y (r.2.2.1 - 1)
 let f<-elem' x (r.2.1 - 1)
 let c<-lt' e f
 match c with
 | some xw=>
  if xw=true then do
   let f<-elem' x (r.2.1 - 1)
   if (r.2.1 - 1==0)=true then pure (.done (some (kC x y (r.2.2.2.1.push f) (r.2.1 - 1) r.2.2.1),r.2.1 - 1,r.2.2.1,r.2.2.2.1.push f,r.2.2.2.2.1 + 1,0))
   else if r.2.2.2.2.1 + 1>=mg then pure (.done (none,r.2.1 - 1,r.2.2.1,r.2.2.2.1.push f,r.2.2.2.2.1 + 1,0))
   else pure (.yield (none,r.2.1 - 1,r.2.2.1,r.2.2.2.1.push f,r.2.2.2.2.1 + 1,0))
  else do
   let e<-elem' y (r.2.2.1 - 1)
   if (r.2.2.1 - 1==1)=true then pure (.done (some (tE x y (r.2.2.2.1.push e) r.2.1 (r.2.2.1 - 1)),r.2.1,r.2.2.1 - 1,r.2.2.2.1.push e,0,r.2.2.2.2.2 + 1))
   else if r.2.2.2.2.2 + 1>=mg then pure (.done (none,r.2.1,r.2.2.1 - 1,r.2.2.2.1.push e,0,r.2.2.2.2.2 + 1))
   else pure (.yield (none,r.2.1,r.2.2.1 - 1,r.2.2.2.1.push e,0,r.2.2.2.2.2 + 1))
 | _=>pure (.done (some (kC x y r.2.2.2.1 r.2.1 r.2.2.1),r.2.1,r.2.2.1,r.2.2.2.1,r.2.2.2.2.1,r.2.2.2.2.2))
noncomputable def Dp (x y:Array Keyed) (r:OH):StateT SortSt Sem (ForInStep OH):=do
 let a<-forIn [:x.size + y.size] ((none,r.2.1,r.2.2.1,r.2.2.2.1,0,0):SH) λ_ a=>Lf x y r.2.2.2.2 a
 match a.1 with
 | some v=>pure (.done (some v,a.2.1,a.2.2.1,a.2.2.2.1,r.2.2.2.2))
 | none=>do
  rule "list.sort.gallop"
  let b<-forIn [:x.size + y.size] ((none,a.2.1,a.2.2.1,a.2.2.2.1,r.2.2.2.2 + 1,a.2.2.2.2.1,a.2.2.2.2.2):GH) λ_ b=>
   if b.2.2.2.2.1 > 1 then iR x y b.2.2.2.1 b.2.1 b.2.2.1 (b.2.2.2.2.1 - 1) b.2.2.2.2.2.1 b.2.2.2.2.2.2 else iR x y b.2.2.2.1 b.2.1 b.2.2.1 b.2.2.2.2.1 b.2.2.2.2.2.1 b.2.2.2.2.2.2
  match b.1 with
  | some v=>pure (.done (some v,b.2.1,b.2.2.1,b.2.2.2.1,b.2.2.2.2.1))
  | none=>do
   setG (b.2.2.2.2.1 + 1)
   pure (.yield (none,b.2.1,b.2.2.1,b.2.2.2.1,b.2.2.2.2.1 + 1))
noncomputable def LZ (x y:Array Keyed):StateT SortSt Sem (Array Keyed):=do
 rule "list.sort.merge-hi"
 let e<-elem' x (x.size - 1)
 if (x.size - 1==0)=true then pure (kC x y #[e] (x.size - 1) y.size)
 else if (y.size==1)=true then pure (tE x y #[e] (x.size - 1) y.size)
 else do
  let st<-get
  let r<-forIn [:x.size + y.size] ((none,x.size - 1,y.size,#[e],gallopOf st):OH) λ_ r=>Dp x y r
  match r.1 with
  | some a=>pure a
  | none=>unsupported "internal:list.sort.merge-bound"
theorem zO (x y:Array Keyed):C2 x y=LZ x y:=by kernel_rfl
theorem mw (x:Array Keyed) (i:Nat):(x.extract 0 i).toList=x.toList.take i:=by rw[Array.toList_extract];show (x.toList.drop 0).take (i - 0)=_;simp
theorem qX (x:Array Keyed) {k i:Nat}:(x.extract k i).toList=(x.toList.drop k).take (i - k):=by rw[Array.toList_extract]
theorem dJ (x y o:Array Keyed) (i j:Nat):(kC x y o i j).toList=x.toList.take i++y.toList.take j++o.toList.reverse:=by unfold kC;rw[Array.toList_append,Array.toList_append,mw,mw,Array.toList_reverse]
theorem fk (x y o:Array Keyed) (i j:Nat):(tE x y o i j).toList=y.toList.take j++x.toList.take i++o.toList.reverse:=by unfold tE;rw[Array.toList_append,Array.toList_append,mw,mw,Array.toList_reverse]
theorem sG (x o:Array Keyed) (k i:Nat):(o++(x.extract k i).reverse).toList.reverse=(x.toList.drop k).take (i - k)++o.toList.reverse:=by rw[Array.toList_append,Array.toList_reverse,List.reverse_append,List.reverse_reverse,qX]
theorem gR {x o:Array Keyed} {i:Nat} (h1:1<=i) (h2:i<=x.size):(o.push (kas_item x (i - 1))).toList.reverse=(x.toList.drop (i - 1)).take (i - (i - 1))++o.toList.reverse:=by rw[show i - (i - 1)=1 by lia,take_one (by lia)];simp
section
variable {O:KeyOrd} {ky:Keyed->O.α} {Mem:Keyed->Prop}
variable {prog:Program} {w:World} {A:Around} {E:Value->Shared->Prop} {κ:SortKind} {s:Shared}
theorem eg {x:Array Keyed} {i:Nat} {e:Keyed} (h:e∈x.toList.take i):∃k,k < i/\k < x.size/\e=kas_item x k:=by
 have h':e∈(x.toList.drop 0).take i:=by simpa using h
 obtain⟨k,_,k1,k2,e⟩:=aW h';exact⟨k,by lia,k2,e⟩
structure yG (O:KeyOrd) (ky:Keyed->O.α) (x y o:Array Keyed) (i j:Nat):Prop where
 m:HI O ky x.toList y.toList o.toList.reverse i j
 i1:1<=i
 i2:i < x.size
 j1:2<=j
 j2:j<=y.size
theorem MP.fst {x y:Array Keyed} (h:MP O ky Mem x y) {i:Nat} (hi:i<=x.size):∀e∈y.toList.take 1,∀f∈x.toList.take i,le O ky e f:=λe he f hf=>by
 obtain⟨k,k1,k2,rfl⟩:=eg he;obtain⟨l,l1,l2,rfl⟩:=eg hf;have:k=0:=by lia
 subst this;exact Qa (KeyOrd.kle_of_klt h.first) (cc h.sa (Nat.zero_le l) l2)
noncomputable def HP (O:KeyOrd) (ky:Keyed->O.α) (x y:Array Keyed) (n:Nat) (v:Option (Array Keyed)) (o:Array Keyed) (i j:Nat):Prop:=(∃a,v=some a/\ph O ky x.toList y.toList a.toList)\/(v=none/\yG O ky x y o i j/\i + j + n<=x.size + y.size)
theorem HP.none {x y:Array Keyed} {n:Nat} {v:Option (Array Keyed)} {o:Array Keyed} {i j:Nat} (h:HP O ky x y n v o i j) (hv:v=none):yG O ky x y o i j/\i + j + n<=x.size + y.size:=by
 rcases h with ⟨a,e,_⟩ | ⟨_,h⟩
 ·rw[hv] at e;cases e
 ·exact h
noncomputable def uH (O:KeyOrd) (ky:Keyed->O.α) (x y:Array Keyed) (n:Nat):ForInStep GH->Prop
 | .done r=>HP O ky x y n r.1 r.2.2.2.1 r.2.1 r.2.2.1
 | .yield r=>r.1=none/\HP O ky x y n r.1 r.2.2.2.1 r.2.1 r.2.2.1
theorem v8 {x y o:Array Keyed} (M:MP O ky Mem x y) {i j mg ca cb n:Nat} (h:HI O ky x.toList y.toList o.toList.reverse i j) (hi:1<=i) (tM:i < x.size) (hj:2<=j) (zq:j<=y.size) (hk:∀l,l < j->le O ky (kas_item y l) (kas_item x (i - 1))) (hn:i - 1 + j + n<=x.size + y.size) {st:SortSt} {Q:ForInStep GH->SortSt->Shared->Prop}
  (q:∀r,uH O ky x y n r->Q r st s):kasC (model prog w) A E (Iv x y o i j mg ca cb) Q st s:=by
 unfold Iv;refine PD (aQ (aB (by lia)) ?_);have m1:=h.nJ (k:=i - 1) (by lia) M.sa (λe he f hf=>by
  obtain⟨a,a1,a2,a3,rfl⟩:=aW he;obtain⟨b,b1,b2,rfl⟩:=eg hf;have:a=i - 1:=by lia
  subst this;exact hk b b1)
 rw[<-gR (x:=x) hi (by lia)] at m1;by_cases c:(i - 1==0)=true
 ·rw[if_pos c];have c':i - 1=0:=by simpa using c
  refine PK (q _ (.inl ⟨_,rfl,?_⟩));rw[dJ];rw[c'] at m1 ⊢;exact m1.qS M.sa M.sb
 ·rw[if_neg c];have c':¬i - 1=0:=by simpa using c
  have g:HP O ky x y n none (o.push (kas_item x (i - 1))) (i - 1) j:= .inr ⟨rfl,⟨m1,by lia,by lia,hj,zq⟩,by lia⟩;by_cases d:(decide (ca < 7)&&decide (cb < 7))=true
  ·rw[if_pos d];exact PK (q _ g)
  ·rw[if_neg d];exact PK (q _ ⟨rfl,g⟩)
theorem v7 (T:Tells prog w A κ s O ky Mem) {x y o:Array Keyed} (M:MP O ky Mem x y) {i j mg ca cb n:Nat} (h:HI O ky x.toList y.toList o.toList.reverse i j) (hi:1<=i) (tM:i < x.size) (hj:2<=j) (zq:j<=y.size) (hk:∀l,l < i->le O ky (kas_item x l) (kas_item y (j - 1))) (hn:i + (j - 1) + n<=x.size + y.size) {st:SortSt} (hs:kindOf st=κ)
  {Q:ForInStep GH->SortSt->Shared->Prop} (q:∀r,uH O ky x y n r->Q r st s):kasC (model prog w) A E (d9 x y o i j mg ca cb) Q st s:=by
 unfold d9;refine PD (aQ (aB (by lia)) ?_);have m1:=h.nK (k:=j - 1) (by lia) M.sb (λe he f hf=>by
  obtain⟨a,a1,a2,a3,rfl⟩:=aW he;obtain⟨b,b1,b2,rfl⟩:=eg hf;have:a=j - 1:=by lia
  subst this;exact hk b b1)
 rw[<-gR (x:=y) (by lia) zq] at m1;by_cases c:(j - 1==1)=true
 ·rw[if_pos c];have c':j - 1=1:=by simpa using c
  refine PK (q _ (.inl ⟨_,rfl,?_⟩));rw[fk];rw[c'] at m1 ⊢;exact m1.g6 M.sa M.sb (M.fst (by lia))
 ·rw[if_neg c];have c':¬j - 1=1:=by simpa using c
  refine PD (aQ (aB (by lia)) (PD ?_));refine g9 T (λt=>kas_item y t) (λt ht=>by rw[Nat.zero_add];exact aB (by lia)) (λt ht=>M.mb _ (by lia)) (M.ma (i - 1) (by lia)) (by lia) (λa b fK hb nY=>?_) hs (λk hk1 cJ ko=>?_)
  ·unfold dm at nY ⊢;rw[if_pos rfl] at nY ⊢;have:=cc M.sb fK (by lia);exact KeyOrd.klt_of_kle_of_klt this nY
  ·have lo:∀t,t < k->le O ky (kas_item y t) (kas_item x (i - 1)):=λt ht=>by have z:=cJ t ht;unfold dm at z;rw[if_pos rfl] at z;exact KeyOrd.kle_of_klt z
   have up:∀t,k<=t->t < j - 1->le O ky (kas_item x (i - 1)) (kas_item y t):=λt h1 h2=>by have z:=ko t h1 h2;unfold dm at z;rw[if_pos rfl] at z;exact z
   dsimp only;by_cases k0:j - 1 - k > 0
   ·rw[if_pos k0];have m2:=m1.nK (k:=k) (by lia) M.sb (λe he f hf=>by
     obtain⟨a,a1,a2,a3,rfl⟩:=aW he;obtain⟨b,b1,b2,rfl⟩:=eg hf;exact Qa (cc M.sa (show b<=i - 1 by lia) (by lia)) (up a a1 (by lia)))
    rw[<-sG] at m2;by_cases d:(k==1)=true
    ·rw[if_pos d];have d':k=1:=by simpa using d
     subst d';refine PK (q _ (.inl ⟨_,rfl,?_⟩));rw[fk];exact m2.g6 M.sa M.sb (M.fst (by lia))
    ·rw[if_neg d];have d':¬k=1:=by simpa using d
     by_cases e:(k==0)=true
     ·rw[if_pos e];have e':k=0:=by simpa using e
      subst e';refine PK (q _ (.inl ⟨_,rfl,?_⟩));rw[dJ];exact m2.B8 M.sa M.sb
     ·rw[if_neg e];have e':¬k=0:=by simpa using e
      exact v8 M m2 hi tM (by lia) (by lia) lo (by lia) q
   ·rw[if_neg k0];exact v8 M m1 hi tM (by lia) (by lia) (λl hl=>lo l (by lia)) (by lia) q
theorem v5 (T:Tells prog w A κ s O ky Mem) {x y o:Array Keyed} (M:MP O ky Mem x y) {i j mg ca cb n:Nat} (h:yG O ky x y o i j) (hn:i + j + n<=x.size + y.size) {cY st:SortSt} (hs:kindOf st=κ) (jH:SI cY st)
  {Q:ForInStep GH->SortSt->Shared->Prop} (q:∀r aj,SI cY aj->uH O ky x y n r->Q r aj s):kasC (model prog w) A E (iR x y o i j mg ca cb) Q st s:=by
 unfold iR;have hi:=h.i1;have tM:=h.i2;have hj:=h.j1;have zq:=h.j2;refine PD (jk λoS h1=>?_);have CD:kindOf oS=κ:=h1.1.trans hs;have q':=λr=>q r oS (jH.trans h1)
 refine PD (aQ (aB (by lia)) (PD ?_));refine g9 T (λt=>kas_item x t) (λt ht=>by rw[Nat.zero_add];exact aB (by lia)) (λt ht=>M.ma _ (by lia)) (M.mb (j - 1) (by lia)) (by lia) (λa b fK hb nY=>?_) CD (λk hk1 cJ ko=>?_)
 ·unfold dm at nY ⊢;rw[if_neg (by simp)] at nY ⊢;have:=cc M.sa fK (by lia);cases z:O.blt (ky (kas_item y (j - 1))) (ky (kas_item x a)) with
  | false=>rfl
  | true=>have z2:O.blt (ky (kas_item y (j - 1))) (ky (kas_item x b))=true:=KeyOrd.klt_of_klt_of_kle z this;have vU:(!O.blt (ky (kas_item y (j - 1))) (ky (kas_item x b)))=true:=nY;rw[z2] at vU;cases vU
 ·have lo:∀t,t < k->le O ky (kas_item x t) (kas_item y (j - 1)):=λt ht=>by have z:=cJ t ht;unfold dm at z;rw[if_neg (by simp)] at z;have z2:(!O.blt (ky (kas_item y (j - 1))) (ky (kas_item x t)))=true:=z;show O.blt (ky (kas_item y (j - 1))) (ky (kas_item x t))=false;simpa using z2
  have up:∀t,k<=t->t < i->le O ky (kas_item y (j - 1)) (kas_item x t):=λt h1 h2=>by
   have z:=ko t h1 h2;unfold dm at z;rw[if_neg (by simp)] at z;have z2:(!O.blt (ky (kas_item y (j - 1))) (ky (kas_item x t)))=false:=z;have z3:O.blt (ky (kas_item y (j - 1))) (ky (kas_item x t))=true:=by simpa using z2
   exact KeyOrd.kle_of_klt z3
  dsimp only;by_cases k0:i - k > 0
  ·rw[if_pos k0];have m2:=h.m.nJ (k:=k) (by lia) M.sa (λe he f hf=>by
    obtain⟨a,a1,a2,a3,rfl⟩:=aW he;obtain⟨b,b1,b2,rfl⟩:=eg hf;exact Qa (cc M.sb (show b<=j - 1 by lia) (by lia)) (up a a1 (by lia)))
   rw[<-sG] at m2;by_cases e:(k==0)=true
   ·rw[if_pos e];have e':k=0:=by simpa using e
    subst e';refine PK (q' _ (.inl ⟨_,rfl,?_⟩));rw[dJ];exact m2.qS M.sa M.sb
   ·rw[if_neg e];have e':¬k=0:=by simpa using e
    exact v7 T M m2 (by lia) (by lia) hj zq lo (by lia) CD q'
  ·rw[if_neg k0];exact v7 T M h.m hi tM hj zq (λl hl=>lo l (by lia)) (by lia) CD q'
noncomputable def MN (O:KeyOrd) (ky:Keyed->O.α) (x y:Array Keyed) (n:Nat):ForInStep SH->Prop
 | .done r=>HP O ky x y n r.1 r.2.2.2.1 r.2.1 r.2.2.1
 | .yield r=>r.1=none/\HP O ky x y n r.1 r.2.2.2.1 r.2.1 r.2.2.1
theorem DW (T:Tells prog w A κ s O ky Mem) {x y:Array Keyed} (M:MP O ky Mem x y) {mg:Nat} {r:SH} (h:yG O ky x y r.2.2.2.1 r.2.1 r.2.2.1) {n:Nat} (hn:r.2.1 + r.2.2.1 + n<=x.size + y.size + 1) {st:SortSt} (hs:kindOf st=κ)
  {Q:ForInStep SH->SortSt->Shared->Prop} (q:∀r',MN O ky x y n r'->Q r' st s):kasC (model prog w) A E (Lf x y mg r) Q st s:=by
 obtain⟨v,i,j,o,ca,cb⟩:=r;have hi:1<=i:=h.i1;have tM:i < x.size:=h.i2;have hj:2<=j:=h.j1;have zq:j<=y.size:=h.j2;have hm:HI O ky x.toList y.toList o.toList.reverse i j:=h.m;dsimp only at hn;unfold Lf;dsimp only;refine PD (aQ (aB (by lia)) (PD (aQ (aB (by lia)) (PD (oz T (M.mb (j - 1) (by lia)) (M.ma (i - 1) (by lia)) hs ?_)))));dsimp only;cases c:O.blt (ky (kas_item y (j - 1))) (ky (kas_item x (i - 1))) with
 | true=>
  rw[if_pos rfl];refine PD (aQ (aB (by lia)) ?_);have m1:=hm.nJ (k:=i - 1) (by lia) M.sa (λe he f hf=>by
   obtain⟨a,a1,a2,a3,rfl⟩:=aW he;obtain⟨b,b1,b2,rfl⟩:=eg hf;have:a=i - 1:=by lia
   subst this;exact Qa (cc M.sb (show b<=j - 1 by lia) (by lia)) (KeyOrd.kle_of_klt c))
  rw[<-gR (x:=x) hi (by lia)] at m1;by_cases d:(i - 1==0)=true
  ·rw[if_pos d];have d':i - 1=0:=by simpa using d
   refine PK (q _ (.inl ⟨_,rfl,?_⟩));rw[dJ];rw[d'] at m1 ⊢;exact m1.qS M.sa M.sb
  ·rw[if_neg d];have d':¬i - 1=0:=by simpa using d
   have g:HP O ky x y n none (o.push (kas_item x (i - 1))) (i - 1) j:= .inr ⟨rfl,⟨m1,by lia,by lia,hj,zq⟩,by lia⟩;by_cases e:ca + 1>=mg
   ·rw[if_pos e];exact PK (q _ g)
   ·rw[if_neg e];exact PK (q _ ⟨rfl,g⟩)
 | false=>
  rw[if_neg (by simp)];refine PD (aQ (aB (by lia)) ?_);have m1:=hm.nK (k:=j - 1) (by lia) M.sb (λe he f hf=>by
   obtain⟨a,a1,a2,a3,rfl⟩:=aW he;obtain⟨b,b1,b2,rfl⟩:=eg hf;have:a=j - 1:=by lia
   subst this;exact Qa (cc M.sa (show b<=i - 1 by lia) (by lia)) c)
  rw[<-gR (x:=y) (by lia) zq] at m1;by_cases d:(j - 1==1)=true
  ·rw[if_pos d];have d':j - 1=1:=by simpa using d
   refine PK (q _ (.inl ⟨_,rfl,?_⟩));rw[fk];rw[d'] at m1 ⊢;exact m1.g6 M.sa M.sb (M.fst (by lia))
  ·rw[if_neg d];have d':¬j - 1=1:=by simpa using d
   have g:HP O ky x y n none (o.push (kas_item y (j - 1))) i (j - 1):= .inr ⟨rfl,⟨m1,hi,tM,by lia,by lia⟩,by lia⟩;by_cases e:cb + 1>=mg
   ·rw[if_pos e];exact PK (q _ g)
   ·rw[if_neg e];exact PK (q _ ⟨rfl,g⟩)
noncomputable def ML (O:KeyOrd) (ky:Keyed->O.α) (x y:Array Keyed) (n:Nat):ForInStep OH->Prop
 | .done r=>∃a,r.1=some a/\ph O ky x.toList y.toList a.toList
 | .yield r=>r.1=none/\yG O ky x y r.2.2.2.1 r.2.1 r.2.2.1/\r.2.1 + r.2.2.1 + n<=x.size + y.size
theorem Ac (T:Tells prog w A κ s O ky Mem) {x y:Array Keyed} (M:MP O ky Mem x y) {r:OH} (h:yG O ky x y r.2.2.2.1 r.2.1 r.2.2.1) {n:Nat} (hn:r.2.1 + r.2.2.1 + n<=x.size + y.size) {cY st:SortSt} (hs:kindOf st=κ) (jH:SI cY st)
  {Q:ForInStep OH->SortSt->Shared->Prop} (q:∀r' aj,SI cY aj->ML O ky x y (n + 1) r'->Q r' aj s):kasC (model prog w) A E (Dp x y r) Q st s:=by
 unfold Dp;have hp:=M.pa;refine PD (bE (Q:=λa aj s'=>st=aj/\s=s'/\HP O ky x y (n + 1) a.1 a.2.2.2.1 a.2.1 a.2.2.1) (kasC_range (cD (λjj a aj=>st=aj/\a.1=none/\yG O ky x y a.2.2.2.1 a.2.1 a.2.2.1/\a.2.1 + a.2.2.1 + n + jj<=x.size + y.size) ⟨rfl,rfl,h,by simpa using hn⟩ (λjj a aj z hj hI=>?_) (λa aj hI=>?_))) (λa aj s' hI=>?_))
 ·obtain⟨rfl,a0,BK,an⟩:=hI;refine DW T M BK (n:=n + jj + 1) (by lia) hs (λr' gh=>⟨rfl,?_⟩);cases r' with
  | done b=>
   refine⟨rfl,rfl,?_⟩;rcases gh with ⟨v,e,m⟩ | ⟨e,ok,l⟩
   ·exact .inl ⟨v,e,m⟩
   ·exact .inr ⟨e,ok,by lia⟩
  | yield b=>obtain⟨b0,gb⟩:=gh;obtain⟨ok,l⟩:=gb.none b0;exact⟨rfl,b0,ok,by lia⟩
 ·obtain⟨rfl,a0,BK,an⟩:=hI;rw[List.length_range'] at an;exact⟨rfl,rfl,.inr ⟨a0,BK,by lia⟩⟩
 obtain⟨rfl,rfl,ga⟩:=hI;rcases ga with ⟨v,e,m⟩ | ⟨e,ok,l⟩
 ·rw[e];exact PK (q _ _ jH ⟨v,rfl,m⟩)
 ·rw[e];refine PD (kasC_lift (wpAny_rule ?_));refine PD (bE (Q:=λb aj s'=>SI cY aj/\s=s'/\HP O ky x y (n + 1) b.1 b.2.2.2.1 b.2.1 b.2.2.1) (kasC_range (cD (λjj b aj=>SI cY aj/\kindOf aj=κ/\b.1=none/\yG O ky x y b.2.2.2.1 b.2.1 b.2.2.1/\b.2.1 + b.2.2.1 + (n + 1)<=x.size + y.size) ⟨jH,hs,rfl,ok,l⟩ (λjj b aj z hj hI=>?_) (λb aj hI=>?_))) (λb aj s' hI=>?_))
  ·obtain⟨si,ks,b0,yZ,bn⟩:=hI;have kk:∀de,SI cY de->kindOf de=κ:=λde h2=>(h2.1.trans si.1.symm).trans ks
   by_cases c:b.2.2.2.2.1 > 1
   ·rw[if_pos c];refine v5 T M yZ bn ks si (λr' de h2 gh=>⟨rfl,?_⟩);cases r' with
    | done b'=>exact⟨h2,rfl,gh⟩
    | yield b'=>obtain⟨c0,gc⟩:=gh;obtain⟨C9,l'⟩:=gc.none c0;exact⟨h2,kk de h2,c0,C9,l'⟩
   ·rw[if_neg c];refine v5 T M yZ bn ks si (λr' de h2 gh=>⟨rfl,?_⟩);cases r' with
    | done b'=>exact⟨h2,rfl,gh⟩
    | yield b'=>obtain⟨c0,gc⟩:=gh;obtain⟨C9,l'⟩:=gc.none c0;exact⟨h2,kk de h2,c0,C9,l'⟩
  ·obtain⟨si,ks,b0,yZ,bn⟩:=hI;exact⟨si,rfl,.inr ⟨b0,yZ,bn⟩⟩
  obtain⟨si,rfl,gb⟩:=hI;rcases gb with ⟨v,e2,m⟩ | ⟨e2,KG,l2⟩
  ·rw[e2];exact PK (q _ _ si ⟨v,rfl,m⟩)
  ·rw[e2];exact PD (jk λde h2=>PK (q _ _ (si.trans h2) ⟨rfl,KG,l2⟩))
theorem zP (T:Tells prog w A κ s O ky Mem) {x y:Array Keyed} (M:MP O ky Mem x y) {st:SortSt} (hs:kindOf st=κ) {Q:Array Keyed->SortSt->Shared->Prop} (q:∀v aj,SI st aj->ph O ky x.toList y.toList v.toList->Q v aj s):kasC (model prog w) A E (C2 x y) Q st s:=by
 rw[zO];unfold LZ;have hp:=M.pa;have hq:=M.pb;refine PD (kasC_lift (wpAny_rule ?_));refine PD (aQ (aB (by lia)) ?_);have m0:=HI.start (O:=O) (ky:=ky) (la:=x.toList) (lb:=y.toList);have lx:x.toList.length=x.size:=by simp
 have ly:y.toList.length=y.size:=by simp
 rw[lx,ly] at m0;have m1:=m0.nJ (k:=x.size - 1) (by lia) M.sa (λe he f hf=>by
  obtain⟨a,a1,a2,a3,rfl⟩:=aW he;obtain⟨b,b1,b2,rfl⟩:=eg hf;have:a=x.size - 1:=by lia
  subst this;exact KeyOrd.kle_of_klt (M.last b b2))
 have e0:(#[kas_item x (x.size - 1)]:Array Keyed).toList.reverse=(x.toList.drop (x.size - 1)).take (x.size - (x.size - 1))++[]:=by rw[show x.size - (x.size - 1)=1 by lia,take_one (by lia)];rfl
 rw[<-e0] at m1;by_cases c:(x.size - 1==0)=true
 ·rw[if_pos c];have c':x.size - 1=0:=by simpa using c
  refine PK (q _ _ (SI.refl _) ?_);rw[dJ];rw[c'] at m1 ⊢;exact m1.qS M.sa M.sb
 ·rw[if_neg c];have c':¬x.size - 1=0:=by simpa using c
  by_cases d:(y.size==1)=true
  ·rw[if_pos d];have d':y.size=1:=by simpa using d
   refine PK (q _ _ (SI.refl _) ?_);rw[fk];rw[d'] at m1 ⊢;exact m1.g6 M.sa M.sb (M.fst (by lia))
  ·rw[if_neg d];have d':¬y.size=1:=by simpa using d
   refine PD (kasC_get ?_);refine PD (bE (Q:=λr aj s'=>SI st aj/\s=s'/\∃a,r.1=some a/\ph O ky x.toList y.toList a.toList) (kasC_range (cD (λjj r aj=>SI st aj/\r.1=none/\yG O ky x y r.2.2.2.1 r.2.1 r.2.2.1/\r.2.1 + r.2.2.1 + (jj + 1)<=x.size + y.size) ⟨SI.refl _,rfl,⟨m1,(show 1<=x.size - 1 by lia),(show x.size - 1 < x.size by lia),(show 2<=y.size by lia),PF _⟩,(show x.size - 1 + y.size + (0 + 1)<=x.size + y.size by lia)⟩ (λjj r aj z hj hI=>?_) (λr aj hI=>?_))) (λr aj s' hI=>?_))
   ·obtain⟨si,r0,Av,rn⟩:=hI;refine Ac T M Av rn (si.1.trans hs) si (λr' de h2 gh=>⟨rfl,?_⟩);cases r' with
    | done b=>exact⟨h2,rfl,gh⟩
    | yield b=>exact⟨h2,gh.1,gh.2.1,gh.2.2⟩
   ·obtain⟨si,r0,Av,rn⟩:=hI;rw[List.length_range'] at rn;have h1:=Av.i1;have h2:=Av.j1
    lia
   obtain⟨si,rfl,a,e,m⟩:=hI;rw[e];exact PK (q _ _ si m)
end
noncomputable def Gv:Nat->StateT SortSt Sem Bool:=sortPriv% PySem.Builtin.mergeAt
noncomputable def back (M:Array Keyed) (p:Nat) (a:Array Keyed):Array Keyed:=M.toList.zipIdx.foldl (λb (q,j)=>b.setIfInBounds (p + j) q) a
theorem C0 (i:Nat):Gv i=(do
 let t<-get
 let (some (p,n,pw),some (q,m,_)):=((pendingOf t)[i]?,(pendingOf t)[i + 1]?) | unsupported "internal:list.sort.pending"
 set (SortSt.mk' (kindOf t) (arrOf t) (((pendingOf t).setIfInBounds i (p,n + m,pw)).eraseIdxIfInBounds (i + 1)) (gallopOf t) (failedOf t))
 let some k<-A7 false (<-elem' (arrOf t) q) (arrOf t) p n 0 | return false
 let (p,n):=(p + k,n - k)
 if n==0 then return true
 let some m<-A7 true (<-elem' (arrOf t) (p + n - 1)) (arrOf t) q m (m - 1) | return false
 if m==0 then return true
 let x:=(arrOf t).extract p q
 let y:=(arrOf t).extract q (q + m)
 let M<-if n<=m then C3 x y else C2 x y
 modify λt=>SortSt.mk' (kindOf t) (back M p (arrOf t)) (pendingOf t) (gallopOf t) (failedOf t)
 return (failedOf (<-get)).isNone):=by kernel_rfl
theorem kM:∀(M:List Keyed) (p c:Nat) (a:Array Keyed),p + c + M.length<=a.size->((M.zipIdx c).foldl (λb (q:Keyed×Nat)=>b.setIfInBounds (p + q.2) q.1) a).toList=a.toList.take (p + c)++M++a.toList.drop (p + c + M.length)
 | [],p,c,a,h=>by simp
 | e::M,p,c,a,h=>by
  rw[List.zipIdx_cons,List.foldl_cons];simp only[P0] at h;have ih:=kM M p (c + 1) (a.setIfInBounds (p + c) e) (by rw[Array.size_setIfInBounds];lia);rw[ih];have hs:(a.setIfInBounds (p + c) e).toList=a.toList.take (p + c)++[e]++a.toList.drop (p + c + 1):=by rw[Array.toList_setIfInBounds];rw[List.set_eq_take_append_cons_drop];rw[if_pos (by simp;lia)];simp
  have hl:(a.toList.take (p + c)++[e]).length=p + c + 1:=by simp;lia
  rw[hs];have e1:(a.toList.take (p + c)++[e]++a.toList.drop (p + c + 1)).take (p + (c + 1))=a.toList.take (p + c)++[e]:=by rw[show p + (c + 1)=(a.toList.take (p + c)++[e]).length by lia,List.take_left]
  have e2:(a.toList.take (p + c)++[e]++a.toList.drop (p + c + 1)).drop (p + (c + 1) + M.length)=a.toList.drop (p + c + (e::M).length):=by
   rw[show p + (c + 1) + M.length=(a.toList.take (p + c)++[e]).length + M.length by lia,List.drop_append,List.drop_of_length_le (Nat.le_add_right _ _),List.nil_append,Nat.add_sub_cancel_left,List.drop_drop];congr 1;simp only[P0]
   lia
  rw[e1,e2];simp
section
variable {O:KeyOrd} {ky:Keyed->O.α} {Mem:Keyed->Prop}
variable {prog:Program} {w:World} {A:Around} {E:Value->Shared->Prop} {κ:SortKind} {s:Shared}
theorem wq {t st:SortSt} {Q:PUnit->SortSt->Shared->Prop} (h:Q ⟨⟩ t s):kasC (model prog w) A E (set t:StateT SortSt Sem PUnit) Q st s:=by unfold kasC;rw[StateT.run_set];exact Pv h
theorem er (n1 n2 pw z:Nat):((#[(0,n1,pw),(n1,n2,z)]:Array (Nat×Nat×Nat)).setIfInBounds 0 (0,n1 + n2,pw)).eraseIdxIfInBounds (0 + 1)=#[(0,n1 + n2,pw)]:=by simp[Array.eraseIdxIfInBounds]
end
noncomputable def aL (lo n m:Nat):StateT SortSt Sem AscSt:=
 forIn [n:m] ((none,n):AscSt) λ_ r=>do
  let x<-ltAt' (lo + r.2) (lo + r.2 - 1)
  match x with
  | some c=>if c=true then pure (.done (none,r.2)) else pure (.yield (none,r.2 + 1))
  | _=>pure (.done (some none,r.2))
noncomputable def t3 (lo n m:Nat):StateT SortSt Sem (Option Nat):=do
 reverseSlice' lo (lo + n)
 let r<-aL lo n m
 match r.1 with
 | some v=>pure v
 | none=>pure (some r.2)
noncomputable def dL (lo n m:Nat):StateT SortSt Sem DescSt:=
 forIn [n:m] ((none,n,0):DescSt) λ_ r=>do
  let x<-ltAt' (lo + r.2.1) (lo + r.2.1 - 1)
  match x with
  | some c=>
   if c=true then
    if r.2.2 > 0 then do
     reverseSlice' (lo + r.2.1 - (r.2.2 + 1)) (lo + r.2.1)
     pure (.yield (none,r.2.1 + 1,0))
    else pure (.yield (none,r.2.1 + 1,0))
   else do
    let y<-ltAt' (lo + r.2.1 - 1) (lo + r.2.1)
    match y with
    | some d=>if d=true then pure (.done (none,r.2.1,r.2.2)) else pure (.yield (none,r.2.1 + 1,r.2.2 + 1))
    | _=>pure (.done (some none,r.2.1,r.2.2))
  | _=>pure (.done (some none,r.2.1,r.2.2))
noncomputable def dP (lo n m:Nat):StateT SortSt Sem (Option Nat):=do
 rule "list.sort.descending-run"
 let r<-dL lo (n + 1) m
 match r.1 with
 | some v=>pure v
 | none=>
  if r.2.2 > 0 then do
   reverseSlice' (lo + r.2.1 - (r.2.2 + 1)) (lo + r.2.1)
   t3 lo r.2.1 m
  else t3 lo r.2.1 m
noncomputable def cR (lo m:Nat):StateT SortSt Sem (Option Nat):=do
 let r<-aL lo 1 m
 match r.1 with
 | some v=>pure v
 | none=>
  if (r.2==m)=true then pure (some r.2)
  else if r.2 > 1 then do
   let x<-ltAt' lo (lo + r.2 - 1)
   match x with
   | some c=>if c=true then pure (some r.2) else do
     reverseSlice' lo (lo + r.2)
     dP lo r.2 m
   | _=>pure none
  else dP lo r.2 m
theorem Fg (lo m:Nat):countRun' lo m=cR lo m:=by kernel_rfl
noncomputable def pL (lo k:Nat):StateT SortSt Sem (Option Bool×Nat×Nat):=
 forIn [:k] ((none,0,k):Option Bool×Nat×Nat) λ_ r=>
  if r.2.1>=r.2.2 then pure (.done (none,r.2.1,r.2.2)) else do
   let x<-ltAt' (lo + k) (lo + (r.2.1 + r.2.2) / 2)
   match x with
   | some c=>if c=true then pure (.yield (none,r.2.1,(r.2.1 + r.2.2) / 2)) else pure (.yield (none,(r.2.1 + r.2.2) / 2 + 1,r.2.2))
   | _=>pure (.done (some false,r.2.1,r.2.2))
noncomputable def bS (lo n ok:Nat):StateT SortSt Sem Bool:=do
 let r<-forIn [max ok 1:n] ((none,()):Option Bool×Unit) λk _=>do
  let r<-pL lo k
  match r.1 with
  | some v=>pure (.done (some v,()))
  | none=>do
   moveDown' (lo + k) (lo + r.2.1)
   pure (.yield (none,()))
 match r.1 with
 | some v=>pure v
 | none=>pure true
theorem E6 (lo n ok:Nat):binarySort' lo n ok=bS lo n ok:=by kernel_rfl
section
variable {O:KeyOrd} {ky:Keyed->O.α} {Mem:Keyed->Prop}
variable {prog:Program} {w:World} {A:Around} {E:Value->Shared->Prop} {κ:SortKind} {s:Shared}
theorem c9 {β:Type} {a b:Nat} {b0:β} {f:Nat->β->StateT SortSt Sem (ForInStep β)} {Q:β->SortSt->Shared->Prop} (Inv:Nat->β->SortSt->Prop) {cY:SortSt} (h0:Inv a b0 cY)
  (step:∀x c st,a<=x->x < b->Inv x c st->kasC (model prog w) A E (f x c) (λr aj s'=>s'=s/\match r with | .done b'=>Q b' aj s | .yield b'=>Inv (x + 1) b' aj) st s)
  (fin:∀c st,Inv (max a b) c st->Q c st s):kasC (model prog w) A E (forIn [a:b] b0 f) Q cY s:=by
 have go:∀(n x:Nat) (c:β) (st:SortSt),x + n=max a b->a<=x->Inv x c st->kasC (model prog w) A E (forIn (List.range' x n) c f) Q st s:=by
  intro n
  induction n with
  | zero=>
   intro x c st hx hax hI;have e:x=max a b:=by lia
   subst e;exact kasC_nil (fin c st hI)
  | succ n ih=>
   intro x c st hx hax hI;rw[List.range'_succ];refine kasC_cons (wpAny_mono (step x c st hax (by lia) hI) (λr s' h'=>?_) λ_ _ e=>e);obtain⟨r,aj⟩:=r;obtain⟨rfl,h'⟩:=h';cases r with
   | done b'=>exact h'
   | yield b'=>exact ih (x + 1) b' aj (by lia) (by lia) h'
 exact kasC_range (go (b - a) a b0 cY (by lia) (PF _) h0)
structure Bs (κ:SortKind) (P:Array (Nat×Nat×Nat)) (lo:Nat) (b:Array Keyed) (st:SortSt):Prop where
 k:kindOf st=κ
 f:failedOf st=none
 p:pendingOf st=P
 pm:(arrOf st).toList.Perm b.toList
 lw:∀i,i < lo->kas_item (arrOf st) i=kas_item b i
variable {P:Array (Nat×Nat×Nat)} {lo:Nat} {b:Array Keyed}
theorem Bs.size {st:SortSt} (h:Bs κ P lo b st):(arrOf st).size=b.size:=by have:=h.pm.length_eq;simpa using this
theorem Bs.mem {st:SortSt} (h:Bs κ P lo b st) (hb:∀x∈b.toList,Mem x) {i:Nat} (hi:i < b.size):Mem (kas_item (arrOf st) i):=by
 have EH:i < (arrOf st).size:=by rw[h.size];exact hi
 refine hb _ (h.pm.mem_iff.mp ?_);have e:kas_item (arrOf st) i=(arrOf st)[i]:=by unfold kas_item;simp[Array.getD,EH]
 rw[e];simp
theorem gE {p q:Array Keyed} {i j:Nat} (h:p[i]?=q[j]?):kas_item p i=kas_item q j:=by unfold kas_item;rw[Array.getD_eq_getD_getElem?,Array.getD_eq_getD_getElem?,h]
theorem gF {a:Array Keyed} {i j:Nat} (hj:j<=a.size) (k:Nat):kas_item (mirror a i j ((j - i) / 2)) k=if i<=k/\k < j then kas_item a (i + j - 1 - k) else kas_item a k:=by
 have e:=getElem?_mirror_all (i:=i) hj k;by_cases h1:i<=k/\k < j
 ·rw[if_pos h1] at e ⊢;exact gE e
 ·rw[if_neg h1] at e ⊢;exact gE e
theorem jL {a:Array Keyed} {src d:Nat} (hs:src < a.size) (hd:d<=src) (k:Nat):
  kas_item (bubble a src d) k=if k=src - d then kas_item a src else if src - d < k/\k<=src then kas_item a (k - 1) else kas_item a k:=by
 have e:=getElem?_bubble hs d hd k;by_cases h1:k=src - d
 ·rw[if_pos h1] at e ⊢;exact gE e
 ·rw[if_neg h1] at e ⊢;by_cases h2:src - d < k/\k<=src
  ·rw[if_pos h2] at e ⊢;exact gE e
  ·rw[if_neg h2] at e ⊢;exact gE e
theorem Bs.rev {st:SortSt} (h:Bs κ P lo b st) {i j:Nat} (hi:lo<=i) (hj:j<=b.size):Bs κ P lo b (setArr st (mirror (arrOf st) i j ((j - i) / 2))):=
 ⟨h.k,h.f,h.p,(Array.perm_iff_toList_perm.mp (mirror_perm _ _ _ _)).trans h.pm,λk hk=>by
  have:=gF (a:=arrOf st) (i:=i) (j:=j) (by rw[h.size];exact hj) k;rw[if_neg (by lia)] at this;exact this.trans (h.lw k hk)⟩
theorem Bs.MV {st:SortSt} (h:Bs κ P lo b st) {c d:Nat} (hs:c < b.size) (hd:lo + d<=c):Bs κ P lo b (setArr st (bubble (arrOf st) c d)):=
 ⟨h.k,h.f,h.p,(Array.perm_iff_toList_perm.mp (bubble_perm _ _ _)).trans h.pm,λk hk=>by
  have:=jL (a:=arrOf st) (src:=c) (d:=d) (by rw[h.size];exact hs) (by lia) k;rw[if_neg (by lia),if_neg (by lia)] at this;exact this.trans (h.lw k hk)⟩
theorem gH (T:Tells prog w A κ s O ky Mem) (hb:∀x∈b.toList,Mem x) {st:SortSt} (h:Bs κ P lo b st) {i j:Nat} (hi:i < b.size) (hj:j < b.size) {Q:Option Bool->SortSt->Shared->Prop}
  (q:Q (some (O.blt (ky (kas_item (arrOf st) i)) (ky (kas_item (arrOf st) j)))) st s):kasC (model prog w) A E (ltAt' i j) Q st s:=by
 rw[ltAt'_eq];refine PD (kasC_get ?_);dsimp only;exact PD (aQ (aB (by rw[h.size];exact hi)) (PD (aQ (aB (by rw[h.size];exact hj)) (oz T (h.mem hb hi) (h.mem hb hj) h.k q))))
noncomputable def Up (O:KeyOrd) (ky:Keyed->O.α) (lo:Nat) (a:Array Keyed) (n:Nat):Prop:=∀i j,lo<=i->i<=j->j < lo + n->O.kle (ky (kas_item a i)) (ky (kas_item a j))
noncomputable def Dn (O:KeyOrd) (ky:Keyed->O.α) (lo:Nat) (a:Array Keyed) (n:Nat):Prop:=∀i j,lo<=i->i<=j->j < lo + n->O.kle (ky (kas_item a j)) (ky (kas_item a i))
noncomputable def kv (O:KeyOrd) (ky:Keyed->O.α) (lo:Nat) (a:Array Keyed) (n q:Nat):Prop:=∀k,lo + n - (q + 1)<=k->k < lo + n->ky (kas_item a k)=ky (kas_item a (lo + n - 1))
theorem Up.succ {a:Array Keyed} {n:Nat} (h:Up O ky lo a n) (h1:1<=n) (h2:O.kle (ky (kas_item a (lo + n - 1))) (ky (kas_item a (lo + n)))):Up O ky lo a (n + 1):=λi j hi fm hj=>by
 by_cases e:j=lo + n
 ·subst e;by_cases e2:i=lo + n
  ·subst e2;exact KeyOrd.kle_refl _
  ·exact Qa (h i (lo + n - 1) hi (by lia) (by lia)) h2
 ·exact h i j hi fm (by lia)
theorem Dn.succ {a:Array Keyed} {n:Nat} (h:Dn O ky lo a n) (h1:1<=n) (h2:O.kle (ky (kas_item a (lo + n))) (ky (kas_item a (lo + n - 1)))):Dn O ky lo a (n + 1):=λi j hi fm hj=>by
 by_cases e:j=lo + n
 ·subst e;by_cases e2:i=lo + n
  ·subst e2;exact KeyOrd.kle_refl _
  ·exact Qa h2 (h i (lo + n - 1) hi (by lia) (by lia))
 ·exact h i j hi fm (by lia)
theorem Dn.of {a c:Array Keyed} {n:Nat} (e:∀k,ky (kas_item c k)=ky (kas_item a k)) (h:Dn O ky lo a n):Dn O ky lo c n:=λi j x y z=>by rw[e,e];exact h i j x y z
theorem Up.one (a:Array Keyed):Up O ky lo a 1:=λi j x y z=>by rw[show i=j by lia];exact KeyOrd.kle_refl _
theorem Dn.one (a:Array Keyed):Dn O ky lo a 1:=λi j x y z=>by rw[show i=j by lia];exact KeyOrd.kle_refl _
theorem vx {a:Array Keyed} {i j:Nat} (hj:j<=a.size) (he:∀k,i<=k->k < j->ky (kas_item a k)=ky (kas_item a (j - 1))) (k:Nat):ky (kas_item (mirror a i j ((j - i) / 2)) k)=ky (kas_item a k):=by
 rw[gF hj];split
 ·rename_i h;rw[he (i + j - 1 - k) (by lia) (by lia),he k h.1 h.2]
 ·rfl
theorem xT {a:Array Keyed} {n:Nat} (hn:lo + n<=a.size) (h:Dn O ky lo a n):Up O ky lo (mirror a lo (lo + n) ((lo + n - lo) / 2)) n:=λi j hi fm hj=>by rw[gF hn,gF hn,if_pos (by lia),if_pos (by lia)];exact h _ _ (by lia) (by lia) (by lia)
theorem AQ (T:Tells prog w A κ s O ky Mem) (hb:∀x∈b.toList,Mem x) {st:SortSt} (h:Bs κ P lo b st) {n m:Nat} (hz:lo + m<=b.size) (h1:1<=n) (hn:n<=m) (hu:Up O ky lo (arrOf st) n) {Q:AscSt->SortSt->Shared->Prop}
  (q:∀k,n<=k->k<=m->Up O ky lo (arrOf st) k->(k < m->O.blt (ky (kas_item (arrOf st) (lo + k))) (ky (kas_item (arrOf st) (lo + k - 1)))=true)->Q (none,k) st s):kasC (model prog w) A E (aL lo n m) Q st s:=by
 unfold aL;refine c9 (λx r aj=>st=aj/\r=(none,x)/\Up O ky lo (arrOf st) x) ⟨rfl,rfl,hu⟩ (λx r aj hx1 zB hI=>?_) (λr aj hI=>?_)
 ·obtain⟨rfl,rfl,hu⟩:=hI;dsimp only;refine PD (gH T hb h (by lia) (by lia) ?_);dsimp only;cases c:O.blt (ky (kas_item (arrOf st) (lo + x))) (ky (kas_item (arrOf st) (lo + x - 1))) with
  | true=>rw[if_pos rfl];exact PK ⟨rfl,q x hx1 (by lia) hu λ_=>c⟩
  | false=>rw[if_neg (by simp)];exact PK ⟨rfl,rfl,rfl,hu.succ (by lia) c⟩
 ·obtain⟨rfl,rfl,hu⟩:=hI;rw[show max n m=m by lia] at hu ⊢;exact q m hn (PF _) hu λz=>absurd z (by lia)
theorem mQ {i j:Nat} {st:SortSt} {Q:Unit->SortSt->Shared->Prop} (q:Q () (setArr st (mirror (arrOf st) i j ((j - i) / 2))) s):kasC (model prog w) A E (reverseSlice' i j) Q st s:=by rw[reverseSlice'_eq];exact kasC_modify q
theorem Fj (T:Tells prog w A κ s O ky Mem) (hb:∀x∈b.toList,Mem x) {st:SortSt} (h:Bs κ P lo b st) {n m:Nat} (hz:lo + m<=b.size) (h1:1<=n) (hn:n<=m) (hd:Dn O ky lo (arrOf st) n) {Q:DescSt->SortSt->Shared->Prop}
  (q:∀aj k e,Bs κ P lo b aj->n<=k->k<=m->e + 1<=k->Dn O ky lo (arrOf aj) k->kv O ky lo (arrOf aj) k e->Q (none,k,e) aj s):kasC (model prog w) A E (dL lo n m) Q st s:=by
 unfold dL;have one:∀(a:Array Keyed) (k:Nat),1<=k->kv O ky lo a k 0:=λa k hk j x y=>by rw[show j=lo + k - 1 by lia]
 refine c9 (λx r aj=>∃e,r=(none,x,e)/\Bs κ P lo b aj/\e + 1<=x/\Dn O ky lo (arrOf aj) x/\kv O ky lo (arrOf aj) x e) ⟨0,rfl,h,by lia,hd,one _ _ h1⟩ (λx r aj hx1 zB hI=>?_) (λr aj hI=>?_)
 ·obtain⟨e,rfl,h,he,hd,hq⟩:=hI;have fU:=h.size;dsimp only;refine PD (gH T hb h (by lia) (by lia) ?_);dsimp only;cases c:O.blt (ky (kas_item (arrOf aj) (lo + x))) (ky (kas_item (arrOf aj) (lo + x - 1))) with
  | true=>
   rw[if_pos rfl];have kE:=hd.succ (by lia) (KeyOrd.kle_of_klt c);by_cases d:e > 0
   ·rw[if_pos d];refine PD (mQ (PK ⟨rfl,0,rfl,h.rev (by lia) (by lia),by lia,?_,one _ _ (by lia)⟩));exact Dn.of (vx (by lia) hq) kE
   ·rw[if_neg d];exact PK ⟨rfl,0,rfl,h,by lia,kE,one _ _ (by lia)⟩
  | false=>
   rw[if_neg (by simp)];refine PD (gH T hb h (by lia) (by lia) ?_);dsimp only;cases d:O.blt (ky (kas_item (arrOf aj) (lo + x - 1))) (ky (kas_item (arrOf aj) (lo + x))) with
   | true=>rw[if_pos rfl];exact PK ⟨rfl,q aj x e h hx1 (by lia) he hd hq⟩
   | false=>
    rw[if_neg (by simp)];have heq:ky (kas_item (arrOf aj) (lo + x))=ky (kas_item (arrOf aj) (lo + x - 1)):=O.total _ _ c d;refine PK ⟨rfl,e + 1,rfl,h,by lia,hd.succ (by lia) (by rw[heq];exact KeyOrd.kle_refl _),λk k1 k2=>?_⟩;rw[show lo + (x + 1) - 1=lo + x by lia];by_cases z:k=lo + x
    ·rw[z]
    ·rw[hq k (by lia) (by lia),heq]
 ·obtain⟨e,rfl,h,he,hd,hq⟩:=hI;rw[show max n m=m by lia] at hd hq he ⊢;exact q aj m e h hn (PF _) he hd hq
theorem Bu (T:Tells prog w A κ s O ky Mem) (hb:∀x∈b.toList,Mem x) {st:SortSt} (h:Bs κ P lo b st) {n m:Nat} (hz:lo + m<=b.size) (h1:1<=n) (hn:n<=m) (hd:Dn O ky lo (arrOf st) n) {Q:Option Nat->SortSt->Shared->Prop}
  (q:∀aj k,Bs κ P lo b aj->1<=k->k<=m->Up O ky lo (arrOf aj) k->Q (some k) aj s):kasC (model prog w) A E (t3 lo n m) Q st s:=by
 unfold t3;have fU:=h.size;refine PD (mQ (PD (AQ T hb (h.rev (PF _) (by lia)) hz h1 hn (xT (by lia) hd) λk k1 k2 ku _=>?_)));exact PK (q _ k (h.rev (PF _) (by lia)) (by lia) k2 ku)
theorem A3 (T:Tells prog w A κ s O ky Mem) (hb:∀x∈b.toList,Mem x) {st:SortSt} (h:Bs κ P lo b st) {n m:Nat} (hz:lo + m<=b.size) (h1:1<=n) (hn:n + 1<=m) (hd:Dn O ky lo (arrOf st) (n + 1)) {Q:Option Nat->SortSt->Shared->Prop}
  (q:∀aj k,Bs κ P lo b aj->1<=k->k<=m->Up O ky lo (arrOf aj) k->Q (some k) aj s):kasC (model prog w) A E (dP lo n m) Q st s:=by
 unfold dP;refine PD (kasC_lift (wpAny_rule ?_));refine PD (Fj T hb h hz (by lia) hn hd λaj k e h' k1 k2 ke kd kq=>?_);dsimp only;have fU:=h'.size;by_cases d:e > 0
 ·rw[if_pos d];exact PD (mQ (Bu T hb (h'.rev (by lia) (by lia)) hz (by lia) k2 (Dn.of (vx (by lia) kq) kd) q))
 ·rw[if_neg d];exact Bu T hb h' hz (by lia) k2 kd q
theorem Fh (T:Tells prog w A κ s O ky Mem) (hb:∀x∈b.toList,Mem x) {st:SortSt} (h:Bs κ P lo b st) {m:Nat} (hz:lo + m<=b.size) (h1:1<=m) {Q:Option Nat->SortSt->Shared->Prop}
  (q:∀aj k,Bs κ P lo b aj->1<=k->k<=m->Up O ky lo (arrOf aj) k->Q (some k) aj s):kasC (model prog w) A E (countRun' lo m) Q st s:=by
 rw[Fg];unfold cR;have fU:=h.size;refine PD (AQ T hb h hz (PF _) h1 (Up.one _) λn n1 n2 nu nl=>?_);dsimp only;by_cases e:(n==m)=true
 ·rw[if_pos e];exact PK (q _ n h n1 n2 nu)
 ·rw[if_neg e];have e':n≠m:=by simpa using e
  have cJ:=nl (by lia);by_cases hn:n > 1
  ·rw[if_pos hn];refine PD (gH T hb h (by lia) (by lia) ?_);dsimp only;cases c:O.blt (ky (kas_item (arrOf st) lo)) (ky (kas_item (arrOf st) (lo + n - 1))) with
   | true=>rw[if_pos rfl];exact PK (q _ n h n1 n2 nu)
   | false=>
    rw[if_neg (by simp)];have all:∀k,lo<=k->k < lo + n->ky (kas_item (arrOf st) k)=ky (kas_item (arrOf st) (lo + n - 1)):=λk k1 k2=>by refine KeyOrd.kle_antisymm (nu k (lo + n - 1) k1 (by lia) (by lia)) (Qa (show O.kle (ky (kas_item (arrOf st) (lo + n - 1))) (ky (kas_item (arrOf st) lo)) from c) (nu lo k (PF _) k1 k2))
    refine PD (mQ (A3 T hb (h.rev (PF _) (by lia)) hz n1 (by lia) (Dn.of (vx (by lia) all) (Dn.succ (λi j hi fm hj=>?_) n1 (KeyOrd.kle_of_klt cJ))) q));rw[all i hi (by lia),all j (by lia) hj];exact KeyOrd.kle_refl _
  ·rw[if_neg hn];have e1:n=1:=by lia
   subst e1;exact A3 T hb h hz n1 (by lia) (Dn.succ (Dn.one _) n1 (KeyOrd.kle_of_klt cJ)) q
theorem GQ (T:Tells prog w A κ s O ky Mem) (hb:∀x∈b.toList,Mem x) {st:SortSt} (h:Bs κ P lo b st) {k:Nat} (hz:lo + k < b.size) (hu:Up O ky lo (arrOf st) k) {Q:Option Bool×Nat×Nat->SortSt->Shared->Prop}
  (q:∀l r,l<=k->(∀i,lo<=i->i < lo + l->O.kle (ky (kas_item (arrOf st) i)) (ky (kas_item (arrOf st) (lo + k))))->(∀i,lo + l<=i->i < lo + k->O.klt (ky (kas_item (arrOf st) (lo + k))) (ky (kas_item (arrOf st) i)))->Q (none,l,r) st s):kasC (model prog w) A E (pL lo k) Q st s:=by
 unfold pL;refine c9 (λx c aj=>st=aj/\∃l r,c=(none,l,r)/\l<=r/\r<=k/\r - l<=k - x/\(∀i,lo<=i->i < lo + l->O.kle (ky (kas_item (arrOf st) i)) (ky (kas_item (arrOf st) (lo + k))))/\(∀i,lo + r<=i->i < lo + k->O.klt (ky (kas_item (arrOf st) (lo + k))) (ky (kas_item (arrOf st) i))))
  ⟨rfl,0,k,rfl,by lia,by lia,by lia,λi a c=>absurd a (by lia),λi a c=>absurd a (by lia)⟩ (λx r aj hx1 zB hI=>?_) (λr aj hI=>?_)
 ·obtain⟨rfl,l,r,rfl,lr,rk,rl,mC,yv⟩:=hI;dsimp only;by_cases c:l>=r
  ·rw[if_pos c];have e:l=r:=by lia
   subst e;exact PK ⟨rfl,q l l rk mC yv⟩
  ·rw[if_neg c];refine PD (gH T hb h (by lia) (by lia) ?_);dsimp only;cases d:O.blt (ky (kas_item (arrOf st) (lo + k))) (ky (kas_item (arrOf st) (lo + (l + r) / 2))) with
   | true=>rw[if_pos rfl];exact PK ⟨rfl,rfl,l,(l + r) / 2,rfl,by lia,by lia,by lia,mC,λi i1 i2=>KeyOrd.klt_of_klt_of_kle d (hu _ _ (by lia) i1 i2)⟩
   | false=>rw[if_neg (by simp)];exact PK ⟨rfl,rfl,(l + r) / 2 + 1,r,rfl,by lia,by lia,by lia,λi i1 i2=>Qa (hu i (lo + (l + r) / 2) i1 (by lia) (by lia)) d,yv⟩
 ·obtain⟨rfl,l,r,rfl,lr,rk,rl,mC,yv⟩:=hI;have e:l=r:=by lia
  subst e;exact q l l rk mC yv
theorem E7 (T:Tells prog w A κ s O ky Mem) (hb:∀x∈b.toList,Mem x) {st:SortSt} (h:Bs κ P lo b st) {n k:Nat} (hz:lo + n<=b.size) (h1:1<=k) (hk:k<=n) (hu:Up O ky lo (arrOf st) k) {Q:Bool->SortSt->Shared->Prop}
  (q:∀aj,Bs κ P lo b aj->Up O ky lo (arrOf aj) n->Q true aj s):kasC (model prog w) A E (binarySort' lo n k) Q st s:=by
 rw[E6];unfold bS;refine PD (c9 (λx c aj=>c=(none,())/\Bs κ P lo b aj/\Up O ky lo (arrOf aj) x) ⟨rfl,h,by rw[show max k 1=k by lia];exact hu⟩ (λx r aj hx1 zB hI=>?_) (λr aj hI=>?_))
 ·obtain⟨rfl,h,hu⟩:=hI;have fU:=h.size;refine PD (GQ T hb h (by lia) hu λl r hl mC yv=>?_);dsimp only;rw[moveDown'_eq];refine PD (kasC_modify (PK ⟨rfl,rfl,h.MV (by lia) (by lia),λi j hi fm hj=>?_⟩));show O.kle (ky (kas_item (bubble (arrOf aj) (lo + x) (lo + x - (lo + l))) i)) (ky (kas_item (bubble (arrOf aj) (lo + x) (lo + x - (lo + l))) j));rw[jL (by lia) (by lia),jL (by lia) (by lia),show lo + x - (lo + x - (lo + l))=lo + l by lia]
  repeat' split
  all_goals first
   | (exfalso;lia)
   | exact KeyOrd.kle_refl _
   | exact mC _ (by lia) (by lia)
   | exact KeyOrd.kle_of_klt (yv _ (by lia) (by lia))
   | exact hu _ _ (by lia) (by lia) (by lia)
 ·obtain⟨rfl,h,hu⟩:=hI;rw[show max (max k 1) n=n by lia] at hu;exact PK (q _ h hu)
end
noncomputable def KM (size pw:Nat):StateT SortSt Sem (Option Unit×Unit):=
 forIn [:size] ((none,()):Option Unit×Unit) λ_ _=>do
  let st<-get
  match (if (pendingOf st).size > 1 then(pendingOf st)[(pendingOf st).size - 2]? else none) with
  | some (_,_,older)=>
   if older<=pw then pure (.done (none,())) else do
    let ok<-Gv ((pendingOf st).size - 2)
    if (!ok)=true then pure (.done (some (),())) else pure (.yield (none,()))
  | _=>pure (.done (none,()))
noncomputable def Ic (size lo n:Nat):StateT SortSt Sem (ForInStep (Option Unit×Nat)):=do
 let st<-get
 match (pendingOf st).back? with
 | some (s1,n1,_)=>do
  let r<-KM size (power' size (2 * s1 + n1) (2 * s1 + n1 + n1 + n) size)
  match r.1 with
  | some v=>pure (.done (some v,lo))
  | none=>do
   modify λs=>setPending s ((pendingOf s).modify ((pendingOf s).size - 1) λ(st,len,_)=>(st,len,power' size (2 * s1 + n1) (2 * s1 + n1 + n1 + n) size))
   modify λs=>setPending s ((pendingOf s).push (lo,n,0))
   pure (.yield (none,lo + n))
 | _=>do
  modify λs=>setPending s ((pendingOf s).push (lo,n,0))
  pure (.yield (none,lo + n))
noncomputable def Hn (size mr lo:Nat):StateT SortSt Sem (ForInStep (Option Unit×Nat)):=
 if lo>=size then pure (.done (none,lo)) else do
  let f<-countRun' lo (size - lo)
  match f with
  | some n=>
   if n < mr then do
    rule "list.sort.binary-insertion"
    let ok<-binarySort' lo (min (size - lo) mr) n
    if (!ok)=true then pure (.done (some (),lo)) else Ic size lo (min (size - lo) mr)
   else Ic size lo n
  | _=>pure (.done (some (),lo))
noncomputable def ix (p:Array (Nat×Nat×Nat)):Nat:=if (if p.size - 2 > 0 then p[p.size - 2 - 1]?.map (·.2.1) else none).any (· < (p[p.size - 2 + 1]?.elim 0 (·.2.1))) then p.size - 2 - 1 else p.size - 2
noncomputable def IA (size:Nat):StateT SortSt Sem (Option Unit×Unit):=
 forIn [:size] ((none,()):Option Unit×Unit) λ_ _=>do
  let st<-get
  if (pendingOf st).size<=1 then pure (.done (none,())) else do
   let ok<-Gv (ix (pendingOf st))
   if (!ok)=true then pure (.done (some (),())) else pure (.yield (none,()))
noncomputable def sR:StateT SortSt Sem Unit:=do
 let st<-get
 let r<-forIn [:(arrOf st).size] ((none,0):Option Unit×Nat) λ_ r=>Hn (arrOf st).size (minRun' (arrOf st).size (arrOf st).size 0) r.2
 match r.1 with
 | some v=>pure v
 | none=>do
  let r<-IA (arrOf st).size
  match r.1 with
  | some v=>pure v
  | none=>pure ()
theorem G2:sortRuns'=sR:=by kernel_rfl
section
variable {O:KeyOrd} {ky:Keyed->O.α} {Mem:Keyed->Prop}
variable {prog:Program} {w:World} {A:Around} {E:Value->Shared->Prop} {κ:SortKind} {s:Shared} {a:Array Keyed}
theorem Up.Hm {b:Array Keyed} {n:Nat} (hn:b.size=n) (h:Up O ky 0 b n):gp O ky b.toList:=by
 refine List.pairwise_iff_getElem.mpr λi j hi hj fm=>?_
 have e:∀k,(h:k < b.size)->kas_item b k=b.toList[k]'(by simpa using h):=λk h=>by unfold kas_item;simp[Array.getD,h]
 have tO:j < b.size:=by simpa using hj
 rw[<-e i (by lia),<-e j tO];exact h i j (by lia) (by lia) (by lia)
end
section
variable {O:KeyOrd} {ky:Keyed->O.α} {Mem:Keyed->Prop}
variable {prog:Program} {w:World} {A:Around} {E:Value->Shared->Prop} {κ:SortKind} {s:Shared}
theorem item_list (b:Array Keyed) (t:Nat):kas_item b t=b.toList.getD t (Value.none,Value.none):=by unfold kas_item;simp[Array.getD,List.getD];split <;> simp_all
theorem D1 {l:List Keyed} (h:gp O ky l) {i j:Nat} (fm:i<=j) (hj:j < l.length):le O ky (l.getD i (Value.none,Value.none)) (l.getD j (Value.none,Value.none)):=by
 rcases Nat.lt_or_ge i j with c | c
 ·have:=List.pairwise_iff_getElem.mp h i j (by lia) hj c;rw[List.getD_eq_getElem?_getD,List.getD_eq_getElem?_getD,P7 hj,P7 (by lia)];exact this
 ·have e:i=j:=by lia
  subst e;exact KeyOrd.kle_refl _
theorem vL {l m:List Keyed} {d:Keyed} {i:Nat} (h:i < l.length):(l++m).getD i d=l.getD i d:=by rw[List.getD_eq_getElem?_getD,List.getD_eq_getElem?_getD,Qp h]
theorem vM {l m:List Keyed} {d:Keyed} {i:Nat} (h:l.length<=i):(l++m).getD i d=m.getD (i - l.length) d:=by rw[List.getD_eq_getElem?_getD,List.getD_eq_getElem?_getD,Qq h]
theorem Kw (T:Tells prog w A κ s O ky Mem) {a:Array Keyed} {P:Array (Nat×Nat×Nat)} {i p n1 n2 pw z g:Nat} (Nw:P[i]?=some (p,n1,pw)) (JN:P[i + 1]?=some (p + n1,n2,z)) (fU:p + n1 + n2<=a.size) (h1:1<=n1) (h2:1<=n2) (hm:∀i,i < a.size->Mem (kas_item a i))
  (sA:∀i j,p<=i->i<=j->j < p + n1->le O ky (kas_item a i) (kas_item a j)) (sB:∀i j,p + n1<=i->i<=j->j < p + n1 + n2->le O ky (kas_item a i) (kas_item a j))
  {Q:Bool->SortSt->Shared->Prop} (q:∀aj:SortSt,kindOf aj=κ->pendingOf aj=(P.setIfInBounds i (p,n1 + n2,pw)).eraseIdxIfInBounds (i + 1)->failedOf aj=none->(arrOf aj).toList.Perm a.toList->Up O ky p (arrOf aj) (n1 + n2)->
   (∀t,t < p\/p + n1 + n2<=t->kas_item (arrOf aj) t=kas_item a t)->Q true aj s):
  kasC (model prog w) A E (Gv i) Q (SortSt.mk' κ a P g none) s:=by
 rw[C0];refine PD (kasC_get ?_);dsimp only;have e0:(pendingOf (SortSt.mk' κ a P g none))[i]?=some (p,n1,pw):=Nw;have e1:(pendingOf (SortSt.mk' κ a P g none))[i + 1]?=some (p + n1,n2,z):=JN;rw[e0,e1];dsimp only;refine PD (wq ?_);refine PD (aQ (aB (x:=a) (show p + n1 < a.size by lia)) (PD ?_));refine g9 T (λt=>kas_item a (p + t)) (λt ht=>aB (x:=a) (by lia)) (λt ht=>hm _ (by lia)) (hm (p + n1) (by lia)) (by lia) (λi j fm hj hb=>?_) rfl (λk hk1 cJ ko=>?_)
 ·unfold dm at hb ⊢;rw[if_neg (by simp)] at hb ⊢;have:=sA (p + i) (p + j) (by lia) (by lia) (by lia);cases zz:O.blt (ky (kas_item a (p + n1))) (ky (kas_item a (p + i))) with
  | false=>rfl
  | true=>have z2:O.blt (ky (kas_item a (p + n1))) (ky (kas_item a (p + j)))=true:=KeyOrd.klt_of_klt_of_kle zz this;have rf:(!O.blt (ky (kas_item a (p + n1))) (ky (kas_item a (p + j))))=true:=hb;rw[z2] at rf;cases rf
 have lo:∀t,p<=t->t < p + k->le O ky (kas_item a t) (kas_item a (p + n1)):=λt h0 ht=>by have zz:=cJ (t - p) (by lia);unfold dm at zz;rw[if_neg (by simp)] at zz;have z2:(!O.blt (ky (kas_item a (p + n1))) (ky (kas_item a (p + (t - p)))))=true:=zz;rw[show p + (t - p)=t by lia] at z2;show O.blt (ky (kas_item a (p + n1))) (ky (kas_item a t))=false;simpa using z2
 have up:∀t,p + k<=t->t < p + n1->O.blt (ky (kas_item a (p + n1))) (ky (kas_item a t))=true:=λt h1 h2=>by have zz:=ko (t - p) (by lia) (by lia);unfold dm at zz;rw[if_neg (by simp)] at zz;have z2:(!O.blt (ky (kas_item a (p + n1))) (ky (kas_item a (p + (t - p)))))=false:=zz;rw[show p + (t - p)=t by lia] at z2;simpa using z2
 have xF:∀b:Array Keyed,(∀i j,i < j->j < b.size->le O ky (kas_item b i) (kas_item b j))->gp O ky b.toList:=λb hb=>by
  refine List.pairwise_iff_getElem.mpr λi j hi hj fm=>?_
  have e:∀k,(h:k < b.size)->kas_item b k=b.toList[k]'(by simpa using h):=λk h=>by unfold kas_item;simp[Array.getD,h]
  rw[<-e i (by simpa using hi),<-e j (by simpa using hj)];exact hb i j fm (by simpa using hj)
 dsimp only;by_cases c:(n1 - k==0)=true
 ·rw[if_pos c];have c':n1 - k=0:=by simpa using c
  refine PK (q _ rfl rfl rfl (List.Perm.refl _) (λi j hi fm hj=>?_) λt _=>rfl);by_cases ci:j < p + n1
  ·exact sA i j hi fm ci
  ·by_cases cj:i < p + n1
   ·exact Qa (lo i hi (by lia)) (sB (p + n1) j (PF _) (by lia) (by lia))
   ·exact sB i j (by lia) (by lia) (by lia)
 ·rw[if_neg c];have c':¬n1 - k=0:=by simpa using c
  refine PD (aQ (aB (x:=a) (show p + k + (n1 - k) - 1 < a.size by lia)) (PD ?_));have el:p + k + (n1 - k) - 1=p + n1 - 1:=by lia
  refine g9 T (λt=>kas_item a (p + n1 + t)) (λt ht=>aB (x:=a) (by lia)) (λt ht=>hm _ (by lia)) (hm _ (by lia)) (by lia) (λi j fm hj hb=>?_) rfl (λm hm1 hmlt hmge=>?_)
  ·unfold dm at hb ⊢;rw[if_pos rfl] at hb ⊢;exact KeyOrd.klt_of_kle_of_klt (sB (p + n1 + i) (p + n1 + j) (by lia) (by lia) (by lia)) hb
  have MU:∀t,p + n1<=t->t < p + n1 + m->O.blt (ky (kas_item a t)) (ky (kas_item a (p + n1 - 1)))=true:=λt h1 h2=>by have zz:=hmlt (t - (p + n1)) (by lia);unfold dm at zz;rw[if_pos rfl,el] at zz;have z2:O.blt (ky (kas_item a (p + n1 + (t - (p + n1))))) (ky (kas_item a (p + n1 - 1)))=true:=zz;rw[show p + n1 + (t - (p + n1))=t by lia] at z2;exact z2
  have LC:∀t,p + n1 + m<=t->t < p + n1 + n2->le O ky (kas_item a (p + n1 - 1)) (kas_item a t):=λt h1 h2=>by have zz:=hmge (t - (p + n1)) (by lia) (by lia);unfold dm at zz;rw[if_pos rfl,el] at zz;have z2:O.blt (ky (kas_item a (p + n1 + (t - (p + n1))))) (ky (kas_item a (p + n1 - 1)))=false:=zz;rw[show p + n1 + (t - (p + n1))=t by lia] at z2;exact z2
  have m0:m≠0:=λe=>by have z1:=LC (p + n1) (by lia) (by lia);have z2:=up (p + n1 - 1) (by lia) (by lia);exact KeyOrd.not_klt_of_kle z1 z2
  dsimp only;rw[if_neg (by simpa using m0)];have gx:∀t,t < n1 - k->kas_item (a.extract (p + k) (p + n1)) t=kas_item a (p + k + t):=λt ht=>by unfold kas_item;simp[Array.getD,show t < p + n1 - (p + k) by lia,show p + k + t < a.size by lia,show min (p + n1) a.size=p + n1 by lia]
  have gy:∀t,t < m->kas_item (a.extract (p + n1) (p + n1 + m)) t=kas_item a (p + n1 + t):=λt ht=>by unfold kas_item;simp[Array.getD,show p + n1 + t < a.size by lia,show min (p + n1 + m) a.size=p + n1 + m by lia,ht]
  have sx:(a.extract (p + k) (p + n1)).size=n1 - k:=by simp;lia
  have sy:(a.extract (p + n1) (p + n1 + m)).size=m:=by simp;lia
  have MM:MP O ky Mem (a.extract (p + k) (p + n1)) (a.extract (p + n1) (p + n1 + m)):=by
   refine⟨xF _ λi j fm hj=>?_,xF _ λi j fm hj=>?_,λi hi=>?_,λi hi=>?_,by lia,by lia,?_,λj hj=>?_⟩
   ·rw[gx i (by lia),gx j (by lia)];exact sA _ _ (by lia) (by lia) (by lia)
   ·rw[gy i (by lia),gy j (by lia)];exact sB _ _ (by lia) (by lia) (by lia)
   ·rw[gx i (by lia)];exact hm _ (by lia)
   ·rw[gy i (by lia)];exact hm _ (by lia)
   ·rw[gx 0 (by lia),gy 0 (by lia)];exact up (p + k) (PF _) (by lia)
   ·rw[sx,gx (n1 - k - 1) (by lia),gy j (by lia),show p + k + (n1 - k - 1)=p + n1 - 1 by lia];exact MU _ (by lia) (by lia)
  have lx:(a.extract (p + k) (p + n1)).toList=(a.toList.drop (p + k)).take (n1 - k):=by have:=qX a (k:=p + k) (i:=p + n1);rw[show p + n1 - (p + k)=n1 - k by lia] at this;exact this
  have ly:(a.extract (p + n1) (p + n1 + m)).toList=(a.toList.drop (p + n1)).take m:=jD a (p + n1) m;have fin:∀(v:Array Keyed) (aj:SortSt),kindOf aj=κ->arrOf aj=a->pendingOf aj=(P.setIfInBounds i (p,n1 + n2,pw)).eraseIdxIfInBounds (i + 1)->failedOf aj=none->ph O ky (a.extract (p + k) (p + n1)).toList (a.extract (p + n1) (p + n1 + m)).toList v.toList->
    kasC (model prog w) A E (do
     modify λt=>SortSt.mk' (kindOf t) (back v (p + k) (arrOf t)) (pendingOf t) (gallopOf t) (failedOf t)
     let t<-get
     pure (failedOf t).isNone) Q aj s:=λv aj k1 k2 k3 k4 hv=>by
   refine PD (kasC_modify (PD (kasC_get (PK ?_))));obtain⟨vp,vs⟩:=hv;have vl:v.toList.length=n1 - k + m:=by
    rw[vp.length_eq,PY];simp only[P3]
    lia
   have bl:(back v (p + k) a).toList=a.toList.take (p + k)++v.toList++a.toList.drop (p + n1 + m):=by
    have:=kM v.toList (p + k) 0 a (by lia);unfold back;refine Eq.trans ?_ (this.trans ?_)
    ·rfl
    ·rw[Nat.add_zero,vl,show p + k + (n1 - k + m)=p + n1 + m by lia]
   have al:a.toList.length=a.size:=P3;have OL:a.toList=a.toList.take (p + k)++((a.toList.drop (p + k)).take (n1 - k)++(a.toList.drop (p + n1)).take m)++a.toList.drop (p + n1 + m):=by have b1:=ju (l:=a.toList) (i:=p + n1) (k:=p + k) (by lia);rw[show p + n1 - (p + k)=n1 - k by lia] at b1;rw[PV,PV,<-cv (l:=a.toList) (i:=p + n1) (k:=m),<-b1,List.take_append_drop]
   have pm:(back v (p + k) a).toList.Perm a.toList:=by
    rw[bl]
    conv=>rhs;rw[OL]
    rw[lx,ly] at vp;exact((List.Perm.refl _).append vp).append (List.Perm.refl _)
   have Ky:∀e∈v.toList,(∃t,p + k<=t/\t < p + n1/\e=kas_item a t)\/(∃t,p + n1<=t/\t < p + n1 + m/\e=kas_item a t):=λe he=>by
    rw[lx,ly] at vp;rcases P5.mp (vp.mem_iff.mp he) with he | he
    ·obtain⟨t,t1,t2,t3,rfl⟩:=aW he;exact .inl ⟨t,t1,by lia,rfl⟩
    ·obtain⟨t,t1,t2,t3,rfl⟩:=aW he;exact .inr ⟨t,t1,by lia,rfl⟩
   have Ex:∀t,t < p + k->kas_item (back v (p + k) a) t=kas_item a t:=λt ht=>by rw[item_list,item_list,bl,PV,vL (by rw[List.length_take];lia)];rw[List.getD_eq_getElem?_getD,List.getD_eq_getElem?_getD,List.getElem?_take_of_lt ht]
   have at2:∀t,p + k<=t->t < p + n1 + m->kas_item (back v (p + k) a) t=v.toList.getD (t - (p + k)) (Value.none,Value.none):=λt h1 h2=>by
    have hl:(a.toList.take (p + k)).length=p + k:=by rw[List.length_take];lia
    rw[item_list,bl,PV,vM (by lia),hl,vL (by lia)]
   have Jg:∀t,p + n1 + m<=t->kas_item (back v (p + k) a) t=kas_item a t:=λt h1=>by
    have hl:(a.toList.take (p + k)++v.toList).length=p + n1 + m:=by rw[PY,List.length_take];lia
    rw[item_list,item_list,bl,vM (by lia),hl];rw[List.getD_eq_getElem?_getD,List.getD_eq_getElem?_getD,List.getElem?_drop];congr 2
    lia
   have tV:∀t,p + k<=t->t < p + n1 + m->(∃u,p + k<=u/\u < p + n1/\kas_item (back v (p + k) a) t=kas_item a u)\/(∃u,p + n1<=u/\u < p + n1 + m/\kas_item (back v (p + k) a) t=kas_item a u):=λt h1 h2=>by rw[at2 t h1 h2];refine Ky _ ?_;rw[List.getD_eq_getElem?_getD,P7 (by lia)];exact List.getElem_mem _
   have ss:Up O ky p (back v (p + k) a) (n1 + n2):=λi j hi fm hj=>by
    show le O ky (kas_item (back v (p + k) a) i) (kas_item (back v (p + k) a) j);by_cases c1:j < p + k
    ·rw[Ex i (by lia),Ex j c1];exact sA i j hi fm (by lia)
    by_cases c2:j < p + n1 + m
    ·by_cases c3:i < p + k
     ·rw[Ex i c3];rcases tV j (by lia) c2 with ⟨u,u1,u2,e⟩ | ⟨u,u1,u2,e⟩
      ·rw[e];exact sA i u hi (by lia) u2
      ·rw[e];exact Qa (lo i hi c3) (sB (p + n1) u (PF _) u1 (by lia))
     ·rw[at2 i (by lia) (by lia),at2 j (by lia) c2];exact D1 vs (by lia) (by lia)
    ·rw[Jg j (by lia)];by_cases c3:i < p + k
     ·rw[Ex i c3];exact Qa (lo i hi c3) (sB (p + n1) j (PF _) (by lia) (by lia))
     by_cases c4:i < p + n1 + m
     ·rcases tV i (by lia) c4 with ⟨u,u1,u2,e⟩ | ⟨u,u1,u2,e⟩
      ·rw[e];exact Qa (sA u (p + n1 - 1) (by lia) (by lia) (by lia)) (LC j (by lia) (by lia))
      ·rw[e];exact sB u j u1 (by lia) (by lia)
     ·rw[Jg i (by lia)];exact sB i j (by lia) fm (by lia)
   have qq:=q (SortSt.mk' (kindOf aj) (back v (p + k) (arrOf aj)) (pendingOf aj) (gallopOf aj) (failedOf aj)) k1 k3 k4 (by rw[k2];exact pm) (by rw[k2];exact ss) (λt ht=>by
    show kas_item (back v (p + k) (arrOf aj)) t=_;rw[k2];rcases ht with ht | ht
    ·exact Ex t (by lia)
    ·exact Jg t (by lia))
   have e:(failedOf aj).isNone=true:=by rw[k4];rfl
   show Q (failedOf aj).isNone _ s;rw[e];exact qq
  by_cases d:n1 - k<=m
  ·rw[if_pos d];refine PD (zR T MM rfl λv aj si hv=>?_);exact fin v aj si.1 si.2.1 si.2.2.1 si.2.2.2 hv
  ·rw[if_neg d];refine PD (zP T MM rfl λv aj si hv=>?_);exact fin v aj si.1 si.2.1 si.2.2.1 si.2.2.2 hv
end
section
variable {O:KeyOrd} {ky:Keyed->O.α} {Mem:Keyed->Prop}
variable {prog:Program} {w:World} {A:Around} {E:Value->Shared->Prop} {κ:SortKind} {s:Shared} {a:Array Keyed}
noncomputable def Rn (O:KeyOrd) (ky:Keyed->O.α) (b:Array Keyed):List (Nat×Nat×Nat)->Nat->Nat->Prop
 | [],lo,hi=>lo=hi
 | x::r,lo,hi=>x.1=lo/\1<=x.2.1/\Up O ky lo b x.2.1/\Rn O ky b r (lo + x.2.1) hi
theorem Rn.le {b:Array Keyed}:∀{l:List (Nat×Nat×Nat)} {lo hi:Nat},Rn O ky b l lo hi->lo + l.length<=hi
 | [],lo,hi,h=>by have h:lo=hi:=h;simp;lia
 | x::r,lo,hi,h=>by
  obtain⟨_,h2,_,h4⟩:=h;have:=Rn.le h4;simp only[P0]
  lia
theorem Rn.app {b:Array Keyed}:∀{l m:List (Nat×Nat×Nat)} {lo hi:Nat},Rn O ky b (l++m) lo hi↔∃k,Rn O ky b l lo k/\Rn O ky b m k hi
 | [],m,lo,hi=>⟨λh=>⟨lo,rfl,h⟩,λ⟨k,h1,h2⟩=>by have h1:lo=k:=h1;subst h1;exact h2⟩
 | x::r,m,lo,hi=>by
  constructor
  ·rintro⟨h1,h2,h3,h4⟩;obtain⟨k,k1,k2⟩:=Rn.app.mp h4;exact⟨k,⟨h1,h2,h3,k1⟩,k2⟩
  ·rintro⟨k,⟨h1,h2,h3,h4⟩,k2⟩;exact⟨h1,h2,h3,Rn.app.mpr ⟨k,h4,k2⟩⟩
theorem Rn.congr {b c:Array Keyed}:∀{l:List (Nat×Nat×Nat)} {lo hi:Nat},Rn O ky b l lo hi->(∀t,lo<=t->t < hi->kas_item c t=kas_item b t)->Rn O ky c l lo hi
 | [],lo,hi,h,_=>h
 | x::r,lo,hi,⟨h1,h2,h3,h4⟩,e=>by have hl:=Rn.le h4;refine⟨h1,h2,λi j hi fm hj=>?_,Rn.congr h4 λt a b=>e t (by lia) b⟩;rw[e i (by lia) (by lia),e j (by lia) (by lia)];exact h3 i j hi fm hj
structure Ru (O:KeyOrd) (ky:Keyed->O.α) (κ:SortKind) (a:Array Keyed) (lo:Nat) (st:SortSt):Prop where
 k:kindOf st=κ
 f:failedOf st=none
 pm:(arrOf st).toList.Perm a.toList
 rn:Rn O ky (arrOf st) (pendingOf st).toList 0 lo
theorem Ru.size {lo:Nat} {st:SortSt} (h:Ru O ky κ a lo st):(arrOf st).size=a.size:=by have:=h.pm.length_eq;simpa using this
theorem Ru.mem {lo:Nat} {st:SortSt} (h:Ru O ky κ a lo st) (hb:∀x∈a.toList,Mem x) {i:Nat} (hi:i < (arrOf st).size):Mem (kas_item (arrOf st) i):=by refine hb _ (h.pm.mem_iff.mp ?_);unfold kas_item;simp[Array.getD,hi]
theorem D0 {α:Type} {l:List α} {i:Nat} (h:i + 1 < l.length):∃l1 x y l2,l=l1++x::y::l2/\l1.length=i:=by refine⟨l.take i,l[i],l[i + 1],l.drop (i + 2),?_,by rw[List.length_take];lia⟩;rw[<-List.drop_eq_getElem_cons h,<-List.drop_eq_getElem_cons (by lia),List.take_append_drop]
theorem pN {P:Array (Nat×Nat×Nat)} {l1 l2:List (Nat×Nat×Nat)} {x y v:Nat×Nat×Nat} {i:Nat} (h:P.toList=l1++x::y::l2) (hi:l1.length=i):((P.setIfInBounds i v).eraseIdxIfInBounds (i + 1)).toList=l1++v::l2:=by
 have fU:P.size=l1.length + (l2.length + 2):=by
  have:=congrArg List.length h;simp at this
  lia
 have e1:(P.setIfInBounds i v).toList=l1++v::y::l2:=by rw[Array.toList_setIfInBounds,h,<-hi,List.set_append_right _ _ (PF _)];simp
 unfold Array.eraseIdxIfInBounds;rw[dif_pos (by rw[Array.size_setIfInBounds];lia),Array.toList_eraseIdx,e1,<-hi];rw[List.eraseIdx_append_of_length_le (by lia)];simp
theorem oM (T:Tells prog w A κ s O ky Mem) (hb:∀x∈a.toList,Mem x) {lo i:Nat} {st:SortSt} (h:Ru O ky κ a lo st) (mC:lo<=a.size) (hi:i + 1 < (pendingOf st).size) {Q:Bool->SortSt->Shared->Prop}
  (q:∀aj,Ru O ky κ a lo aj->(pendingOf aj).size + 1=(pendingOf st).size->(∀t,lo<=t->kas_item (arrOf aj) t=kas_item (arrOf st) t)->Q true aj s):kasC (model prog w) A E (Gv i) Q st s:=by
 obtain⟨l1,x,y,l2,hl,hlen⟩:=D0 (l:=(pendingOf st).toList) (i:=i) (by simpa using hi);have fU:=h.size;have rn:=h.rn;rw[hl] at rn;obtain⟨p,r1,r2⟩:=Rn.app.mp rn;obtain⟨xp,xn,xw⟩:=x;obtain⟨yp,yn,yw⟩:=y;obtain⟨e1,x1,x2,e2,y1,y2,r3⟩:=r2;have e1:xp=p:=e1;have e2:yp=p + xn:=e2;subst e1 e2;have h3:=r3.le;simp only at x1 x2 y1 y2 r3 h3;have eP:∀j,(pendingOf st)[j]?=(l1++(xp,xn,xw)::(xp + xn,yn,yw)::l2)[j]?:=λj=>by rw[<-hl,Array.getElem?_toList]
 have g1:(pendingOf st)[i]?=some (xp,xn,xw):=by rw[eP,Qq (by lia),show i - l1.length=0 by lia];rfl
 have g2:(pendingOf st)[i + 1]?=some (xp + xn,yn,yw):=by rw[eP,Qq (by lia),show i + 1 - l1.length=1 by lia];rfl
 have M6:st=SortSt.mk' κ (arrOf st) (pendingOf st) (gallopOf st) none:=by have e:st=SortSt.mk' (kindOf st) (arrOf st) (pendingOf st) (gallopOf st) (failedOf st):=rfl;rw[h.k,h.f] at e;exact e
 have z:=Kw (E:=E) T (a:=arrOf st) (P:=pendingOf st) (g:=gallopOf st) g1 g2 (by lia) x1 y1 (λi hi=>h.mem hb hi) (λi j a b c=>x2 i j a b c) (λi j a b c=>y2 i j a b c) (Q:=Q) λaj k1 k2 k3 k4 k5 k6=>?_
 ·rw[<-M6] at z;exact z
 ·have ee:=pN (v:=(xp,xn + yn,xw)) hl hlen;refine q aj ⟨k1,k3,k4.trans h.pm,?_⟩ ?_ λt ht=>k6 t (.inr (by lia))
  ·rw[k2,ee];refine Rn.app.mpr ⟨xp,r1.congr λt _ ht=>k6 t (.inl ht),rfl,by show 1<=xn + yn;lia,k5,?_⟩;have:Rn O ky (arrOf aj) l2 (xp + xn + yn) lo:=r3.congr λt ht _=>k6 t (.inr ht)
   rw[Nat.add_assoc] at this;exact this
  ·rw[k2,<-P3,ee,<-P3,hl];simp
   lia
theorem DG (T:Tells prog w A κ s O ky Mem) (hb:∀x∈a.toList,Mem x) {lo size pw:Nat} {st:SortSt} (h:Ru O ky κ a lo st) (mC:lo<=a.size) (hp:1<=(pendingOf st).size) {Q:Option Unit×Unit->SortSt->Shared->Prop}
  (q:∀aj,Ru O ky κ a lo aj->1<=(pendingOf aj).size->(∀t,lo<=t->kas_item (arrOf aj) t=kas_item (arrOf st) t)->Q (none,()) aj s):kasC (model prog w) A E (KM size pw) Q st s:=by
 unfold KM;refine c9 (λ_ c aj=>c=(none,())/\Ru O ky κ a lo aj/\1<=(pendingOf aj).size/\∀t,lo<=t->kas_item (arrOf aj) t=kas_item (arrOf st) t) ⟨rfl,h,hp,λ_ _=>rfl⟩ (λx c aj _ _ hI=>?_) (λc aj hI=>?_)
 ·obtain⟨rfl,h',zv,he⟩:=hI;refine PD (kasC_get ?_);by_cases c1:(pendingOf aj).size > 1
  ·rw[if_pos c1];have:(pendingOf aj)[(pendingOf aj).size - 2]?=some (pendingOf aj)[(pendingOf aj).size - 2]:=by simp
   rw[this];dsimp only;by_cases c2:(pendingOf aj)[(pendingOf aj).size - 2].2.2<=pw
   ·rw[if_pos c2];exact PK ⟨rfl,q _ h' zv he⟩
   ·rw[if_neg c2];refine PD (oM T hb h' mC (by lia) λde h2 s2 e2=>?_);rw[if_neg (by simp)];exact PK ⟨rfl,rfl,h2,by lia,λt ht=>(e2 t ht).trans (he t ht)⟩
  ·rw[if_neg c1];exact PK ⟨rfl,q _ h' zv he⟩
 ·obtain⟨rfl,h',zv,he⟩:=hI;exact q _ h' zv he
theorem Rn.KJ {b:Array Keyed} {l:List (Nat×Nat×Nat)} {x y:Nat×Nat×Nat} {lo hi:Nat} (h:Rn O ky b (l++[x]) lo hi) (e1:y.1=x.1) (e2:y.2.1=x.2.1):Rn O ky b (l++[y]) lo hi:=by obtain⟨k,k1,h1,h2,h3,h4⟩:=Rn.app.mp h;exact Rn.app.mpr ⟨k,k1,e1.trans h1,by rw[e2];exact h2,by rw[e2];exact h3,by rw[e2];exact h4⟩
theorem snoc {α:Type} {P:Array α} (h:1<=P.size):∃l x,P.toList=l++[x]/\P.back?=some x:=by
 have gg:P.toList≠[]:=λz=>by have:=congrArg List.length z;simp at this;rw[this] at h;simp at h
 refine⟨P.toList.dropLast,P.toList.getLast gg,(List.dropLast_concat_getLast gg).symm,?_⟩;rw[<-Array.getLast?_toList,List.getLast?_eq_some_getLast gg]
theorem iJ {α:Type} (f:α->α):∀(l:List α) (x:α),(l++[x]).modify l.length f=l++[f x]
 | [],x=>rfl
 | y::l,x=>by show y::(l++[x]).modify l.length f=y::(l++[f x]);rw[iJ f l x]
theorem uN (T:Tells prog w A κ s O ky Mem) (hb:∀x∈a.toList,Mem x) {size lo n:Nat} {st:SortSt} (h:Ru O ky κ a lo st) (mC:lo<=a.size) (hn:1<=n) (hu:Up O ky lo (arrOf st) n) (h0:1<=(pendingOf st).size\/lo=0) {Q:ForInStep (Option Unit×Nat)->SortSt->Shared->Prop}
  (q:∀aj,Ru O ky κ a (lo + n) aj->1<=(pendingOf aj).size->Q (.yield (none,lo + n)) aj s):kasC (model prog w) A E (Ic size lo n) Q st s:=by
 unfold Ic;refine PD (kasC_get ?_);by_cases hp:1<=(pendingOf st).size
 ·obtain⟨l,x,hl,NJ⟩:=snoc hp;rw[NJ];obtain⟨s1,n1,w1⟩:=x;dsimp only;refine PD (DG T hb h mC hp λde h2 p2 e2=>?_);dsimp only;obtain⟨l2,x2,d9,NK⟩:=snoc p2;have Kl:(pendingOf de).size=l2.length + 1:=by
   have:=congrArg List.length d9;simp at this
   lia
  refine PD (kasC_modify (PD (kasC_modify (PK (q _ ⟨h2.k,h2.f,h2.pm,?_⟩ ?_)))))
  ·show Rn O ky (arrOf de) (((pendingOf de).modify ((pendingOf de).size - 1) _).push (lo,n,0)).toList 0 (lo + n);rw[Array.toList_push,Array.toList_modify,d9,Kl];have em:(l2++[x2]).modify (l2.length + 1 - 1) (λ(x:Nat×Nat×Nat)=>(x.1,x.2.1,power' size (2 * s1 + n1) (2 * s1 + n1 + n1 + n) size))=l2++[(x2.1,x2.2.1,power' size (2 * s1 + n1) (2 * s1 + n1 + n1 + n) size)]:=by rw[Nat.add_sub_cancel];exact iJ _ _ _
   rw[show (λ(x:Nat×Nat×Nat)=>match x with | (st,len,_)=>(st,len,power' size (2 * s1 + n1) (2 * s1 + n1 + n1 + n) size))=λ(x:Nat×Nat×Nat)=>(x.1,x.2.1,power' size (2 * s1 + n1) (2 * s1 + n1 + n1 + n) size) from rfl,em];have rn:=h2.rn;rw[d9] at rn;refine Rn.app.mpr ⟨lo,rn.KJ rfl rfl,rfl,hn,λi j hi fm hj=>?_,rfl⟩;rw[e2 i hi,e2 j (by lia)];exact hu i j hi fm hj
  ·show 1<=(((pendingOf de).modify ((pendingOf de).size - 1) _).push (lo,n,0)).size;rw[Array.size_push]
   lia
 ·have hz:(pendingOf st).size=0:=by lia
  have e:(pendingOf st).back?=none:=by rw[Array.back?_eq_none_iff];exact Array.eq_empty_of_size_eq_zero hz
  rw[e];have J3:lo=0:=h0.resolve_left hp;subst J3;refine PD (kasC_modify (PK (q _ ⟨h.k,h.f,h.pm,?_⟩ ?_)))
  ·show Rn O ky (arrOf st) ((pendingOf st).push (0,n,0)).toList 0 (0 + n);rw[Array.toList_push,Array.eq_empty_of_size_eq_zero hz];exact⟨rfl,hn,hu,rfl⟩
  ·show 1<=((pendingOf st).push (0,n,0)).size;rw[Array.size_push]
   lia
theorem D2 (T:Tells prog w A κ s O ky Mem) (hb:∀x∈a.toList,Mem x) {mr lo:Nat} {st:SortSt} (h:Ru O ky κ a lo st) (mC:lo < a.size) (hm:1<=mr) (h0:1<=(pendingOf st).size\/lo=0) {Q:ForInStep (Option Unit×Nat)->SortSt->Shared->Prop}
  (q:∀aj n,1<=n->lo + n<=a.size->Ru O ky κ a (lo + n) aj->1<=(pendingOf aj).size->Q (.yield (none,lo + n)) aj s):kasC (model prog w) A E (Hn a.size mr lo) Q st s:=by
 unfold Hn;rw[if_neg (by lia)];have fU:=h.size;have rf:∀x∈(arrOf st).toList,Mem x:=λx hx=>hb x (h.pm.mem_iff.mp hx)
 have b0:Bs κ (pendingOf st) lo (arrOf st) st:=⟨h.k,h.f,rfl,List.Perm.refl _,λ_ _=>rfl⟩;have ME:∀{aj:SortSt},Bs κ (pendingOf st) lo (arrOf st) aj->Ru O ky κ a lo aj:=λb=>⟨b.k,b.f,b.pm.trans h.pm,by rw[b.p];exact h.rn.congr λt _ ht=>b.lw t ht⟩
 refine PD (Fh T rf b0 (m:=a.size - lo) (by lia) (by lia) λaj k b' k1 k2 ku=>?_);dsimp only;by_cases c:k < mr
 ·rw[if_pos c];refine PD (kasC_lift (wpAny_rule ?_));refine PD (E7 T rf b' (n:=min (a.size - lo) mr) (by lia) k1 (by lia) ku λde b2 u2=>?_);rw[if_neg (by simp)];exact uN T hb (ME b2) (by lia) (by lia) u2 (by rw[b2.p];exact h0) λEN h3 p3=>q EN _ (by lia) (by lia) h3 p3
 ·rw[if_neg c];exact uN T hb (ME b') (by lia) (by lia) ku (by rw[b'.p];exact h0) λEN h3 p3=>q EN _ (by lia) (by lia) h3 p3
theorem Gk {P:Array (Nat×Nat×Nat)} (h:1 < P.size):ix P + 1 < P.size:=by
 have key:ix P=P.size - 2 - 1\/ix P=P.size - 2:=by
  unfold ix;generalize Option.any _ _=b;cases b
  ·exact .inr rfl
  ·exact .inl rfl
 rcases key with e | e <;> lia
theorem C4 (T:Tells prog w A κ s O ky Mem) (hb:∀x∈a.toList,Mem x) {st:SortSt} (h:Ru O ky κ a a.size st) {Q:Option Unit×Unit->SortSt->Shared->Prop}
  (q:∀aj,Ru O ky κ a a.size aj->(pendingOf aj).size<=1->Q (none,()) aj s):kasC (model prog w) A E (IA a.size) Q st s:=by
 unfold IA;have hle:=h.rn.le;simp at hle;refine c9 (λx c aj=>c=(none,())/\Ru O ky κ a a.size aj/\(pendingOf aj).size<=max 1 (a.size - x)) ⟨rfl,h,by lia⟩ (λx c aj _ hx hI=>?_) (λc aj hI=>?_)
 ·obtain⟨rfl,h',hp⟩:=hI;refine PD (kasC_get ?_);by_cases c1:(pendingOf aj).size<=1
  ·rw[if_pos c1];exact PK ⟨rfl,q _ h' c1⟩
  ·rw[if_neg c1];refine PD (oM T hb h' (PF _) (Gk (by lia)) λde h2 s2 _=>?_);rw[if_neg (by simp)];exact PK ⟨rfl,rfl,h2,by lia⟩
 ·obtain⟨rfl,h',hp⟩:=hI;exact q _ h' (by lia)
theorem jR:∀(f n r:Nat),1<=n->1<=minRun' f n r
 | 0,n,r,h=>by
  have e:minRun' 0 n r=n + r:=by kernel_rfl
  rw[e];lia
 | f + 1,n,r,h=>by
  rw[minRun'_succ];split
  ·lia
  ·exact jR f (n / 2) _ (by lia)
theorem DN (T:Tells prog w A κ s O ky Mem) (hb:∀x∈a.toList,Mem x) (h2:2<=a.size) {g:Nat} {Q:Unit->SortSt->Shared->Prop}
  (q:∀aj:SortSt,failedOf aj=none->(arrOf aj).toList.Perm a.toList->gp O ky (arrOf aj).toList->Q () aj s):kasC (model prog w) A E sortRuns' Q (SortSt.mk' κ a #[] g none) s:=by
 rw[G2];unfold sR;refine PD (kasC_get ?_);have Mk:=jR a.size a.size 0 (by lia);show kasC _ _ _ (do
  let r<-forIn [:a.size] ((none,0):Option Unit×Nat) λ_ r=>Hn a.size (minRun' a.size a.size 0) r.2
  match r.1 with
  | some v=>pure v
  | none=>do
   let r<-IA a.size
   match r.1 with
   | some v=>pure v
   | none=>pure ()) _ _ _
 generalize minRun' a.size a.size 0=mr at Mk ⊢;refine PD (bE (Q:=λr aj s'=>s=s'/\r.1=none/\Ru O ky κ a a.size aj) (c9 (λx c aj=>∃lo,c=(none,lo)/\x<=lo/\lo<=a.size/\Ru O ky κ a lo aj/\(1<=(pendingOf aj).size\/lo=0)) ⟨0,rfl,PF _,by lia,⟨rfl,rfl,List.Perm.refl _,rfl⟩,.inr rfl⟩ (λx c aj _ hx hI=>?_) (λc aj hI=>?_)) (λr aj s' hI=>?_))
 ·obtain⟨lo,rfl,Om,mC,h,h0⟩:=hI;by_cases c:lo < a.size
  ·exact D2 T hb h c Mk h0 λde n n1 n2 h2 p2=>⟨rfl,lo + n,rfl,by lia,n2,h2,.inl p2⟩
  ·have e:lo=a.size:=by lia
   subst e;unfold Hn;rw[if_pos (PF _)];exact PK ⟨rfl,rfl,rfl,h⟩
 ·obtain⟨lo,rfl,Om,mC,h,h0⟩:=hI;have e:lo=a.size:=by lia
  subst e;exact⟨rfl,rfl,h⟩
 ·obtain⟨rfl,e,h⟩:=hI;obtain⟨r1,r2⟩:=r;cases e;refine PD (C4 T hb h λde g1 g2=>PK (q de g1.f g1.pm ?_));have rn:=g1.rn
  match hl:(pendingOf de).toList,rn with
  | [],rn=>have rn:0=a.size:=rn;lia
  | [x],rn=>obtain⟨_,_,u,e⟩:=rn;have e:0 + x.2.1=a.size:=e;exact Up.Hm (g1.size.trans (by lia)) u
  | x::y::r,_=>
   exfalso;have:=congrArg List.length hl;simp at this
   lia
end
end MxTim
end
section
namespace Mx
open PySem PySem.W PySem.Spec PyProof.Rows L2 PySem.SeqAt MxSort
theorem oH {α β:Type} {f:α->β} {l l':List β} (h:l.Perm l'):∀r:List α,l=r.map f->∃p:List α,p.Perm r/\l'=p.map f:=by
 induction h with
 | nil=>intro r e;exact⟨r,List.Perm.refl _,e⟩
 | cons x h ih=>
  intro r e;cases r with
  | nil=>cases e
  | cons y r=>rw[Qr] at e;injection e with e1 e2;obtain⟨p,p1,p2⟩:=ih r e2;exact⟨y::p,p1.cons y,by rw[Qr,e1,p2]⟩
 | swap x y l=>
  intro r e;cases r with
  | nil=>cases e
  | cons a r=>
   cases r with
   | nil=>rw[Qr] at e;injection e with e1 e2;cases e2
   | cons b r=>rw[Qr,Qr] at e;injection e with e1 e2;injection e2 with e3 e4;exact⟨b::a::r,List.Perm.swap a b r,by rw[Qr,Qr,e1,e3,e4]⟩
 | trans h1 h2 ih1 ih2=>intro r e;obtain⟨p,p1,p2⟩:=ih1 r e;obtain⟨q,q1,q2⟩:=ih2 p p2;exact⟨q,q1.trans p1,q2⟩
section
variable {prog:Program} {w:World} {A:Around} {E:Value->Shared->Prop} {s:Shared}
noncomputable def BB {O:KeyOrd} (vs:List Value) (key:Nat->O.α):Prop:=∀i j,i < vs.length->j < vs.length->vs.getD i Value.none=vs.getD j Value.none->key i=key j
open Classical in
noncomputable def CT {O:KeyOrd} (vs:List Value) (key:Nat->O.α) (k:Keyed):O.α:=if h:∃i,i < vs.length/\vs.getD i Value.none=k.1 then key (Classical.choose h) else key 0
theorem jc {O:KeyOrd} {vs:List Value} {key:Nat->O.α} (hi:BB vs key) {i:Nat} (h:i < vs.length) (v:Value):CT vs key (vs.getD i Value.none,v)=key i:=by unfold CT;have ex:∃j,j < vs.length/\vs.getD j Value.none=((vs.getD i Value.none,v):Keyed).1:=⟨i,h,rfl⟩;rw[dif_pos ex];have z:=Classical.choose_spec ex;exact hi _ _ z.1 h z.2
theorem o9 (vs:List Value):(vs.toArray.zip vs.toArray).toList=(List.range vs.length).map λi=>(vs.getD i Value.none,vs.getD i Value.none):=by
 refine List.ext_getElem (by simp) λi h1 h2=>?_
 simp at h1;simp[h1]
theorem DK {κ:SortKind} {vs:List Value} {O:KeyOrd} {key:Nat->O.α} (T:Tells O key (kas_ask prog w A κ vs) vs.length s) (hi:BB vs key) (h2:2<=vs.length) (Nb:vs.length < 1000000) {Q:SortSt->Shared->Prop}
  (hG:∀(p:Array Nat) (aj:SortSt),Ord vs.length p->Up key p vs.length->(arrOf aj).map (·.2)=(p.toList.map λi=>vs.getD i Value.none).toArray->failedOf aj=none->Q aj s):
  wpAny (model prog w) A ((sortRuns').run (SortSt.mk' κ (vs.toArray.zip vs.toArray) #[] 7 none)) (λr s'=>Q r.2 s') E s:=by
 have hz:(vs.toArray.zip vs.toArray).size=vs.length:=by simp
 have T':MxTim.Tells prog w A κ s O (CT vs key) (λk=>∃i,i < vs.length/\k=(vs.getD i Value.none,vs.getD i Value.none)):=by rintro x y ⟨i,EH,rfl⟩ ⟨j,tO,rfl⟩ C hC;rw[jc hi EH,jc hi tO] at hC;exact T i j EH tO C hC
 have run:=MxTim.DN (E:=E) T' (a:=vs.toArray.zip vs.toArray) (λx hx=>by
   rw[o9] at hx;obtain⟨i,i1,i2⟩:=Qi.mp hx;exact⟨i,Qu.mp i1,i2.symm⟩) (by lia) (g:=7) (Q:=λ_ aj s'=>Q aj s') (λaj f pm Hm=>?_)
 ·exact run
 ·rw[o9] at pm;obtain⟨p,p1,p2⟩:=oH pm.symm (List.range vs.length) rfl;have hl:p.length=vs.length:=by rw[p1.length_eq,List.length_range]
  have cJ:∀i∈p,i < vs.length:=λi hi=>Qu.mp (p1.mem_iff.mp hi)
  refine hG p.toArray aj (by unfold MxSort.Ord;exact p1) (λi j fm hj=>?_) ?_ f
  ·by_cases e:i=j
   ·subst e;exact KeyOrd.kle_refl _
   ·unfold MxTim.gp at Hm;rw[p2,List.pairwise_map,List.pairwise_iff_getElem] at Hm;have z:=Hm i j (by lia) (by lia) (by lia);unfold MxTim.le at z;rw[jc hi (cJ _ (List.getElem_mem _)),jc hi (cJ _ (List.getElem_mem _))] at z;unfold pW;rw[show p.toArray.getD i 0=p[i] by simp[Array.getD,show i < p.length by lia],show p.toArray.getD j 0=p[j] by simp[Array.getD,show j < p.length by lia]];exact z
  ·apply Array.toList_inj.mp;rw[Array.toList_map,p2,List.map_map];rfl
theorem xE {a:Addr} {vs:List Value} {n:Nat} {P:PySem.Fin->Shared->Prop} (ho:s.heap.get? a=some (seqObj "list" vs.toArray n)) (Nd:vs.length < 1000000) {O:KeyOrd} {key:Nat->O.α}
  (hk:2<=vs.length->∀h',(∀b o,b≠a->s.heap.get? b=some o->h'.get? b=some o)->∃κ:SortKind,(∀(Q:SortKind->Shared->Prop) (E:Value->Shared->Prop),Q κ {s with heap:=h'}->wpAny (model prog w) A (keyKind' vs.toArray) Q E {s with heap:=h'})/\
   Tells O key (kas_ask prog w A κ vs) vs.length {s with heap:=h'}/\BB vs key)
  (h:∀(p:Array Nat) (h':Heap) (e:Nat),Ord vs.length p->Up key p vs.length->(∀b o,b≠a->s.heap.get? b=some o->h'.get? b=some o)->h'.get? a=some (seqObj "list" (p.toList.map λi=>vs.getD i Value.none).toArray e)->
   P (.done (.ret .none)) {s with heap:=h'}):wpAny (model prog w) A (Builtin.«list.sort» ⟨[.ref a],[]⟩) P E s:=by
 have ha:a < s.heap.objs.size:=PN ho;have zx:vs.length<=sizeLine:=by rw[sizeLine_eq];lia
 rw[list_sort_plain];refine Pr (listItems_at ho rfl (Pr (listUpdate_at ho rfl ?_ (by rw[Px];exact zx) (Nat.zero_le _))));obtain⟨e1,L9⟩:∃e1,(s.heap.update a (Obj.mapSeq λ_=>(#[]:Array Value))).get? a=some (seqObj "list" #[] e1):=⟨_,get?_update_seq ho λ_=>#[]⟩;refine Pr (seqEpoch_at L9 rfl (Pr (wpAny_newTuple ?_ zx)));refine Pr (wpAny_newList (wpAny_holding ?_) (Nat.zero_le _));show wpAny (model prog w) A _ P E {s with heap:=((s.heap.update a (Obj.mapSeq λ_=>(#[]:Array Value))).push (seqObj "tuple" vs.toArray 0)).push (seqObj "list" #[] 0)};generalize hh:((s.heap.update a (Obj.mapSeq λ_=>(#[]:Array Value))).push (seqObj "tuple" vs.toArray 0)).push (seqObj "list" #[] 0)=h1;have k1:∀b o,b≠a->s.heap.get? b=some o->h1.get? b=some o:=λb o hb e=>by rw[<-hh];exact Pu _ (Pu _ ((Qb s.heap _ (Ne.symm hb)).trans e))
 have JS:h1.get? a=some (seqObj "list" #[] e1):=by rw[<-hh];exact Pu _ (Pu _ L9)
 dsimp only;have fin:∀(aj:SortSt) (p:Array Nat),Ord vs.length p->Up key p vs.length->(arrOf aj).map (·.2)=(p.toList.map λi=>vs.getD i Value.none).toArray->failedOf aj=none->
   wpAny (model prog w) A (do
    let touched:=(<-seqEpoch a) != e1
    Builtin.List.listUpdate (.ref a) λ_=>(arrOf aj).map (·.2)
    if let some e:=failedOf aj then rule "list.sort.comparison-raised";throw e
    if touched then rule "list.sort.modified";raiseError "ValueError" "list modified during sort"
    ret .none) P E {s with heap:=h1}:=λaj p hp hu CA hf=>by
  refine Pr (seqEpoch_at (s:={s with heap:=h1}) JS rfl ?_);have fU:(p.toList.map λi=>vs.getD i Value.none).toArray.size=vs.length:=by rw[Px,PL,P3,hp.size]
  rw[CA];refine Pr (listUpdate_at (s:={s with heap:=h1}) JS rfl ?_ (Nat.zero_le _) (by rw[fU];lia));rw[hf];simp only[bne_self_eq_false,Bool.false_eq_true,if_false];obtain⟨c2,nZ⟩:∃c2,(h1.update a (Obj.mapSeq λ_=>(p.toList.map λi=>vs.getD i Value.none).toArray)).get? a=some (seqObj "list" (p.toList.map λi=>vs.getD i Value.none).toArray c2):=⟨_,get?_update_seq JS λ_=>_⟩;exact Pv (h p _ c2 hp hu (λb o hb e=>(Qb h1 _ (Ne.symm hb)).trans (k1 b o hb e)) nZ)
 by_cases h2:2<=vs.length
 ·have oh:¬vs.toArray.size < 2:=by rw[Px];lia
  rw[if_neg oh,if_neg oh];obtain⟨κ,NV,T,hi⟩:=hk h2 h1 k1;refine Pr (NV _ _ ?_);refine Pr (wpAny_mono (DK (s:={s with heap:=h1}) (Q:=λaj s'=>s'={s with heap:=h1}/\∃p:Array Nat,Ord vs.length p/\Up key p vs.length/\(arrOf aj).map (·.2)=(p.toList.map λi=>vs.getD i Value.none).toArray/\failedOf aj=none) T hi h2 Nd
   (λp aj hp hu ho hf=>⟨rfl,p,hp,hu,ho,hf⟩)) ?_ λ_ _ e=>e)
  rintro⟨⟨⟩,aj⟩ s' ⟨rfl,p,hp,hu,CA,hf⟩;exact fin aj p hp hu CA hf
 ·have oh:vs.toArray.size < 2:=by rw[Px];lia
  rw[if_pos oh,if_pos oh];refine Pr (Pv ?_);rw[StateT.run_pure];refine Pr (Pv ?_);refine fin (SortSt.mk' general' (vs.toArray.zip vs.toArray) #[] 7 none) (List.range vs.length).toArray (by unfold MxSort.Ord;simp) (λi j fm hj=>?_) ?_ rfl
  ·rw[show i=j by lia];exact KeyOrd.kle_refl _
  ·apply Array.toList_inj.mp;show (((vs.toArray.zip vs.toArray)).map (·.2)).toList=_
   match vs,h2 with
   | [],_=>simp
   | [v],_=>simp
   | _::_::_,h2=>exact absurd (by simp) h2
end
inductive SK where
 | tt | ts | ti | s | i
 deriving DecidableEq
noncomputable def SK.ok:SK->D->Prop
 | .tt,d=>∃f r,d= .tup (.tup f::r)
 | .ts,d=>∃f r,d= .tup (.str f::r)
 | .ti,d=>∃f r,d= .tup (.int f::r)
 | .s,d=>∃x,d= .str x
 | .i,d=>∃x,d= .int x
noncomputable def SK.κ:SK->SortKind
 | .tt=>tuples' false
 | .ts=>tuples' true
 | .ti=>tuples' true
 | .s=>oneType'
 | .i=>oneType'
noncomputable def SK.f:SK->String
 | .tt=>"tuple"
 | .ts=>"str"
 | .s=>"str"
 | _=>"int"
section
variable {P:Program} {w:World} {H:Hp} {prog:Program} {s:Shared} {A:Around}
theorem zI {b:Bool} {n m:Nat} {Q:Bool->Shared->Prop} {v wv:Value} {us vs:List Value} {d e:D} {ds es:List D} (z:Zp A s (v::us) (wv::vs) (d::ds) (e::es))
  (hs:b=true->∀{E:Value->Shared->Prop},wpAny (model prog w) A (oneLt' true v wv) (λr s'=>r=D.lt d e/\s'=s) E s)
  (hlen:ds.length + m=es.length + n) (q:Q (D.eK (d::ds) (e::es)) s):KatLex prog w A b (decide (n < m)) Q ((v::us).zip (wv::vs)) 0 s:=by
 cases z with
 | cons he hl z'=>
  rw[List.zip_cons_cons];rw[D.dO] at q;refine kat_cons (he prog w _ _ ?_);by_cases hde:d=e
  ·rw[(D.cz d e).mpr hde];rw[if_pos hde] at q;exact kat_yes (zH z' 1 (by lia) hlen q)
  ·rw[show D.fI d e=false by rw[D.ml];exact P8 hde];rw[if_neg hde] at q;refine kat_no ?_;cases b with
   | false=>rw[show (false&&0==0)=false by rfl];exact kat_one v wv (hl hde prog w _ _ q)
   | true=>rw[show (true&&0==0)=true by rfl];exact wpAny_mono (hs rfl) (λr s' ⟨e1,e2⟩=>by subst e1 e2;exact q) λ_ _ x=>x
theorem mG (hok:d4 P w H s.heap) {n:Nat} (hu:A.units + n < cLine) {b:Bool} {d0 e0:D} {dr er:List D} {x y:V} {u v:Value} (hd:D.dep (.tup (d0::dr))<=n + 1) (hl:D.eF (.tup (d0::dr)) (.tup (e0::er)))
  (hs:b=true->(∃p q,d0= .str p/\e0= .str q)\/∃p q,d0= .int p/\e0= .int q) (hx:DV H x (.tup (d0::dr))) (hy:DV H y (.tup (e0::er))) (rx:RelV x u) (ry:RelV y v) {Q:Bool->Shared->Prop} {E:Value->Shared->Prop}
  (q:Q (D.lt (.tup (d0::dr)) (.tup (e0::er))) s):wpAny (model prog w) A (keyLt' (tuples' b) u v) Q E s:=by
 obtain⟨a,xs,q1,e1,e2⟩:=hx.af;subst q1;cases rx;obtain⟨b',ys,q1,f1,f2⟩:=hy.af;subst q1;cases ry;obtain⟨its,r1,o,ho,hc,k,zp⟩:=ar hok e1;obtain⟨aI,r2,o2,rj,nZ,k2,pR⟩:=ar hok f1;obtain⟨x0,xr,rfl,EB,LJ⟩:=e2.cons_inv;obtain⟨y0,yr,rfl,LK,Na⟩:=f2.cons_inv;cases r1 with
 | cons r10 r1r=>
  cases r2 with
  | cons r20 r2r=>
   rename_i u0 ur v0 vr;have kE:D.eO (d0::dr)<=n:=by unfold D.dep at hd;lia
   have Cq:D.fM (d0::dr) (e0::er):=by unfold D.eF at hl;exact hl
   have zz:Zp A s (u0::ur) (v0::vr) (d0::dr) (e0::er):=yf hok hu (λd e x y u v hd2 d9 zB Gd rx2 ry2=>zM hok n d e x y u v A hd2 hu d9 zB Gd rx2 ry2) kE Cq e2 f2 (.cons r10 r1r) (.cons r20 r2r);refine kat_lt ho zp rj pR ?_;have l1:(u0::ur).toArray.size=(d0::dr).length:=by rw[Px,P0,P0,<-r1r.length,LJ.length]
   have l2:(v0::vr).toArray.size=(e0::er).length:=by rw[Px,P0,P0,<-r2r.length,Na.length]
   have q':Q (D.eK (d0::dr) (e0::er)) s:=by have z:=q;unfold D.lt at z;exact z
   refine zI zz (λhb=>?_) (by rw[l1,l2];simp only[P0];lia) q';intro E';rcases hs hb with ⟨p,q2,rfl,rfl⟩ | ⟨p,q2,rfl,rfl⟩
   ·have z1:=EB.str_inv;have z2:=LK.str_inv;subst z1 z2;obtain⟨t,rfl⟩:=r10;obtain⟨t',rfl⟩:=r20;exact oneLt_str ⟨by unfold D.lt;rfl,rfl⟩
   ·have z1:=EB.int_inv;have z2:=LK.int_inv;subst z1 z2;obtain⟨t,rfl⟩:=r10;obtain⟨t',rfl⟩:=r20;exact oneLt_int ⟨by unfold D.lt;rfl,rfl⟩
theorem lg (x y:Value):keyLt' oneType' x y=oneLt' true x y:=rfl
theorem zJ (hok:d4 P w H s.heap) {n:Nat} (hu:A.units + n < cLine) (k:SK) {d e:D} {x y:V} {u v:Value} (hd:D.dep d<=n + 1) (hl:D.eF d e) (fd:k.ok d) (fe:k.ok e) (hx:DV H x d) (hy:DV H y e) (rx:RelV x u) (ry:RelV y v) {Q:Bool->Shared->Prop} {E:Value->Shared->Prop}
  (q:Q (D.lt d e) s):wpAny (model prog w) A (keyLt' k.κ u v) Q E s:=by
 cases k with
 | tt=>obtain⟨f,r,rfl⟩:=fd;obtain⟨f',r',rfl⟩:=fe;exact mG (b:=false) hok hu hd hl (λz=>nomatch z) hx hy rx ry q
 | ts=>obtain⟨f,r,rfl⟩:=fd;obtain⟨f',r',rfl⟩:=fe;exact mG hok hu hd hl (λ_=> .inl ⟨_,_,rfl,rfl⟩) hx hy rx ry q
 | ti=>obtain⟨f,r,rfl⟩:=fd;obtain⟨f',r',rfl⟩:=fe;exact mG hok hu hd hl (λ_=> .inr ⟨_,_,rfl,rfl⟩) hx hy rx ry q
 | s=>obtain⟨f,rfl⟩:=fd;obtain⟨f',rfl⟩:=fe;have z1:=hx.str_inv;have z2:=hy.str_inv;subst z1 z2;obtain⟨t,rfl⟩:=rx;obtain⟨t',rfl⟩:=ry;show wpAny _ _ (keyLt' oneType' _ _) _ _ _;rw[lg];unfold D.lt at q;exact oneLt_str q
 | i=>obtain⟨f,rfl⟩:=fd;obtain⟨f',rfl⟩:=fe;have z1:=hx.int_inv;have z2:=hy.int_inv;subst z1 z2;obtain⟨t,rfl⟩:=rx;obtain⟨t',rfl⟩:=ry;show wpAny _ _ (keyLt' oneType' _ _) _ _ _;rw[lg];unfold D.lt at q;exact oneLt_int q
theorem rL (hok:d4 P w H s.heap) {k:SK} (hk:k= .tt\/k= .ts\/k= .ti):∀{xs:List V} {us:List Value} {ds:List D},a9 H xs ds->au xs us->(∀d∈ds,k.ok d)->
  ∃fs,KatTups s.heap us fs/\fs.length=us.length/\∀v∈fs,Looks (model prog w) s.heap (typeOf v) (.type k.f)
 | [],us,ds,_,r,_=>by cases r;exact⟨[],KatTups.nil,rfl,λv hv=>absurd hv (by simp)⟩
 | x::xs,us,ds,h,r,hf=>by
  cases r with
  | cons r0 rr=>
   cases ds with
   | nil=>unfold a9 at h;exact h.elim
   | cons d ds=>
    unfold a9 at h;obtain⟨fs,t,l,lk⟩:=rL hok hk h.2 rr λd hd=>hf d (PC _ hd)
    have sh:∃d0 dr,d= .tup (d0::dr)/\((k= .ts/\∃p,d0= .str p)\/(k= .ti/\∃p,d0= .int p)\/(k= .tt/\∃p,d0= .tup p)):=by
     have z:=hf d PH;rcases hk with rfl | rfl | rfl
     ·obtain⟨f,r,rfl⟩:=z;exact⟨_,_,rfl,.inr (.inr ⟨rfl,_,rfl⟩)⟩
     ·obtain⟨f,r,rfl⟩:=z;exact⟨_,_,rfl,.inl ⟨rfl,_,rfl⟩⟩
     ·obtain⟨f,r,rfl⟩:=z;exact⟨_,_,rfl,.inr (.inl ⟨rfl,_,rfl⟩)⟩
    obtain⟨d0,dr,rfl,uz⟩:=sh;obtain⟨a,ys,q1,e1,e2⟩:=h.1.af;subst q1;cases r0;obtain⟨its,r1,o,ho,hc,kk,zp⟩:=ar hok e1;obtain⟨x0,xr,rfl,EB,LJ⟩:=e2.cons_inv;cases r1 with
    | cons r10 r1r=>
     rename_i u0 ur;refine⟨u0::fs,KatTups.cons ho hc zp (by simp) t,by simp[l],λv hv=>?_⟩;rcases PQ.mp hv with rfl | hv
     ·rcases uz with ⟨hb,p,rfl⟩ | ⟨hb,p,rfl⟩ | ⟨hb,p,rfl⟩
      ·have z1:=EB.str_inv;subst z1;obtain⟨t',rfl⟩:=r10;rw[hb];exact Looks.of_pure rfl
      ·have z1:=EB.int_inv;subst z1;obtain⟨t',rfl⟩:=r10;rw[hb];exact Looks.of_pure rfl
      ·obtain⟨a2,y2,q2,g1,g2⟩:=EB.af;subst q2;cases r10;obtain⟨aI,_,o2,rj,nZ,_⟩:=ar hok g1;rw[hb];show Looks (model prog w) _ _ (Value.type "tuple");rw[<-nZ];exact(Looks.ld rj).andThen .now
     ·exact lk v hv
theorem sN:∀{xs:List V} {us:List Value} {ds:List D},a9 H xs ds->au xs us->(∀d∈ds,SK.s.ok d)->∃ss,StrsAre us ss
 | [],us,ds,_,r,_=>by cases r;exact⟨[],.nil⟩
 | x::xs,us,ds,h,r,hf=>by
  cases r with
  | cons r0 rr=>
   cases ds with
   | nil=>unfold a9 at h;exact h.elim
   | cons d ds=>
    unfold a9 at h;obtain⟨ss,q⟩:=sN h.2 rr λd hd=>hf d (PC _ hd)
    obtain⟨y,rfl⟩:=hf d PH;have z1:=h.1.str_inv;subst z1;obtain⟨t,rfl⟩:=r0;exact⟨y::ss,.cons y t q⟩
theorem rE:∀{xs:List V} {us:List Value} {ds:List D},a9 H xs ds->au xs us->(∀d∈ds,SK.i.ok d)->∃ss,IntsAre us ss
 | [],us,ds,_,r,_=>by cases r;exact⟨[],.nil⟩
 | x::xs,us,ds,h,r,hf=>by
  cases r with
  | cons r0 rr=>
   cases ds with
   | nil=>unfold a9 at h;exact h.elim
   | cons d ds=>
    unfold a9 at h;obtain⟨ss,q⟩:=rE h.2 rr λd hd=>hf d (PC _ hd)
    obtain⟨y,rfl⟩:=hf d PH;have z1:=h.1.int_inv;subst z1;obtain⟨t,rfl⟩:=r0;exact⟨y::ss,.cons y t q⟩
theorem Gq (hok:d4 P w H s.heap) (k:SK) {xs:List V} {us:List Value} {ds:List D} (hd:a9 H xs ds) (r:au xs us) (hf:∀d∈ds,k.ok d) (h2:2<=us.length) {Q:SortKind->Shared->Prop} {E:Value->Shared->Prop} (q:Q k.κ s):
  wpAny (model prog w) A (keyKind' us.toArray) Q E s:=by
 have tup:k= .tt\/k= .ts\/k= .ti->wpAny (model prog w) A (keyKind' us.toArray) Q E s:=λhk=>by obtain⟨fs,t,l,lk⟩:=rL (prog:=prog) hok hk hd r hf;refine kat_kind t (by lia) lk (by rcases hk with rfl | rfl | rfl <;> rfl) ?_;rcases hk with rfl | rfl | rfl <;> exact q
 cases k with
 | tt=>exact tup (.inl rfl)
 | ts=>exact tup (.inr (.inl rfl))
 | ti=>exact tup (.inr (.inr rfl))
 | s=>
  obtain⟨ss,hs⟩:=sN hd r hf
  match us,h2,hs with
  | v1::v2::vs,_,hs=>rw[keyKind_strs hs];exact Pv q
 | i=>
  obtain⟨ss,hs⟩:=rE hd r hf
  match us,h2,hs with
  | v1::v2::vs,_,hs=>rw[keyKind_ints hs];exact Pv q
end
noncomputable def jq (ds:List D):Prop:=ds.length < 1000000/\(2<=ds.length->D.eO ds<=100/\(∃k:SK,∀d∈ds,k.ok d)/\∀d∈ds,∀e∈ds,D.eF d e)
section
variable {X:Cx} {pins:List (Addr×Obj)} {σ:L2.St} {H:Hp}
theorem uh {s:Shared} {A:Around} {Q:PySem.Fin->Shared->Prop} {E:Value->Shared->Prop} (hu:A.units + 148 < cLine) (I:Inv X pins σ H s) {ys:List V} {its:List Value} {ds:List D} (rv:au ys its) (kF:a9 H ys ds) (hc:jq ds)
  (q:∀(l:Addr) (zs:List V) (es:List D) (s':Shared),H l=none->a9 H zs es->jr ds es->Inv X pins σ (upd H l (.lst zs)) s'->Q (.done (.ret (.ref l))) s'):
  wpAny (model X.prog X.w) A (do let l<-newList its;let _<-holding [l] (call (.builtin "list.sort") [l] []);ret l) Q E s:=by
 obtain⟨hlen,hc⟩:=hc;have hl:=rv.length;have d9:=kF.length;have zx:its.length<=sizeLine:=by rw[sizeLine_eq];lia
 refine Pr (wpAny_newList ?_ (by simpa using zx));have Iy:(s.heap.push (seqObj "list" its.toArray 0)).get? s.heap.objs.size=some (seqObj "list" its.toArray 0):=PJ _ rfl;show wpAny _ _ _ _ _ {s with heap:=s.heap.push (seqObj "list" its.toArray 0)};have ne:∀b o,s.heap.get? b=some o->b≠s.heap.objs.size:=λb o e=>Qe (PN e)
 refine Pr (wpAny_holding (wpAny_call_entry slot_list_sort (s:={s with heap:=s.heap.push (seqObj "list" its.toArray 0)}) ⟨_,Iy,rfl⟩ entry_list_sort
  (xE (s:={s with heap:=s.heap.push (seqObj "list" its.toArray 0)}) (O:=Fk) (key:=λi=>ds.getD i (.int 0)) Iy (by lia) (λh2 h' kk=>?_) λp h' e hp hup kk hD=>?_) (args_list_sort _)))
 ·obtain⟨NM,⟨k,hf⟩,yx⟩:=hc (by lia);have zu:d4 X.prog X.w H h':=I.hok.kept λb o e=>kk b o (ne b o e) (Pu _ e)
  refine⟨k.κ,λQ' E' q'=>Gq (s:={s with heap:=h'}) zu k kF rv hf (by lia) q',λi j hi hj C hC=>?_,λi j hi hj eij=>?_⟩
  ·obtain⟨di,Fu,Ih⟩:=kF.get (i:=i) (x:=ys[i]'(by lia)) (by simp);obtain⟨dj,Ii,Jv⟩:=kF.get (i:=j) (x:=ys[j]'(by lia)) (by simp);obtain⟨ui,Kf,K6⟩:=rv.get (i:=i) (x:=ys[i]'(by lia)) (by simp);obtain⟨uj,Kg,K7⟩:=rv.get (i:=j) (x:=ys[j]'(by lia)) (by simp);unfold kas_ask;rw[show its.getD i Value.none=ui by simp[Kf],show its.getD j Value.none=uj by simp[Kg]];have ki:ds.getD i (.int 0)=di:=by simp[Fu]
   have kj:ds.getD j (.int 0)=dj:=by simp[Ii]
   have mi:di∈ds:=List.mem_of_getElem? Fu;have mj:dj∈ds:=List.mem_of_getElem? Ii;refine zJ (s:={s with heap:=h'}) zu (n:=100) (by show A.units + 1 + 100 < cLine;lia) k (PP (mh Fu) (by lia)) (yx di mi dj mj) (hf di mi) (hf dj mj) Ih Jv K6 K7 ?_;have LM:C (D.lt (ds.getD i (.int 0)) (ds.getD j (.int 0))) {s with heap:=h'}:=hC;rw[ki,kj] at LM;exact LM
  ·obtain⟨di,Fu,Ih⟩:=kF.get (i:=i) (x:=ys[i]'(by lia)) (by simp);obtain⟨dj,Ii,Jv⟩:=kF.get (i:=j) (x:=ys[j]'(by lia)) (by simp);obtain⟨ui,Kf,K6⟩:=rv.get (i:=i) (x:=ys[i]'(by lia)) (by simp);obtain⟨uj,Kg,K7⟩:=rv.get (i:=j) (x:=ys[j]'(by lia)) (by simp);rw[show its.getD i Value.none=ui by simp[Kf],show its.getD j Value.none=uj by simp[Kg]] at eij;subst eij;have ki:ds.getD i (.int 0)=di:=by simp[Fu]
   have kj:ds.getD j (.int 0)=dj:=by simp[Ii]
   show ds.getD i (.int 0)=ds.getD j (.int 0);rw[ki,kj];rw[K6.inj K7] at Ih;exact Ih.inj Jv
 ·refine⟨_,rfl,Pv ?_⟩;have zv:p.toList.Perm (List.range its.length):=hp;have Iu:∀i∈p.toList,i < ys.length:=λi hi=>by
   have:=Qu.mp (zv.mem_iff.mp hi)
   lia
  have new:bB X.prog X.w (upd H s.heap.objs.size (.lst (p.toList.map λi=>ys.getD i .aP))) h' s.heap.objs.size (.lst (p.toList.map λi=>ys.getD i .aP)):=
   ⟨by rw[PL,zv.length_eq,List.length_range];rw[sizeLine_eq];lia,_,e,o4 rv Iu,hD⟩
  have I2:=I.laid (t':=s.toks) (a:=s.heap.objs.size) (λb o q=>kk b o (ne b o q) (Pu _ q)) (PF _) new;refine q _ _ (p.toList.map λi=>ds.getD i (.int 0)) _ (I.hok.fresh (PF _)) (kF.map Iu) ⟨?_,?_⟩ I2
  ·have e1:=zv.map (λi=>ds.getD i (.int 0));rw[show its.length=ds.length by lia] at e1;rw[c6] at e1;exact e1
  ·have Kh:∀i j,i<=j->j < its.length->D.lt (ds.getD (p.getD j 0) (.int 0)) (ds.getD (p.getD i 0) (.int 0))=false:=hup;have fU:p.toList.length=its.length:=by rw[zv.length_eq,List.length_range]
   rw[List.pairwise_map,List.pairwise_iff_getElem];intro i j hi hj fm;have:=Kh i j (by lia) (by lia);rw[show p.getD i 0=p.toList[i] by simp at hi;simp[Array.getD,hi],show p.getD j 0=p.toList[j] by simp at hj;simp[Array.getD,hj]] at this;exact this
end
noncomputable def DH (K:PySem.W.Frag):List V->Hp->VK->Prop:=λxs H Q=>∃a ys ds,xs=[.ref a]/\(cM K H a ys\/d5 K H a ys)/\a9 H ys ds/\jq ds/\∀l zs es,H l=none->a9 H zs es->jr ds es->Q (.ref l) (upd H l (.lst zs))
theorem lX {X:Cx} (hu:X.A.units + 150 < cLine):ck X (.builtin "sorted") (DH X.K):=by
 intro pins s σ H xs us Q I r h;obtain⟨a,ys,ds,rfl,hq,kF,hc,q⟩:=h;obtain⟨u,rfl,ru⟩:=r.one;cases ru;have sh:∃(its:List Value) (T:String) (o:Obj) (n:Nat),au ys its/\(T="list"\/T="tuple")/\s.heap.get? a=some o/\o.cls= .type T/\o.data= .seq its.toArray n:=by
  rcases hq with hq | hq
  ·obtain⟨its,rv,⟨o,n,ho,hc,_,hd⟩,_⟩:=I.list hq;exact⟨its,"list",o,n,rv,.inl rfl,ho,hc,hd⟩
  ·obtain⟨its,rv,⟨o,ho,hc,n,hd⟩,_⟩:=I.tuple hq;exact⟨its,"tuple",o,n,rv,.inr rfl,ho,hc,hd⟩
 obtain⟨its,T,o,n,rv,hT,ho,Co,hd⟩:=sh;have zx:its.length<=sizeLine:=by rw[sizeLine_eq,<-rv.length,kF.length];have:=hc.1;lia
 refine Calls.call_function_entry kind_sorted plain_sorted entry_sorted (args_sorted1 _) ?_;unfold Builtin.«sorted»;refine Pr (m:=checkCount "sorted" 1 1 _) (Pv (Pr (wpAny_collect_seq a hT ho Co hd (λh1 k1=>?_) (by rw[Px];exact zx))));have I1:Inv X pins σ H {s with heap:=h1}:=I.kept (t':=s.toks) k1;exact uh (A:=X.A.in1) (by show X.A.units + 1 + 148 < cLine;lia) I1 rv kF hc λl zs es s' hl hz hso I2=>⟨_,rfl,.ref l,_,I2,rfl,q l zs es hl hz hso⟩
end Mx
end
section
namespace Mx
open PySem PySem.W PySem.Spec PyProof.Rows L2
theorem any_range (bs:List Bool):((List.range bs.length).any λi=>bs.getD i false)=bs.any id:=by
 have h:=c6 bs false;have e:((List.range bs.length).map λi=>bs.getD i false).any id=bs.any id:=by rw[h]
 rw[List.any_map] at e;exact e
theorem all_range (bs:List Bool):((List.range bs.length).all λi=>bs.getD i false)=bs.all id:=by
 have h:=c6 bs false;have e:((List.range bs.length).map λi=>bs.getD i false).all id=bs.all id:=by rw[h]
 rw[List.all_map] at e;exact e
theorem mO (ns:List Int):∀j,preSum (λi=>ns.getD i 0) j=(ns.take j).sum
 | 0=>by simp[preSum]
 | j + 1=>by
  rw[preSum,mO ns j];by_cases h:j < ns.length
  ·have e:ns.take (j + 1)=ns.take j++[ns[j]]:=by rw[List.take_append_getElem h]
   rw[e,List.sum_append];simp[h]
  ·rw[List.take_of_length_le (by lia),List.take_of_length_le (by lia)];simp[show ns.length<=j by lia]
theorem AX {bs:List Bool} {its:List Value} (r:au (bs.map V.bl) its) {i:Nat} {v:Value} (h:its[i]?=some v):v= .bool (bs.getD i false):=by
 have hl:=r.length;have hi:i < bs.length:=by
  have:=(Pz.mp h).1;simp at hl
  lia
 obtain⟨u,hu,ru⟩:=r.get (i:=i) (x:=V.bl (bs.getD i false)) (by simp[hi]);rw[h] at hu;cases hu;exact ru
theorem int_at {ns:List Int} {its:List Value} (r:au (ns.map V.int) its) {i:Nat} {v:Value} (h:its[i]?=some v):∃t,v= .int (ns.getD i 0) t:=by
 have hl:=r.length;have hi:i < ns.length:=by
  have:=(Pz.mp h).1;simp at hl
  lia
 obtain⟨u,hu,ru⟩:=r.get (i:=i) (x:=V.int (ns.getD i 0)) (by simp[hi]);rw[h] at hu;cases hu;exact ru
section
variable {X:Cx}
theorem jM {prog:Program} {w:World} {A:Around} {E:Value->Shared->Prop} {s:Shared} {l:Addr} {items:Array Value} {Q:Value->Shared->Prop} (hl:s.heap.IsList l items)
  (h:∀s2:Shared,s2={s with heap:=s.heap.push {cls:= .type "list_iterator",data:= .fields #[.ref l,.int 0 0]}}->(s2.heap.IsListIter s.heap.objs.size l 0/\s2.heap.IsList l items)->(∀b∈[s.heap.objs.size,l],b < s2.heap.objs.size)->l≠s.heap.objs.size->
   (∀(b:Addr) (o:Obj),s.heap.get? b=some o->b∉[s.heap.objs.size]/\s2.heap.get? b=some o)->Q (.ref s.heap.objs.size) s2):wpAny (model prog w) A (pyIter (.ref l)) Q E s:=by
 have lt:l < s.heap.objs.size:=by obtain⟨_,e,_⟩:=hl;exact PN e
 refine wpAny_pyIter_list hl (h _ rfl ⟨⟨_,PJ _ rfl,rfl,rfl⟩,hl.push _⟩ (λb hb=>?_) (Qe lt) λb o e=>⟨?_,Pu _ e⟩)
 ·show b < (s.heap.push _).objs.size;rw[Qd];simp only[PQ,PU,or_false] at hb;have lt':l < s.heap.objs.size:=lt;rcases hb with rfl | rfl
  ·exact Nat.lt_succ_self _
  ·exact Nat.lt_succ_of_lt lt'
 ·intro hb;have:=PN e;rw[Qh.mp hb] at this;exact Nat.lt_irrefl _ this
noncomputable def KO (K:PySem.W.Frag):List V->Hp->VK->Prop:=λxs H Q=>∃(l:Addr) (bs:List Bool),xs=[.ref l]/\cM K H l (bs.map V.bl)/\Q (.bl (bs.any id)) H
noncomputable def KN (K:PySem.W.Frag):List V->Hp->VK->Prop:=λxs H Q=>∃(l:Addr) (bs:List Bool),xs=[.ref l]/\cM K H l (bs.map V.bl)/\Q (.bl (bs.all id)) H
noncomputable def K4 (K:PySem.W.Frag):List V->Hp->VK->Prop:=λxs H Q=>∃(l:Addr) (ns:List Int),xs=[.ref l]/\cM K H l (ns.map V.int)/\Q (.int ns.sum) H
theorem vg (hc:X.calm=true):ck X (.builtin "any") (KO X.K):=by
 intro pins s σ H xs us Q I r h;obtain⟨l,bs,rfl,hq,q⟩:=h;obtain⟨u,rfl,ru⟩:=r.one;cases ru;obtain⟨its,rv,pl,hz⟩:=I.list hq;have hl:its.length=bs.length:=by rw[<-rv.length];simp
 refine call_any_walk (jM pl.isList λs2 e st fp ne old=>?_);refine⟨_,_,_,_,_,_,λi=>bs.getD i false,rfl,Walks.list (A:=X.A.in1) (I.ok.hd hc) _ l ne its.toArray,st,λi v s' Q' E' hv hQ=>?_,λh' tk hk=>?_⟩
 ·have zA:its.toArray[i]?=some v:=hv;rw[AX rv (show its[i]?=some v by simpa using zA)];exact wpAny_truthy_bool hQ
 ·subst e;refine⟨.bl _,H,I.kept λb o e=>hk b o (old b o e).1 (old b o e).2,rfl,?_⟩;rw[show its.toArray.size=bs.length by simp[hl],any_range];exact q
theorem ve (hc:X.calm=true):ck X (.builtin "all") (KN X.K):=by
 intro pins s σ H xs us Q I r h;obtain⟨l,bs,rfl,hq,q⟩:=h;obtain⟨u,rfl,ru⟩:=r.one;cases ru;obtain⟨its,rv,pl,hz⟩:=I.list hq;have hl:its.length=bs.length:=by rw[<-rv.length];simp
 refine call_all_walk (jM pl.isList λs2 e st fp ne old=>?_);refine⟨_,_,_,_,_,_,λi=>bs.getD i false,rfl,Walks.list (A:=X.A.in1) (I.ok.hd hc) _ l ne its.toArray,st,λi v s' Q' E' hv hQ=>?_,λh' tk hk=>?_⟩
 ·have zA:its.toArray[i]?=some v:=hv;rw[AX rv (show its[i]?=some v by simpa using zA)];exact wpAny_truthy_bool hQ
 ·subst e;refine⟨.bl _,H,I.kept λb o e=>hk b o (old b o e).1 (old b o e).2,rfl,?_⟩;rw[show its.toArray.size=bs.length by simp[hl],all_range];exact q
theorem vi (hc:X.calm=true):ck X (.builtin "sum") (K4 X.K):=by
 intro pins s σ H xs us Q I r h;obtain⟨l,ns,rfl,hq,q⟩:=h;obtain⟨u,rfl,ru⟩:=r.one;cases ru;obtain⟨its,rv,pl,hz⟩:=I.list hq;have hl:its.length=ns.length:=by rw[<-rv.length];simp
 refine call_sum_walkG (jM pl.isList λs2 e st fp ne old=>?_);refine⟨_,_,_,_,_,_,λi=>ns.getD i 0,rfl,Walks.list (A:=X.A.in1) (I.ok.hd hc) _ l ne its.toArray,st,fp,λi v hv=>?_,λh' tk t' hk=>?_⟩
 ·have zA:its.toArray[i]?=some v:=hv;exact int_at rv (by simpa using zA)
 ·subst e;refine⟨.int _,H,I.kept λb o e=>hk b o (old b o e).1 (old b o e).2,⟨t',rfl⟩,?_⟩;rw[show its.toArray.size=ns.length by simp[hl],mO,List.take_length];exact q
end
theorem gn {i:Nat} {v:V} {σ:L2.St} {H:Hp} {k:L2.St->Hp->Prop} (h:k (σ.set i (some v)) H):dM i v σ H k:=h
end Mx
end
section
namespace Mx
open PySem PySem.W PySem.Spec PyProof.Rows L2 HT
open PySem.AutoSeq1 (wpAny_loadPart')
theorem tuple_addW0 (l b:Addr) (items eV:Array Value) (n n2:Nat) (dd yj:Option Addr) (sl uB:Array (Option Value)) (Pc:items.isEmpty=true):
  Meets (Builtin.«tuple.__add__» ⟨[.ref l,.ref b],[]⟩) (λ_ R s=>s.heap.get? l=some {cls:= .type "tuple",dict:=dd,data:= .seq items n,slots:=sl}/\s.heap.get? b=some {cls:= .type "tuple",dict:=yj,data:= .seq eV n2,slots:=uB}/\R (.ok (.ret (Value.ref b))) s):=
 .of_wp λprog w A R s h=>by
  obtain⟨hp,g,d,tk,os⟩:=s;obtain⟨hl,hb,h⟩:=h;have f2:=sub_tuple_tuple
  wp_walk using wpAny_loadPart' hl,wpAny_loadPart' hb
  exact⟨_,rfl,h⟩
theorem wm {α:Type} (pre:List α) (x:α):mF (pre++[x]).length (-1)=some pre.length:=by
 unfold mF;rw[if_neg (by decide),if_pos (by simp;lia)];simp
 lia
theorem nL {α:Type} (pre:List α) (x:α):km (pre++[x]) (-1)=some x:=by unfold km;rw[wm];simp
end Mx
end
section
namespace Mx
open PySem PySem.W PySem.Spec PyProof.Rows L2
noncomputable def KY (K:PySem.W.Frag):List V->Hp->VK->Prop:=λxs H Q=>∃(l:Addr) (ns:List Int),xs=[.ref l]/\cM K H l (ns.map V.int)/\ns≠[]/\∀m,m∈ns->(∀a∈ns,m<=a)->Q (.int m) H
theorem sX {X:Cx} (hc:X.calm=true):ck X (.builtin "min") (KY X.K):=by
 intro pins s σ H xs us Q I r h;obtain⟨l,ns,rfl,hq,gg,q⟩:=h;obtain⟨u,rfl,ru⟩:=r.one;cases ru;obtain⟨its,rv,pl,hz⟩:=I.list hq;have i1:IntsAre its ns:=intsAre_of rv;have Cu:=i1.numsOf;have uw:=i1.allInts;have hl:=pl.isList;obtain⟨xs,Gc⟩:=uw.items;have oh:numsOf (intItems xs).toList=ns:=by rw[<-Gc];exact Cu
 rw[nums_intItems] at oh;rw[Gc] at hl;have hlen:ns.length=xs.size:=by rw[<-oh,PL,P3]
 have hpos:0 < xs.size:=by rw[<-hlen];exact List.length_pos_iff.mpr gg
 refine min_intList (I.ok.hd hc) hl hpos λv h' tk hv hk=>?_
 obtain⟨t,rfl⟩:=intItems_at hv;obtain⟨h1,h2⟩:=argBest_lt (numAt xs) (xs.size - 1);refine⟨.int _,H,I.kept hk,⟨t,rfl⟩,q _ ?_ λa ha=>?_⟩
 ·rw[numAt_eq,oh];exact getD_mem (by lia)
 ·obtain⟨j,hj,rfl⟩:=mem_getD ha;rw[<-oh,<-numAt_eq];exact h2 j (by lia)
noncomputable def KW (K:PySem.W.Frag):List V->Hp->VK->Prop:=λxs H Q=>∃(l:Addr) (ns:List Int),xs=[.ref l]/\cM K H l (ns.map V.int)/\ns≠[]/\∀m,m∈ns->(∀a∈ns,a<=m)->Q (.int m) H
theorem sW {X:Cx} (hc:X.calm=true):ck X (.builtin "max") (KW X.K):=by
 intro pins s σ H xs us Q I r h;obtain⟨l,ns,rfl,hq,gg,q⟩:=h;obtain⟨u,rfl,ru⟩:=r.one;cases ru;obtain⟨its,rv,pl,hz⟩:=I.list hq;have i1:IntsAre its ns:=intsAre_of rv;have Cu:=i1.numsOf;have uw:=i1.allInts;have hl:=pl.isList;obtain⟨xs,Gc⟩:=uw.items;have oh:numsOf (intItems xs).toList=ns:=by rw[<-Gc];exact Cu
 rw[nums_intItems] at oh;rw[Gc] at hl;have hlen:ns.length=xs.size:=by rw[<-oh,PL,P3]
 have hpos:0 < xs.size:=by rw[<-hlen];exact List.length_pos_iff.mpr gg
 refine max_intList (I.ok.hd hc) hl hpos λv h' tk hv hk=>?_
 obtain⟨t,rfl⟩:=intItems_at hv;obtain⟨h1,h2⟩:=argBest_gt (numAt xs) (xs.size - 1);refine⟨.int _,H,I.kept hk,⟨t,rfl⟩,q _ ?_ λa ha=>?_⟩
 ·rw[numAt_eq,oh];exact getD_mem (by lia)
 ·obtain⟨j,hj,rfl⟩:=mem_getD ha;rw[<-oh,<-numAt_eq];exact h2 j (by lia)
end Mx
end
section
namespace L2
open PySem PySem.Spec PyProof.Rows
noncomputable def dz (e:Expr) (d:Nat) (it acc:Value) (env:Env) (target:Expr) (ifs:List Expr) (p:Pos) (body:Sem Unit):Sem PySem.Fin:=do
 standAt p
 match<-pyNext it with
 | none=>pure (.done .next)
 | some v=>
  letOwnedTupleGo target it v
  assign target env v
  let mut ok:=true
  for c in ifs do
   if ok then ok<-isTrue c env (eval c env)
  if ok then body
  again (.compLoop e d it acc env)
theorem l7 {prog:Program} {w:World} {A:Around} {R:Result->Shared->Prop} {s:Shared} {elt target:Expr} {gens:List Comprehension} {scope:Scope} {pos:Pos} {d:Nat} {ifs:List Expr} {p:Pos} {it acc:Value} {env:Env} {body:Sem Unit} (heq:compTurn (.ListComp elt gens scope pos) d it acc env=dz (.ListComp elt gens scope pos) d it acc env target ifs p body) {EE:Value->Shared->Prop}
  (FE:∀x s',EE x s'->notedBy (model prog w) A env (λx s'=>R (.error x) s') x s') (I:Nat->Shared->Prop)
  (turn:∀n s,I n s->wpAny (model prog w) A (pyNext it) (λr s₁=>match r with
   | none=>R (.ok .next) s₁
   | some v=>wpAny (model prog w) A (letOwnedTupleGo target it v) (λ_ s₁'=>wpAny (model prog w) A (assign target env v) (λ_ s₂=>
     wpAny (model prog w) A (forIn ifs true λc r=>if r=true then do let ok<-isTrue c env (eval c env);pure (ForInStep.yield ok) else pure (ForInStep.yield r)) (λok s₃=>
      if ok=true then wpAny (model prog w) A body (λ_ s₄=>∃m,m < n/\I m s₄) EE s₃
      else∃m,m < n/\I m s₃) EE s₂) EE s₁') EE s₁) EE s)
  (n:Nat) (h:I n s):codeAny (model prog w) A (.compLoop (.ListComp elt gens scope pos) d it acc env) R s:=by
 refine codeAny_loop rfl I (λn s hI=>?_) n h;show wpAny _ A ((compTurn (.ListComp elt gens scope pos) d it acc env).onRaise (λx=>do noteFrame x env;theTreesLotGoes x)) _ _ s;refine wpAny_noted ?_;rw[heq];unfold dz;refine Pr (wpAny_standAt (Pr (wpAny_mono (turn n s hI) (λr s₁ h₁=>?_) FE)));cases r with
 | none=>exact Pv h₁
 | some v=>
  refine Pr (wpAny_mono h₁ (λ_ s₁' h₁'=>?_) FE);refine Pr (wpAny_mono h₁' (λ_ s₂ h₂=>Pr (wpAny_mono h₂ (λok s₃ h₃=>?_) FE)) FE);cases ok with
  | false=>exact Pv ⟨rfl,h₃⟩
  | true=>exact Pr (wpAny_mono h₃ (λ_ s₄ h₄=>Pv ⟨rfl,h₄⟩) FE)
noncomputable def fQ (elt:Expr) (acc:Value) (env:Env):Sem Unit:=do let _<-call (.builtin "list.append") [acc,<-eval elt env]
noncomputable def nextOf (e:Expr) (d:Nat) (iter:Expr) (acc:Value) (env:Env):Sem Unit:=do
 let x<-eval iter env
 standAt iter.pos
 let x<-foldedSetIterable iter env x
 let _<-runOwn (.compStart e d (<-holding [x] (pyIter x)) acc env) env
theorem oY (elt target iter:Expr) (ifs:List Expr) (scope:Scope) (pos:Pos) (it acc:Value) (env:Env):
  compTurn (.ListComp elt [⟨target,iter,ifs,0⟩] scope pos) 0 it acc env=dz (.ListComp elt [⟨target,iter,ifs,0⟩] scope pos) 0 it acc env target ifs iter.pos (fQ elt acc env):=by rfl
theorem oZ (elt target iter bc bN:Expr) (ifs bX:List Expr) (scope:Scope) (pos:Pos) (it acc:Value) (env:Env):
  compTurn (.ListComp elt [⟨target,iter,ifs,0⟩,⟨bc,bN,bX,0⟩] scope pos) 0 it acc env=
   dz (.ListComp elt [⟨target,iter,ifs,0⟩,⟨bc,bN,bX,0⟩] scope pos) 0 it acc env target ifs iter.pos (nextOf (.ListComp elt [⟨target,iter,ifs,0⟩,⟨bc,bN,bX,0⟩] scope pos) 1 bN acc env):=by
 unfold dz nextOf;simp only[bind_assoc,pure_bind];rfl
theorem AH (elt target iter bc bN:Expr) (ifs bX:List Expr) (scope:Scope) (pos:Pos) (it acc:Value) (env:Env):
  compTurn (.ListComp elt [⟨target,iter,ifs,0⟩,⟨bc,bN,bX,0⟩] scope pos) 1 it acc env=
   dz (.ListComp elt [⟨target,iter,ifs,0⟩,⟨bc,bN,bX,0⟩] scope pos) 1 it acc env bc bX bN.pos (fQ elt acc env):=by rfl
noncomputable def Le (σ σ2:St):Prop:=σ2.length=σ.length/\∀(j:Nat) (v:V),σ[j]?=some (some v)->σ2[j]?=some (some v)
theorem Le.refl (σ:St):Le σ σ:=⟨rfl,λ_ _ h=>h⟩
noncomputable def GL (σ0:St) (g:TG):Prop:=∀x σ H (Q:St->Hp->Prop),Le σ0 σ->g x σ H Q->g x σ H λσ2 H2=>Le σ0 σ2/\Q σ2 H2
noncomputable def EV (σ0:St) (g:uK):Prop:=∀x σ H (Q:St->Hp->Prop),Le σ0 σ->g x σ H Q->g x σ H λσ2 H2=>Le σ0 σ2/\Q σ2 H2
theorem Le.set {k:Nat} {σ0 σ:St} {v:Option V} (h:σ0[k]?=some none) (q:Le σ0 σ):Le σ0 (σ.set k v):=⟨by simpa using q.1,λj w hj=>by
 rw[PZ (by rintro rfl;rw[h] at hj;cases hj)];exact q.2 j w hj⟩
theorem zk {σ0:St} {k:Nat} (h:σ0[k]?=some none):GL σ0 (dM k):=λx σ H Q p q=>⟨p.set h,q⟩
theorem zl {σ0:St}:EV σ0 Cg:=λx σ H Q p q=>⟨q.1,p,q.2⟩
theorem vQ {σ0:St} {k:Nat} {u:uK} (h:σ0[k]?=some none) (hu:EV σ0 u):EV σ0 (vJ (dM k) u):=λx σ H Q p q=>by obtain⟨v,r,e,q⟩:=q;exact⟨v,r,e,hu r _ H Q (p.set h) q⟩
theorem Ck {σ0:St} {K:PySem.W.Frag} {n:Nat} {u:uK} (hu:EV σ0 u):GL σ0 (Ci K n u):=λx σ H Q p q=>by obtain⟨a,xs,e,h1,h2,q⟩:=q;exact⟨a,xs,e,h1,h2,hu xs σ H Q p q⟩
theorem Inv.le {X:Cx} {pins:List (Addr×Obj)} {σ σ2:St} {H:Hp} {s:Shared} (I:Inv X pins σ2 H s) (h:Le σ σ2):Inv X pins σ H s:=I.weak h.1.symm h.2
noncomputable abbrev TB:=St->Hp->(Hp->Prop)->Prop
noncomputable def PB (X:Cx) (body:Sem Unit) (tb:TB):Prop:=∀(pins:List (Addr×Obj)) (s:Shared) (σ:St) (H:Hp) (Q:Hp->Prop),Inv X pins σ H s->tb σ H Q->wpAny (model X.prog X.w) X.A body (λ_ s'=>∃H',Inv X pins σ H' s'/\Q H') X.xe s
noncomputable def nG (J:It) (g:TG) (tt:TT) (tb:TB) (σ0:St) (F:Hp->Prop) (H1:Hp):Prop:=
 ∃W:Nat->Nat->Hp->Prop,(∃m,W 0 m H1)/\∀i m H,W i m H->
  (J.stop i H/\F H)\/(J.go i H/\∀x H',J.yld i H x H'->g x σ0 H' λσ2 H2=>tt σ2 H2 λb H3=>if b=true then tb σ2 H3 λH4=>∃m',m' < m/\W (i + 1) m' H4 else∃m',m' < m/\W (i + 1) m' H3)
section
variable {X:Cx} {g:TG} {tt:TT} {tb:TB}
theorem kU (hc:X.calm=true) {elt target:Expr} {gens:List Comprehension} {scope:Scope} {pos:Pos} {d:Nat} {ifs:List Expr} {p:Pos} {acc:Value} {body:Sem Unit} {R:Result->Shared->Prop} {pins:List (Addr×Obj)} {σ0:St} {H0:Hp} {s0:Shared} {it:Addr} {fp:List Addr} {tn:Nat->Heap->Prop} {J:It} {F:Hp->Prop}
  (heq:compTurn (.ListComp elt gens scope pos) d (.ref it) acc X.env=dz (.ListComp elt gens scope pos) d (.ref it) acc X.env target ifs p body) (hx:∀x s',X.xe x s'->notedBy (model X.prog X.w) X.A X.env (λx s'=>R (.error x) s') x s')
  (hg:PG X target g) (ko:GL σ0 g) (ht:AN X ifs tt) (hb:PB X body tb) (I0:Inv X pins σ0 H0 s0) (T:Turn X.prog X.w X.K target J fp it tn) (cY:tn 0 s0.heap) (f0:∀b∈fp,fP X pins H0 b)
  (hW:nG J g tt tb σ0 F H0) (fin:∀s' H',Inv X pins σ0 H' s'->F H'->R (.ok .next) s'):codeAny (model X.prog X.w) X.A (.compLoop (.ListComp elt gens scope pos) d (.ref it) acc X.env) R s0:=by
 obtain⟨W,⟨m0,w0⟩,turn⟩:=hW;have mY:∀{H':Hp},(∀b∈fp,H' b=none)->∀b∈fp,fP X pins H' b:=λhn b hb=>⟨hn b hb,(f0 b hb).2⟩
 refine l7 heq hx (λn s'=>∃i H',Inv X pins σ0 H' s'/\tn i s'.heap/\(∀b∈fp,H' b=none)/\W i n H') ?_ m0 ⟨0,H0,I0,cY,λb hb=>(f0 b hb).1,w0⟩;rintro n s4 ⟨i,H4,I4,Mv,LI,w4⟩;rcases turn i n H4 w4 with ⟨stop,qn⟩ | ⟨go,step⟩
 ·refine bH (T.done X rfl rfl rfl hc i pins s4 _ H4 X.xe I4 (mY LI) Mv stop) λr s5 ⟨hr,I5⟩=>?_
  subst hr;exact fin s5 H4 I5 qn
 ·refine bH (T.item X rfl rfl rfl hc i pins s4 _ H4 X.xe I4 (mY LI) Mv go) λr s5 ⟨u,hr,h5⟩=>?_
  subst hr;refine bH h5 λ_ s6 ⟨x,H6,I6,r6,y6,Lh,M8⟩=>?_
  have MR:=I6.pinned (mY M8) (T.obj _ _ Lh);have again:∀{s7:Shared} {σ7:St} {H7:Hp} {m7:Nat},Inv X (pins++jZ fp s6.heap) σ7 H7 s7->Le σ0 σ7->m7 < n->W (i + 1) m7 H7->
    ∃m,m < n/\∃i H',Inv X pins σ0 H' s7/\tn i s7.heap/\(∀b∈fp,H' b=none)/\W i m H':=λ {s7 σ7 H7 m7} I7 hσ hm w7=>by
   refine⟨m7,hm,i + 1,H7,I7.gU.le hσ,T.keep _ _ _ Lh λb hb o e=>(I7.pin (b,o) (Qf _ (Qf _ (ec hb e)))).1,λb hb=>?_,w7⟩;obtain⟨o,e,d⟩:=T.obj _ _ Lh b hb;exact(I7.pin (b,o) (Qf _ (Qf _ (ec hb e)))).2.1
  refine bH (hg _ s6 _ H6 x u _ MR r6 (ko x _ H6 _ (Le.refl _) (step x H6 y6))) λ_ s7 ⟨σ7,H7,I7,Mi,q7⟩=>?_
  refine bH (ht _ s7 σ7 H7 _ I7 q7) λb s8 ⟨H8,I8,q8⟩=>?_
  cases b with
  | false=>rw[if_neg (by simp)] at q8 ⊢;obtain⟨m',hm,w8⟩:=q8;exact again I8 Mi hm w8
  | true=>
   rw[if_pos rfl] at q8 ⊢;refine bH (hb _ s8 σ7 H8 _ I8 q8) λ_ s9 ⟨H9,I9,m',hm,w9⟩=>?_
   exact again I9 Mi hm w9
noncomputable def sO (D:Addr) (te:TE):TB:=λσ H Q=>te σ H λv H4=>∃fy,H4 D=some (.lst fy)/\fy.length < sizeLine/\Q (upd H4 D (.lst (fy++[v])))
theorem jg {elt:Expr} {te:TE} {D:Addr} (he:PE X elt te):PB X (fQ elt (.ref D) X.env) (sO D te):=by intro pins s σ H Q I h;unfold fQ;refine Pr (bH (he pins s σ H _ I h) λy s9 ⟨v,H9,I9,r9,fy,Ni,hz,q⟩=>?_);refine Pr (bH (lp _ s9 σ H9 (.ref D) [v] (.ref D) [y] (λ_ H'=>H'=upd H9 D (.lst (fy++[v]))) I9 rfl (.cons r9 .nil) ⟨D,fy,v,rfl,rfl,Ni,hz,rfl⟩) λ_ s10 ⟨_,OY,MO,_,M0⟩=>?_);subst M0;exact Pv ⟨_,MO,q⟩
theorem me {prog:Program} {w:World} {A:Around} {R:Result->Shared->Prop} {s:Shared} {elt target iter bc bN:Expr} {ifs bX:List Expr} {scope:Scope} {pos:Pos} {it acc:Value} {env:Env}
  (h0:codeAny (model prog w) A (.compLoop (.ListComp elt [⟨target,iter,ifs,0⟩,⟨bc,bN,bX,0⟩] scope pos) 1 it acc env) R s)
  (h:wpAny (model prog w) A (pyIter it) (λi9 s'=>codeAny (model prog w) A (.compLoop (.ListComp elt [⟨target,iter,ifs,0⟩,⟨bc,bN,bX,0⟩] scope pos) 1 i9 acc env) R s')
   (notedBy (model prog w) A env λx s'=>R (.error x) s') s):
  codeAny (model prog w) A (.compStart (.ListComp elt [⟨target,iter,ifs,0⟩,⟨bc,bN,bX,0⟩] scope pos) 1 it acc env) R s:=by
 refine codeAny_of_tree ?_;show wpAny _ _ ((compStart (.ListComp elt [⟨target,iter,ifs,0⟩,⟨bc,bN,bX,0⟩] scope pos) 1 it acc env).onRaise (λx=>do noteFrame x env;standAt theWindowsPlace)) _ _ s;refine wpAny_notedAt ?_;unfold compStart;show wpAny _ _ (ask >>=_) _ _ s;refine Pr (wpAny_askSetting (wpAny_ite ?_));split
 ·first
   | exact Pr (Pv (Pv (And.intro rfl h0)))
   | exact Pv (And.intro rfl h0)
 ·first
   | exact Pr (wpAny_rule (Pr (wpAny_standAt (Pr (wpAny_mono h (λi9 s' h'=>Pv (And.intro rfl h')) λ_ _ x=>x)))))
   | (refine Pr (wpAny_rule ?_);show wpAny _ _ (standAt bN.pos >>=_) _ _ s;exact Pr (wpAny_standAt (Pr (wpAny_mono h (λi9 s' h'=>Pv (And.intro rfl h')) λ_ _ x=>x))))
noncomputable def Hx (wi:TI) (g:TG) (tt:TT) (tb:TB):TB:=λσ H Q=>GL σ g/\wi σ H λJ H1=>nG J g tt tb σ Q H1
theorem r4 {elt target iter bc bN:Expr} {ifs bX:List Expr} {scope:Scope} {pos:Pos} {acc:Value} {wi:TI} {te:TB} (hc:X.calm=true) (hp:PassesOwn (model X.prog X.w) X.A X.env X.xe) (hi:PI X bc bN wi) (hg:PG X bc g) (ht:AN X bX tt) (he:PB X (fQ elt acc X.env) te)
  (hs:∀x,foldedSetIterable bN X.env x=pure x:=by intro _;rfl):PB X (nextOf (.ListComp elt [⟨target,iter,ifs,0⟩,⟨bc,bN,bX,0⟩] scope pos) 1 bN acc X.env) (Hx wi g tt te):=by
 intro pins s σ H Q I ⟨ko,h⟩;unfold nextOf;refine Pr (bH (hi pins s σ H _ I h) λx s₁ h₁=>?_);refine Pr (wpAny_standAt (Pr (wpAny_of_eq (hs x) (Pr (wpAny_holding (bH h₁ λnB s₂ h₂=>?_))))));obtain⟨it,fp,tn,J,H2,e,I2,T,de,f2,hW⟩:=h₂;subst e;have loop:codeAny (model X.prog X.w) X.A (.compLoop (.ListComp elt [⟨target,iter,ifs,0⟩,⟨bc,bN,bX,0⟩] scope pos) 1 (.ref it) acc X.env) (λr s'=>match r with | .ok f=>∃H',Inv X pins σ H' s'/\Q H' | .error e=>cameBackBy (model X.prog X.w) X.A X.env X.xe e s') s₂:=
  kU hc (AH ..) (λx s' q=>hp x s' q) hg ko ht he I2 T de f2 hW λs' H' I' q=>⟨H',I',q⟩
 have run:wpAny (model X.prog X.w) X.A (runOwn (.compStart (.ListComp elt [⟨target,iter,ifs,0⟩,⟨bc,bN,bX,0⟩] scope pos) 1 (.ref it) acc X.env) X.env) (λ_ s'=>∃H',Inv X pins σ H' s'/\Q H') X.xe s₂:=
  wpAny_runOwn (me loop (T.self _ 0 _ _ _ de loop))
 exact Pr (wpAny_mono run (λf s' q=>Pv q) λ_ _ z=>z)
end
theorem ff {x:Str} {c:Addr}:∀(names:List (Str×NameKind)) (n:Nat) (acc:List (Str×Addr)),(cellsFrom n names acc).lookup x=some c->(n<=c/\(x,NameKind.cell)∈names)\/acc.lookup x=some c
 | [],n,acc,h=> .inr h
 | (y,k)::r,n,acc,h=>by
  unfold cellsFrom at h;by_cases hk:(k==NameKind.cell)=true
  ·rw[if_pos hk] at h;rcases ff r (n + 1) _ h with ⟨h1,h2⟩ | h1
   ·exact .inl ⟨PP (Nat.le_succ _) h1,PC _ h2⟩
   ·rw[P9] at h1;cases hb:x==y with
    | true=>
     rw[hb] at h1;cases h1;have:x=y:=by simpa using hb
     subst this;have:k=NameKind.cell:=by simpa using hk
     subst this;exact .inl ⟨PF _,PH⟩
    | false=>rw[hb] at h1;exact .inr h1
  ·rw[if_neg hk] at h;rcases ff r n _ h with ⟨h1,h2⟩ | h1
   ·exact .inl ⟨h1,PC _ h2⟩
   ·exact .inr h1
theorem pH {x y:Str} {c:Addr}:∀(names:List (Str×NameKind)) (n:Nat) (acc:List (Str×Addr)),(∀x c,acc.lookup x=some c->c < n)->(∀x y c,acc.lookup x=some c->acc.lookup y=some c->x=y)->
  (cellsFrom n names acc).lookup x=some c->(cellsFrom n names acc).lookup y=some c->x=y
 | [],n,acc,h1,h2,hx,hy=>h2 x y c hx hy
 | (z,k)::r,n,acc,h1,h2,hx,hy=>by
  unfold cellsFrom at hx hy;by_cases hk:(k==NameKind.cell)=true
  ·rw[if_pos hk] at hx hy;refine pH r (n + 1) _ (λa b fK=>?_) (λa b e ha hb=>?_) hx hy
   ·rw[P9] at fK;cases hq:a==z with
    | true=>rw[hq] at fK;cases fK;exact Nat.lt_succ_self _
    | false=>rw[hq] at fK;exact Nat.lt_succ_of_lt (h1 a b fK)
   ·rw[P9] at ha hb;cases hq:a==z with
    | true=>
     rw[hq] at ha;cases ha;cases hq2:b==z with
     | true=>
      have e1:a=z:=by simpa using hq
      have e2:b=z:=by simpa using hq2
      rw[e1,e2]
     | false=>rw[hq2] at hb;exact absurd (h1 b _ hb) (Nat.lt_irrefl _)
    | false=>
     rw[hq] at ha;cases hq2:b==z with
     | true=>rw[hq2] at hb;cases hb;exact absurd (h1 a _ ha) (Nat.lt_irrefl _)
     | false=>rw[hq2] at hb;exact h2 a b e ha hb
  ·rw[if_neg hk] at hx hy;exact pH r n acc h1 h2 hx hy
theorem lY {x:Str} {c:Addr}:∀(names:List (Str×NameKind)) (n:Nat) (acc:List (Str×Addr)),(x,NameKind.cell)∉names->acc.lookup x=some c->(cellsFrom n names acc).lookup x=some c
 | [],n,acc,_,h=>h
 | (z,k)::r,n,acc,hn,h=>by
  unfold cellsFrom;by_cases hk:(k==NameKind.cell)=true
  ·rw[if_pos hk];refine lY r (n + 1) _ (λz'=>hn (PC _ z')) ?_;rw[P9];have:(x==z)=false:=by
    cases hq:x==z with
    | false=>rfl
    | true=>
     have e1:x=z:=by simpa using hq
     have e2:k=NameKind.cell:=by simpa using hk
     subst e1 e2;exact absurd PH hn
   rw[this];exact h
  ·rw[if_neg hk];exact lY r n acc (λz'=>hn (PC _ z')) h
theorem jw {x:Str} {c:Addr}:∀(names:List (Str×NameKind)) (h:Heap) (acc:List (Str×Addr)),(∀x c,acc.lookup x=some c->∃v,h.IsCell c v)->(cellsFrom h.objs.size names acc).lookup x=some c->∃v,(pushCells h names).IsCell c v
 | [],h,acc,ha,hx=>ha x c hx
 | (z,k)::r,h,acc,ha,hx=>by
  unfold cellsFrom at hx;unfold pushCells;by_cases hk:(k==NameKind.cell)=true
  ·rw[if_pos hk] at hx ⊢;refine jw r _ ((z,h.objs.size)::acc) (λa b fK=>?_) (by rw[Qd];exact hx);rw[P9] at fK;cases hq:a==z with
   | true=>rw[hq] at fK;cases fK;exact⟨none,_,PJ _ rfl,rfl⟩
   | false=>rw[hq] at fK;obtain⟨v,o,ho,hd⟩:=ha a b fK;exact⟨v,o,Pu _ ho,hd⟩
  ·rw[if_neg hk] at hx ⊢;exact jw r h acc ha hx
theorem o6 {M:Model} {A:Around} {E:Value->Shared->Prop} {s:Shared} {scope:Scope} {globals:Addr} {cl:List (Str×Addr)} {qual:Str} {out:Env} {Q:Env->Shared->Prop}
  (hQ:∀h',h'=pushCells (s.heap.push {cls:= .type "dict",data:= .dict #[]}) scope.names->Q (newEnv scope s.heap.objs.size globals (cellsFrom (s.heap.objs.size + 1) scope.names cl) qual none .none (some out) builtinsNs) {s with heap:=h'}):
  wpAny M A (newFunctionEnv scope globals cl [] qual none .none (some out)) Q E s:=by
 simp only[newFunctionEnv,Option.isSome_some,if_true];refine Pr (wpAny_alloc ?_);refine Pr (wpAny_layCells _ (λname kind cells=>by cases hkc:kind==NameKind.cell <;> simp[hkc]) _ _ _ _ ?_);rw[show ({s with heap:=s.heap.push {cls:= .type "dict",data:= .dict #[]}}:Shared).heap.objs.size=s.heap.objs.size + 1 from Qd ..];rw[List.forIn_nil];exact Pr (Pv (Pv (hQ _ rfl)))
noncomputable def eJ (X:Cx) (scope:Scope) (N':List Str) (C:Addr) (s:Shared) (H:Hp) (fp:List Addr) (xe:Value->Shared->Prop):Cx:=
 {X with N:=N',s₀:=s,H₀:=H,env:=compEnvC scope (cellsFrom (C + 1) scope.names (eD scope X.env)) C X.env,outer:=X.stack,stack:=X.stack,ex:=fp,fn:=λx=>scope.names.lookup x==some .cell,pn:=[],xe:=xe}
structure eB (X:Cx) (scope:Scope) (N':List Str) (cap:List (Option Nat)):Prop where
 kind:scope.kind= .function
 nd:∀y∈scope.names,scope.names.lookup y.1=some y.2
 free:∀y∈scope.names,y.2= .free->X.env.scope.names.lookup y.1=some .cell\/X.env.scope.names.lookup y.1=some .free
 td:∀(j i:Nat),cap[j]?=some (some i)->∃x,N'[j]?=some x/\X.N[i]?=some x/\scope.names.lookup x=some .free
 len:cap.length=N'.length
section
variable {X:Cx} {scope:Scope} {N':List Str} {cap:List (Option Nat)} {pins:List (Addr×Obj)} {σ:St} {H:Hp} {s:Shared}
theorem eB.frees (B:eB X scope N' cap) (ok:X.Ok):∀y∈scope.names,y.2= .free->∃c,X.env.cells.lookup y.1=some c:=λy hy hf=>ok.has y.1 (B.free y hy hf)
theorem eB.up (B:eB X scope N' cap) (ok:X.Ok) {x:Str} {c:Addr} (h:(eD scope X.env).lookup x=some c):X.env.cells.lookup x=some c:=
 iF scope.names [] (B.frees ok) (λ_ z=>by simp at z) h
theorem eB.oC (B:eB X scope N' cap) {x:Str} (h:scope.names.lookup x=some .free):(x,NameKind.cell)∉scope.names:=λz=>by have:=B.nd _ z;rw[h] at this;cases this
theorem pE {xe:Value->Shared->Prop} (B:eB X scope N' cap) (I:Inv X pins σ H s) {fp:List Addr} {tk:Nat} (hf:∀b∈fp,fP X pins H b) (cJ:∀b∈fp,b < s.heap.objs.size):
  Inv (eJ X scope N' s.heap.objs.size s H fp xe) [] (cF cap σ) H {s with heap:=pushCells (s.heap.push {cls:= .type "dict",data:= .dict #[]}) scope.names,toks:=tk}:=by
 have ok:=I.ok;have hz:(s.heap.push {cls:= .type "dict",data:= .dict #[]}).objs.size=s.heap.objs.size + 1:=Qd ..;have hk:∀b o,s.heap.get? b=some o->(pushCells (s.heap.push {cls:= .type "dict",data:= .dict #[]}) scope.names).get? b=some o:=λb o e=>pushCells_keeps _ _ _ _ (Pu _ e)
 have pe:(pushCells (s.heap.push {cls:= .type "dict",data:= .dict #[]}) scope.names).Ns s.heap.objs.size λ_=>none:=(Heap.Ns.new s.heap (.type "dict")).keeps (pushCells_keeps _ _)
 have MX:∀x c,(eD scope X.env).lookup x=some c->c < s.heap.objs.size:=λx c h=>by obtain⟨v,z⟩:=I.cell x c (B.up ok h);exact z.lt
 have vk:∀x c,(cellsFrom (s.heap.objs.size + 1) scope.names (eD scope X.env)).lookup x=some c->(s.heap.objs.size + 1<=c/\(x,NameKind.cell)∈scope.names)\/X.env.cells.lookup x=some c:=λx c h=>(ff _ _ _ h).imp id (B.up ok)
 have pX:∀x,scope.names.lookup x=some .free->(compEnvC scope (cellsFrom (s.heap.objs.size + 1) scope.names (eD scope X.env)) s.heap.objs.size X.env).kindOf x=some .cell\/(compEnvC scope (cellsFrom (s.heap.objs.size + 1) scope.names (eD scope X.env)) s.heap.objs.size X.env).kindOf x=some .free:=λx hx=>by
  have q:=aV (env:=X.env) hx;by_cases hc:(NameKind.free==NameKind.free&&X.env.scope.kind== .function&&X.env.kindOf x==some .cell)=true
  ·rw[if_pos hc] at q;exact .inl q
  ·rw[if_neg hc] at q;exact .inr q
 refine⟨⟨ok.mod,?kind,ok.glob,ok.blt,PF _,?inj,?has,?yi,ok.hd,ok.frames,.inl rfl,?A6,I.bs,PP ok.u7 I.sz,?kG,?mq,I.stack,I.m9⟩,
  rfl,I.bare,Un.kept hk,⟨_,pe,?loc⟩,?cell,I.hok.fresh (PF _),?cm,?pin,I.hok.kept hk,?len⟩
 case kind=>exact B.kind
 case inj=>exact λx y c h1 h2=>pH _ _ _ (λx c h=>Nat.lt_succ_of_lt (MX x c h)) (λx y c h1 h2=>ok.inj x y c (B.up ok h1) (B.up ok h2)) h1 h2
 case has=>
  intro x hx;cases hl:scope.names.lookup x with
  | none=>
   have q:=bI (env:=X.env) hl;exact absurd hx (by
    have q':(compEnvC scope (cellsFrom (s.heap.objs.size + 1) scope.names (eD scope X.env)) s.heap.objs.size X.env).kindOf x=none:=q;show¬((compEnvC scope (cellsFrom (s.heap.objs.size + 1) scope.names (eD scope X.env)) s.heap.objs.size X.env).kindOf x=some .cell\/(compEnvC scope (cellsFrom (s.heap.objs.size + 1) scope.names (eD scope X.env)) s.heap.objs.size X.env).kindOf x=some .free);rw[q'];simp)
  | some k=>
   have q:(compEnvC scope (cellsFrom (s.heap.objs.size + 1) scope.names (eD scope X.env)) s.heap.objs.size X.env).kindOf x=some (if (k==NameKind.free&&X.env.scope.kind== .function&&X.env.kindOf x==some .cell) then NameKind.cell else k):=aV (env:=X.env) hl;have hm:=PySem.mem_of_lookup hl;by_cases zt:k= .free
   ·subst zt;obtain⟨c,Co⟩:=jx (env:=X.env) scope.names [] (.inl hm);exact⟨c,lY _ _ _ (B.oC hl) Co⟩
   ·have hb:(k==NameKind.free)=false:=by simpa using zt
    have wg:(compEnvC scope (cellsFrom (s.heap.objs.size + 1) scope.names (eD scope X.env)) s.heap.objs.size X.env).kindOf x=some .cell\/(compEnvC scope (cellsFrom (s.heap.objs.size + 1) scope.names (eD scope X.env)) s.heap.objs.size X.env).kindOf x=some .free:=hx;rw[q,hb] at wg;simp only[Bool.false_and,Bool.false_eq_true,if_false,Option.some.injEq] at wg;rcases wg with z | z
    ·subst z;exact Option.isSome_iff_exists.mp (PySem.W.cellsFrom_some scope.names _ _ (.inl hl))
    ·exact absurd z zt
 case yi=>
  intro x c vX h;have vX:(scope.names.lookup x==some .cell)=true:=vX;rcases ff _ _ _ h with ⟨h1,_⟩ | h1
  ·exact PP (Nat.le_succ _) h1
  ·exfalso;have e:=P6 vX;have:∀(l:List (Str×NameKind)) (cs:List (Str×Addr)),(∀c,cs.lookup x≠some c)->(∀y∈l,y.1=x->y.2≠ .free)->(lZ X.env l cs).lookup x=none:=by
    intro l
    induction l with
    | nil=>
     intro cs uy _;cases hq:cs.lookup x with
     | none=>exact hq
     | some c=>exact absurd hq (uy c)
    | cons y l ih=>
     intro cs uy hl;obtain⟨n,k⟩:=y;show (lZ X.env l (if (k==NameKind.free)=true then(n,(X.env.cells.lookup n).getD 0)::cs else cs)).lookup x=none;refine ih _ (λc=>?_) λy hy=>hl y (PC _ hy)
     by_cases hk:(k==NameKind.free)=true
     ·rw[if_pos hk,P9];have:(x==n)=false:=by
       cases hq:x==n with
       | false=>rfl
       | true=>
        have e1:x=n:=by simpa using hq
        have e2:k=NameKind.free:=by simpa using hk
        exact absurd e2 (hl (n,k) PH e1.symm)
      rw[this];exact uy c
     ·rw[if_neg hk];exact uy c
   have q:=this scope.names [] (λc z=>by simp at z) λy hy e1 e2=>by have:=B.nd y hy;rw[e1,e2,e] at this;cases this
   unfold eD at h1;rw[q] at h1;cases h1
 case A6=>
  intro b hb;refine⟨Qe (cJ b hb),λx c e=>?_⟩;rcases vk x c e with ⟨h1,_⟩ | h1
  ·intro z;subst z;exact absurd (P4 (cJ c hb) (PP (Nat.le_succ _) h1)) (Nat.lt_irrefl _)
  ·exact(hf b hb).2.2.2.2.1 x c h1
 case kG=>
  intro b o e hb;rcases (hf b hb).2.2.2.1 with z | z
  ·exact ok.kG b o e z
  ·exact absurd (P4 (PN (ok.bs b o e).1) z) (Nat.lt_irrefl _)
 case mq=>
  intro b hb hs;rcases PQ.mp (I.j9 b hs) with z | z
  ·exact(hf b hb).2.1 z
  ·exact(hf b hb).2.2.1 z
 case loc=>
  intro j x v h1 h2 h3;have hj:∃i,cap[j]?=some (some i)/\(σ[i]?).join=some v:=by
   unfold cF at h2;rw[P1] at h2;cases hc:cap[j]? with
   | none=>rw[hc] at h2;cases h2
   | some o=>
    rw[hc] at h2;cases o with
    | none=>cases h2
    | some i=>exact⟨i,rfl,by simpa using h2⟩
  obtain⟨i,hc,hv⟩:=hj;obtain⟨x',e1,e2,e3⟩:=B.td j i hc;have ex:x'=x:=by have Js:N'[j]?=some x:=h1;rw[Js] at e1;injection e1 with e1;exact e1.symm
  subst ex;have zA:σ[i]?=some (some v):=by
   cases q:σ[i]? with
   | none=>rw[q] at hv;cases hv
   | some o=>rw[q] at hv;cases o with
    | none=>cases hv
    | some z=>simp at hv;rw[hv]
  have Gb:=B.free _ (PySem.mem_of_lookup e3) rfl;obtain⟨m,hn,hl⟩:=I.loc;obtain⟨u,r,l⟩:=hl i x' v e2 zA (.inr Gb);refine⟨u,r,?_⟩;obtain⟨c,Co⟩:=jx (env:=X.env) scope.names [] (.inl (PySem.mem_of_lookup e3));have LV:=B.up ok Co;rcases l with ⟨k,_⟩ | ⟨k,c',e,z⟩
  ·exfalso;have k':X.env.scope.names.lookup x'=some .local:=k;rcases Gb with q | q
   ·rw[k'] at q;cases q
   ·rw[k'] at q;cases q
  ·have M3:c'=c:=by rw[e] at LV;injection LV
   subst M3;exact .inr ⟨pX x' e3,c',lY _ _ _ (B.oC e3) Co,by obtain⟨o,ho,hd⟩:=z;exact⟨o,hk _ _ ho,hd⟩⟩
 case cell=>intro x c e;refine jw scope.names (s.heap.push {cls:= .type "dict",data:= .dict #[]}) (eD scope X.env) (λa b fK=>?_) (by rw[hz];exact e);obtain⟨v,o,ho,hd⟩:=I.cell a b (B.up ok fK);exact⟨v,o,Pu _ ho,hd⟩
 case cm=>
  intro x c e;rcases vk x c e with ⟨h1,_⟩ | h1
  ·exact I.hok.fresh (PP (Nat.le_succ _) h1)
  ·exact I.cm x c h1
 case pin=>intro p hp;cases hp
 case len=>show (cF cap σ).length=N'.length;unfold cF;rw[PL];exact B.len
noncomputable def AO (X:Cx) (C:Addr) (x:Value) (s':Shared):Prop:=∃m,s'.heap.Ns C m/\∀h',Heap.SameBut C s'.heap h'->∀tf:Env,tf.locals=C->wpAny (model X.prog X.w) X.A (passOn "comprehension.variables-let-go" x tf:Sem Value) (λ_ _=>False) X.xe {s' with heap:=h'}
structure yJ (X:Cx) (scope:Scope) (N':List Str) (xb:Addr->Shared->Hp->List Addr->Value->Shared->Prop):Prop where
 note:∀(pins:List (Addr×Obj)) (σ:St) (C:Addr) (s s1:Shared) (H H1:Hp) (fp:List Addr) x s',Inv X pins σ H1 s1->(∀b∈fp,fP X pins H1 b)->s1.heap.objs.size < C->s={s1 with heap:=s1.heap.push {cls:= .type "list",data:= .seq ([]:List Value).toArray},toks:=s1.toks}->H=upd H1 s1.heap.objs.size (.lst [])->C=s.heap.objs.size->
  xb C s H fp x s'->notedBy (model X.prog X.w) X.A (eJ X scope N' C s H fp (xb C s H fp)).env (AO X C) x s'
variable {elt tg iter:Expr} {ifs:List Expr} {pos:Pos} {wi:TI} {g:TG} {tt:TT}
theorem kT {gens:List Comprehension} {xb:Addr->Shared->Hp->List Addr->Value->Shared->Prop} {pins:List (Addr×Obj)} {σ:St} {H2:Hp} {s2:Shared} {it:Addr} {fp:List Addr} {tn:Nat->Heap->Prop} {J:It} {F:Hp->Prop} {tb:Addr->TB} {body:Value->Env->Sem Unit} {p:Pos} {RR:Value->Addr->Result->Shared->Prop} (hc:X.calm=true) (B:eB X scope N' cap) (hX:yJ X scope N' xb)
  (heq:∀nB acc env,compTurn (.ListComp elt (⟨tg,iter,ifs,0⟩::gens) scope pos) 0 nB acc env=dz (.ListComp elt (⟨tg,iter,ifs,0⟩::gens) scope pos) 0 nB acc env tg ifs p (body acc env))
  (ko:GL (cF cap σ) g) (hg:∀C s H fp,PG (eJ X scope N' C s H fp (xb C s H fp)) tg g) (ht:∀C s H fp,AN (eJ X scope N' C s H fp (xb C s H fp)) ifs tt) (hb:∀C s H fp D,PB (eJ X scope N' C s H fp (xb C s H fp)) (body (.ref D) (eJ X scope N' C s H fp (xb C s H fp)).env) (tb D))
  (I2:Inv X pins σ H2 s2) (T:Turn X.prog X.w X.K tg J fp it tn) (de:tn 0 s2.heap) (f2:∀b∈fp,fP X pins H2 b) (hF:nG J g tt (tb s2.heap.objs.size) (cF cap σ) F (upd H2 s2.heap.objs.size (.lst [])))
  (Ny:∀C s' H' m,s2.heap.objs.size < C->Inv X pins σ H' s'->s'.heap.Ns C m->fP X pins H' C->F H'->RR (.ref s2.heap.objs.size) C (.ok .next) s') (LQ:∀C x s',AO X C x s'->RR (.ref s2.heap.objs.size) C (.error x) s') {E:Value->Shared->Prop}:
  wpAny (model X.prog X.w) X.A (newList []) (λacc s₃=>wpAny (model X.prog X.w) X.A (newFunctionEnv scope X.env.globals (eD scope X.env) [] X.env.qual none .none (some X.env)) (λtf s₄=>
   codeAny (model X.prog X.w) X.A (.compStart (.ListComp elt (⟨tg,iter,ifs,0⟩::gens) scope pos) 0 (.ref it) acc {tf with scope:=relabel scope X.env}) (RR acc tf.locals) s₄) E s₃) E s2:=by
 refine wpAny_newObj_type (o6 λh₁ hh₁=>?_);have I3:=I2.CW (ys:=[]) (its:=[]) (t':=s2.toks) .nil (Nat.zero_le _);dsimp only at hh₁ ⊢;have hC:(s2.heap.push {cls:= .type "list",data:= .seq ([]:List Value).toArray}).objs.size=s2.heap.objs.size + 1:=Qd ..;generalize hD:s2.heap.objs.size=D at *;have yo:∀b∈fp,b < D:=λb hb=>by obtain⟨o,e,_⟩:=T.obj 0 _ de b hb;rw[<-hD];exact PN e
 have f3:∀b∈fp,fP X pins (upd H2 D (.lst [])) b:=λb hb=>⟨by rw[aF (Qe (yo b hb))];exact(f2 b hb).1,(f2 b hb).2⟩
 generalize hs3:({s2 with heap:=s2.heap.push {cls:= .type "list",data:= .seq ([]:List Value).toArray},toks:=s2.toks}:Shared)=s3 at I3;have we:s3.heap=s2.heap.push {cls:= .type "list",data:= .seq ([]:List Value).toArray}:=by rw[<-hs3]
 have A8:s3.heap.objs.size=D + 1:=by rw[we];exact hC
 have IB:=pE (xe:=xb s3.heap.objs.size s3 (upd H2 D (.lst [])) fp) (tk:=s2.toks) B I3 f3 (λb hb=>by rw[A8];exact Nat.lt_succ_of_lt (yo b hb));have hk:∀b o,s3.heap.get? b=some o->(pushCells (s3.heap.push {cls:= .type "dict",data:= .dict #[]}) scope.names).get? b=some o:=λb o e=>pushCells_keeps _ _ _ _ (Pu _ e)
 rw[<-we] at hh₁;rw[<-hh₁] at IB hk;have e4:({s3 with heap:=h₁,toks:=s2.toks}:Shared)={s2 with heap:=h₁}:=by rw[<-hs3]
 rw[e4] at IB;rw[hC];have mY:∀{H':Hp},(∀b∈fp,H' b=none)->∀b∈fp,fP (eJ X scope N' s3.heap.objs.size s3 (upd H2 D (.lst [])) fp (xb s3.heap.objs.size s3 (upd H2 D (.lst [])) fp)) [] H' b:=λhn b hb=>
  ⟨hn b hb,by show b≠s3.heap.objs.size;rw[A8];exact Qe (Nat.lt_succ_of_lt (yo b hb)),λz=>(by
   rcases PQ.mp (I3.j9 b z) with q | q
   ·exact(f3 b hb).2.1 q
   ·exact(f3 b hb).2.2.1 q),.inl hb,(IB.ok.A6 b hb).2,λp hp=>absurd hp (by intro z;cases z)⟩
 have loop:∀s':Shared,s'={s2 with heap:=h₁}->codeAny (model X.prog X.w) X.A (.compLoop (.ListComp elt (⟨tg,iter,ifs,0⟩::gens) scope pos) 0 (.ref it) (.ref D) (eJ X scope N' s3.heap.objs.size s3 (upd H2 D (.lst [])) fp (xb s3.heap.objs.size s3 (upd H2 D (.lst [])) fp)).env)
   (RR (.ref D) (D + 1)) s':=by
  rintro s' rfl;refine kU (X:=eJ X scope N' s3.heap.objs.size s3 (upd H2 D (.lst [])) fp (xb s3.heap.objs.size s3 (upd H2 D (.lst [])) fp)) hc (heq _ _ _) (λx s' q=>?_) (hg _ _ _ _) ko (ht _ _ _ _) (hb _ _ _ _ D) IB T (T.keep _ _ _ de (λb hb o e=>hk b o (by rw[we];exact Pu _ e))) (mY λb hb=>(f3 b hb).1) hF λs5 H5 I5 qn=>?_
  ·have z:=hX.note pins σ s3.heap.objs.size s3 s2 (upd H2 D (.lst [])) H2 fp x s' I2 f2 (by rw[A8,hD];exact Nat.lt_succ_self _) hs3.symm (by rw[hD]) rfl q;rw[A8] at z;exact wpAny_mono z (λ_ s'' w=>LQ (D + 1) x s'' w) λy s'' w=>LQ (D + 1) y s'' w
  ·obtain⟨m5,F8,_⟩:=I5.loc;have un:Un (dY X.stack) fp H2 H5 s2.heap s5.heap:=by
    have u1:Un (dY X.stack) fp H2 (upd H2 D (.lst [])) s2.heap s3.heap:=by rw[we];exact Un.laid (λb u e=>Pu _ e) (by rw[hD];exact PF _) (by rw[<-hD];exact I2.fresh)
    exact u1.trans I5.base
   have hI:Inv X pins σ H5 s5:=I2.vc (ch:=fp) (I5.os.trans (by show s3.os=s2.os;rw[<-hs3])) un I5.hok I5.bare λb hb=>⟨(f2 b hb).2.2.2.1,(f2 b hb).2.1,(f2 b hb).2.2.2.2.1,(f2 b hb).2.2.2.2.2⟩
   have wc:s5.heap.Ns (D + 1) m5:=by have q:s5.heap.Ns s3.heap.objs.size m5:=F8;rw[A8] at q;exact q
   have Jz:H5 (D + 1)=none:=by have q:H5 s3.heap.objs.size=none:=I5.free;rw[A8] at q;exact q
   exact Ny (D + 1) s5 H5 m5 (Nat.lt_succ_self _) hI wc (I2.tD (by rw[hD];exact Nat.le_succ _) Jz) qn
 have Ju:({newEnv scope (D + 1) X.env.globals (cellsFrom (D + 1 + 1) scope.names (eD scope X.env)) X.env.qual none .none (some X.env) builtinsNs with scope:=relabel scope X.env}:Env)=(eJ X scope N' s3.heap.objs.size s3 (upd H2 D (.lst [])) fp (xb s3.heap.objs.size s3 (upd H2 D (.lst [])) fp)).env:=by unfold eJ;rw[A8];rfl
 have go:=codeAny_compStart_list (loop _ rfl) (T.self X.A 0 _ _ _ (T.keep _ _ _ de (λb hb o e=>hk b o (by rw[we];exact Pu _ e))) (loop _ rfl));rw[<-Ju] at go;exact go
end
noncomputable def ni (cap:List (Option Nat)) (wi:TI) (g:TG) (tt:TT) (tb:Addr->TB):TE:=λσ H Q=>wi σ H λJ H1=>∀D,H1 D=none->GL (cF cap σ) g/\nG J g tt (tb D) (cF cap σ) (λH'=>Q (.ref D) H') (upd H1 D (.lst []))
section
variable {X:Cx} {scope:Scope} {N':List Str} {cap:List (Option Nat)} {elt tg iter:Expr} {ifs:List Expr} {gens:List Comprehension} {pos p:Pos} {wi:TI} {g:TG} {tt:TT} {tb:Addr->TB} {body:Value->Env->Sem Unit} {xb:Addr->Shared->Hp->List Addr->Value->Shared->Prop}
theorem oF (hc:X.calm=true) (B:eB X scope N' cap) (hX:yJ X scope N' xb) (hi:PI X tg iter wi) (heq:∀nB acc env,compTurn (.ListComp elt (⟨tg,iter,ifs,0⟩::gens) scope pos) 0 nB acc env=dz (.ListComp elt (⟨tg,iter,ifs,0⟩::gens) scope pos) 0 nB acc env tg ifs p (body acc env))
  (hg:∀C s H fp,PG (eJ X scope N' C s H fp (xb C s H fp)) tg g) (ht:∀C s H fp,AN (eJ X scope N' C s H fp (xb C s H fp)) ifs tt) (hb:∀C s H fp D,PB (eJ X scope N' C s H fp (xb C s H fp)) (body (.ref D) (eJ X scope N' C s H fp (xb C s H fp)).env) (tb D))
  (hs:∀x,foldedSetIterable iter X.env x=pure x:=by intro _;rfl):PE X (.ListComp elt (⟨tg,iter,ifs,0⟩::gens) scope pos) (ni cap wi g tt tb):=by
 intro pins s σ H Q I h;rw[eval_ListComp];refine wpAny_comprehension_free (use:=none) rfl hs (fG (B.frees I.ok)) B.kind (λy hy e=>by rw[B.nd y hy,e]) (bH (hi pins s σ H _ I h) λx s₁ h₁=>bH h₁ λnB s₂ h₂=>?_);obtain⟨it,fp,tn,J,H2,e,I2,T,de,f2,hF⟩:=h₂;subst e;obtain⟨ko,hW⟩:=hF _ I2.fresh;refine kT (RR:=λacc C=>compPost (model X.prog X.w) X.A X.xe none (EP X pins σ Q) acc C) hc B hX heq ko hg ht hb I2 T de f2 hW (λC s' H' m hC I' hn fC q=>?_) λC x s' z=>z
 refine⟨m,hn,λh' hsb=>⟨.ref _,H',I'.turned (t':=s'.toks) (λb o hb e=>(hsb.2 b hb).trans e) fC.1 fC.2.1 fC.2.2.2.1 fC.2.2.2.2.1 fC.2.2.2.2.2,rfl,q⟩⟩
theorem iL {i:Nat} {x:Str} {pos' Hl:Pos} (hc:X.calm=true) (hN:X.N.Nodup) (EH:X.N[i]?=some x) (hx:X.env.kindOf x=some .local) (B:eB X scope N' cap) (hX:yJ X scope N' xb) (hi:PI X tg iter wi) (heq:∀nB acc env,compTurn (.ListComp elt (⟨tg,iter,ifs,0⟩::gens) scope pos) 0 nB acc env=dz (.ListComp elt (⟨tg,iter,ifs,0⟩::gens) scope pos) 0 nB acc env tg ifs p (body acc env))
  (hg:∀C s H fp,PG (eJ X scope N' C s H fp (xb C s H fp)) tg g) (ht:∀C s H fp,AN (eJ X scope N' C s H fp (xb C s H fp)) ifs tt) (hb:∀C s H fp D,PB (eJ X scope N' C s H fp (xb C s H fp)) (body (.ref D) (eJ X scope N' C s H fp (xb C s H fp)).env) (tb D))
  (hs:∀x,foldedSetIterable iter X.env x=pure x:=by intro _;rfl)
  (CG:swapsWith (.ListComp elt (⟨tg,iter,ifs,0⟩::gens) scope pos) (some (.Name x pos')) Hl.line X.env=pure true:=by rfl):
  PS X (.Assign [.Name x pos'] (.ListComp elt (⟨tg,iter,ifs,0⟩::gens) scope pos) Hl) (nh (ni cap wi g tt tb) (dM i)):=by
 intro pins s σ H D I h;rw[exec_Assign_Name_used _ _ _ _ CG];refine Pr (wpAny_standAt (Pr ?_));show wpAny _ X.A (do let _<-comprehension (.ListComp elt (⟨tg,iter,ifs,0⟩::gens) scope pos) scope X.env _ (newList []) false (eval iter X.env) (some (assign (.Name x pos') X.env))) _ _ s;refine Pr (wpAny_mono (wpAny_comprehension_free (use:=some (assign (.Name x pos') X.env)) (Q:=λ_ s'=>SP X pins D .next s') rfl hs (fG (B.frees I.ok)) B.kind (λy hy e=>by rw[B.nd y hy,e]) (bH (hi pins s σ H _ I h) λx s₁ h₁=>bH h₁ λnB s₂ h₂=>?_))
  (λ_ s' hq=>Pv (Pv hq)) λ_ _ e=>e)
 obtain⟨it,fp,tn,J,H2,e,I2,T,de,f2,hF⟩:=h₂;subst e;obtain⟨ko,hW⟩:=hF _ I2.fresh;refine kT (RR:=λacc C=>compPost (model X.prog X.w) X.A X.xe (some (assign (.Name _ pos') X.env)) (λ_ s'=>SP X pins D .next s') acc C) hc B hX heq ko hg ht hb I2 T de f2 hW (λC s' H' m hC I' hn fC q=>?_) λC x s' z=>z
 show wpAny _ X.A (assign (.Name _ pos') X.env (.ref _)) _ _ _;refine wpAny_assign_Name (lD (v:= .ref _) I' hN EH (.inl hx) rfl (λs3 I3 hsb=>?_) (.inr hx));obtain⟨a,sb,ha⟩:=hsb;have Nh:C≠a:=by
  rcases ha with rfl | ha
  ·exact fC.2.1
  ·exact Ne.symm (fC.2.2.2.2.1 _ a ha)
 refine⟨m,hn.sameBut sb Nh,λh' hsb'=>?_⟩;exact⟨_,H',I3.turned (t':=s3.toks) (λb o hb e=>(hsb'.2 b hb).trans e) fC.1 fC.2.1 fC.2.2.2.1 fC.2.2.2.2.1 fC.2.2.2.2.2,q⟩
end
end L2
end
section
namespace Mx
open PySem
structure Dd (s s':Heap):Prop where
 sz:s.objs.size<=s'.objs.size
 none:∀b,b < s.objs.size->s.get? b=none->s'.get? b=none
theorem Dd.refl (h:Heap):Dd h h:=⟨PF _,λ_ _ z=>z⟩
theorem Dd.trans {a b c:Heap} (x:Dd a b) (y:Dd b c):Dd a c:=⟨PP x.sz y.sz,λk hk z=>y.none k (P4 hk x.sz) (x.none k hk z)⟩
theorem Dd.push (h:Heap) (o:Obj):Dd h (h.push o):=⟨by rw[Qd];exact Nat.le_succ _,λb hb z=>by
 cases hq:(h.push o).get? b with
 | none=>rfl
 | some o'=>
  obtain⟨q1,q2⟩:=Heap.get?_some_iff.mp hq;have q3:h.objs[b]?=some o':=by have e:(h.objs.push o)[b]?=some o':=q1;rw[Array.getElem?_push,if_neg (Qe hb)] at e;exact e
  rw[Heap.get?_some_iff.mpr ⟨q3,q2⟩] at z;cases z⟩
theorem Dd.update (h:Heap) (a:Addr) (f:Obj->Obj) (ha:(h.get? a).isSome):Dd h (h.update a f):=⟨by rw[Heap.size_after_update];exact PF _,λb hb z=>by
 by_cases e:a=b
 ·subst e;rw[z] at ha;cases ha
 ·rw[Qb _ _ e];exact z⟩
theorem mU {M:Model} {Γ:Ctx} {p:Pos} {t:Sem PySem.Fin} {fs:List Frame} {s s':Shared} {e:End} (h:Runs M Γ p t fs s e s'):Dd s.heap s'.heap:=by
 induction h with
 | update ha _ ih=>exact(Dd.update _ _ _ ha).trans ih
 | alloc _ ih=>exact(Dd.push _ _).trans ih
 | done=>exact Dd.refl _
 | raise=>exact Dd.refl _
 | yield=>exact Dd.refl _
 | call _ _ ih1 ih2=>exact ih1.trans ih2
 | resumeFresh _ _ _ _ ih1 ih2=>exact Dd.trans (b:=_) ih1 ih2
 | resumeSuspended _ _ _ _ ih1 ih2=>exact Dd.trans (b:=_) ih1 ih2
 | segRet _ _ ih1 ih2=>exact ih1.trans ih2
 | segGen _ _ ih1 ih2=>exact Dd.trans (b:=_) ih1 ih2
 | segSuspGen _ _ _ _ ih1 ih2=>exact Dd.trans (b:=_) ih1 ih2
 | _=>assumption
theorem xW {M:Model} {Γ:Ctx} {p:Pos} {g:Nat} {r:Resume} {s s':Shared} {res:GenResult} (h:Wakes M Γ p g r s res s'):Dd s.heap s'.heap:=by
 unfold Wakes at h;split at h
 ·exact h.elim
 ·split at h
  ·obtain⟨e₁,s₁,hr,_,_,rfl⟩:=h;exact(mU hr:Dd (s.setGen g .running).heap s₁.heap)
  ·rw[h.2];exact Dd.refl _
  ·rw[h.2];exact Dd.refl _
 ·obtain⟨e₁,s₁,hr,_,_,rfl⟩:=h;exact(mU hr:Dd (s.setGen g .running).heap s₁.heap)
 ·rw[h.2];exact Dd.refl _
 ·rw[h.2];exact Dd.refl _
theorem HE {α:Type} (M:Model) (Γ:Ctx) (h0:Heap) (t:Sem α):∀(Q:α->Pos->Shared->Prop) (E:Value->Pos->Shared->Prop) (p:Pos) (s:Shared),Dd h0 s.heap->Sem.wp M Γ t Q E p s->
  Sem.wp M Γ t (λa p' s'=>Dd h0 s'.heap/\Q a p' s') (λe p' s'=>Dd h0 s'.heap/\E e p' s') p s:=by
 induction t with
 | pure a=>intro Q E p s hn h;exact⟨hn,h⟩
 | raise e=>intro Q E p s hn h;exact⟨hn,h⟩
 | unsupported _=>intro Q E p s _ h;exact h
 | finish _=>intro Q E p s _ h;exact h
 | rule _ k ih=>intro Q E p s hn h;exact ih () Q E p s hn h
 | «at» p' k ih=>intro Q E p s hn h;exact ih () Q E p' s hn h
 | load a _ k ih=>intro Q E p s hn h;obtain⟨o,ho,h⟩:=h;exact⟨o,ho,ih o Q E p s hn h⟩
 | update a _ f k ih=>intro Q E p s hn h;exact⟨h.1,ih () Q E p _ (hn.trans (Dd.update _ _ _ h.1)) h.2⟩
 | loadIfAlive a k ih=>intro Q E p s hn h;exact ih _ Q E p s hn h
 | point _ k ih=>intro Q E p s hn h;exact ih () Q E p s hn h
 | register _ _=>intro Q E p s _ h;exact h
 | alloc o k ih=>intro Q E p s hn h;exact ih _ Q E p _ (hn.trans (Dd.push _ _)) h
 | fresh k ih=>intro Q E p s hn h;exact ih _ Q E p _ hn h
 | ask k ih=>intro Q E p s hn h;exact ih _ Q E p s hn h
 | choose src m k ih=>intro Q E p s hn h;exact⟨h.1,ih _ Q E p _ hn h.2⟩
 | os q _ k ih=>intro Q E p s hn h;exact ih _ Q E p _ hn h
 | call c hd _ _ k ih=>intro Q E p s hn h;obtain⟨r,s',hr,h⟩:=h;exact⟨r,s',hr,ih r Q E p s' (hn.trans (mU hr)) h⟩
 | handled own k ih=>intro Q E p s hn h;exact ih _ Q E p s hn h
 | genState g k ih=>intro Q E p s hn h;obtain⟨st,hs,h⟩:=h;exact⟨st,hs,ih _ Q E p s hn h⟩
 | newGen c k ih=>intro Q E p s hn h;exact ih _ Q E p _ hn h
 | resume g r _ k ih=>intro Q E p s hn h;obtain⟨res,s',hw,h⟩:=h;exact⟨res,s',hw,ih res Q E p s' (hn.trans (xW hw)) h⟩
 | yield _ _ _ _=>intro Q E p s _ h;exact h
 | stack k ih=>intro Q E p s hn h;exact ih _ Q E p s hn h
 | fork _ _=>intro Q E p s _ h;exact h
 | thread k ih=>intro Q E p s hn h;exact ih _ Q E p s hn h
 | await _ _ _ _ _=>intro Q E p s _ h;exact h
theorem kL {α:Type} {M:Model} {A:Around} {s:Shared} {t:Sem α} {Q:α->Shared->Prop} {E:Value->Shared->Prop} (h:wpAny M A t (λa s'=>Dd s.heap s'.heap->Q a s') (λe s'=>Dd s.heap s'.heap->E e s') s):wpAny M A t Q E s:=
 have q:wpAny M A t (λa s'=>Dd s.heap s'.heap/\(Dd s.heap s'.heap->Q a s')) (λe s'=>Dd s.heap s'.heap/\(Dd s.heap s'.heap->E e s')) s:=λΓ p hΓ=>HE M Γ s.heap t _ _ p s (Dd.refl _) (h Γ p hΓ)
 wpAny_mono q (λ_ _ x=>x.2 x.1) (λ_ _ x=>x.2 x.1)
end Mx
end
section
namespace L2
open PySem PySem.Spec PyProof.Rows
theorem jz (o:Obj) (f:Array Value->Array Value):(o.mapFields f).dict=o.dict:=by obtain⟨c,d,dt,sl⟩:=o;cases dt <;> rfl
noncomputable def cN (h:Heap) (a T:Addr):Prop:=∃o vs,h.get? a=some o/\o.data= .fields vs/\vs[1]?=some (.ref T)
structure gj (N:Nat) (cls:Value) (a:Addr) (H:Hp) (h:Heap):Prop where
 ge:N<=a
 nH:H a=none
 obj:∃o vs,h.get? a=some o/\(o.cls=cls/\o.dict=none)/\o.data= .fields vs/\(vs[1]?=some .none\/∃T,vs[1]?=some (.ref T))
 tb:∀T,cN h a T->N<=T/\H T=none/\T≠a/\∃oT ts,h.get? T=some oT/\oT.data= .fields ts/\3 < ts.size
structure pq (fs:List Addr) (a:Addr) (h h':Heap):Prop where
 keep:∀b o,h.get? b=some o->b≠a->¬cN h a b->b∉fs->h'.get? b=some o
 slot:∀b o,h.get? b=some o->b≠a->¬cN h a b->∃sl,h'.get? b=some {o with slots:=sl}
 there:∀b o,h.get? b=some o->∃o',h'.get? b=some o'
 tb:∀T,cN h' a T->cN h a T\/h.get? T=none
theorem pq.trans {fs:List Addr} {a:Addr} {h h1 h2:Heap} (x:pq fs a h h1) (y:pq fs a h1 h2):pq fs a h h2 where
 keep:=λb o e n nt nf=>by
  have e1:=x.keep b o e n nt nf;exact y.keep b o e1 n (λz=>by
   rcases x.tb b z with q | q
   ·exact nt q
   ·rw[e] at q;cases q) nf
 slot:=λb o e n nt=>by
  obtain⟨sl,e1⟩:=x.slot b o e n nt;obtain⟨uB,e2⟩:=y.slot b _ e1 n (λz=>by
   rcases x.tb b z with q | q
   ·exact nt q
   ·rw[e] at q;cases q)
  exact⟨uB,e2⟩
 there:=λb o e=>by obtain⟨o1,e1⟩:=x.there b o e;exact y.there b o1 e1
 tb:=λT z=>by
  rcases y.tb T z with q | q
  ·exact x.tb T q
  ·right;cases hq:h.get? T with
   | none=>rfl
   | some o=>obtain⟨o',e'⟩:=x.there T o hq;rw[e'] at q;cases q
theorem pq.refl {fs:List Addr} {a:Addr} {h:Heap}:pq fs a h h:=⟨λ_ _ e _ _ _=>e,λ_ o e _ _=>⟨o.slots,e⟩,λ_ o e=>⟨o,e⟩,λ_ z=> .inl z⟩
section
variable {M:Model} {A:Around} {E:Value->Shared->Prop} {s:Shared} {N:Nat} {cls:Value} {a:Addr} {H:Hp} {base:Heap} {env eR:Env} {outer:List Env} {L:Addr}
theorem iU (e:Value) (h:env.frame=eR.frame):noteFrame e env=noteFrame e eR:=by unfold noteFrame PySem.frameOf;rw[h]
theorem nT (tL:A.frames=some (env::outer)) (hl:s.heap.FunFrames base (env::outer)) (hf:env.frame=some L) (F:gj N cls a H s.heap) (fresh:∀b,s.heap.objs.size<=b->H b=none) {head:Value} {zm:Bool} {Q:Unit->Shared->Prop}
  (q:∀h',pq (dY (env::outer)) a s.heap h'->gj N cls a H h'->(∃T,cN h' a T)->Q () {s with heap:=h'}):
  wpAny M A (do let x<-frameOf env;let pl<-entryPlaceOf L zm;let b<-EntryCells.newEntry head x .none (rawInt L) .none pl;setField (.ref a) 1 b) Q E s:=by
 obtain⟨oe,vs,he,n8,hd,h1⟩:=F.obj;have fU:1 < vs.size:=by rcases h1 with h1 | ⟨T,h1⟩ <;> exact(Array.getElem?_eq_some_iff.mp h1).1
 have JX:a∉dY (env::outer):=λhm=>by obtain⟨_,o,ho,Iw⟩:=hl.mem hm;rw[he] at ho;injection ho with ho;subst ho;exact Iw vs hd
 refine Pr (wpAny_frameOf_fun tL hl hf λh₁ hs₁=>?_);refine Pr (wpAny_entryPlaceOf λpl k7=>?_);unfold EntryCells.newEntry newFields;refine Pr (wpAny_newObj_type ?_ (k7.sizeOk5 _ _ _ _ _));have he₁:h₁.get? a=some oe:=(hs₁.2.1 a JX).trans he;generalize hT:({cls:= .type "traceback",dict:=none,data:= .fields ([head,.ref L,.none,rawInt L,.none]++(if pl.isEmpty then List.replicate 6 Value.none else pl)).toArray}:Obj)=oT;have NB:oT.data= .fields ([head,.ref L,.none,rawInt L,.none]++(if pl.isEmpty then List.replicate 6 Value.none else pl)).toArray:=by rw[<-hT]
 have NC:oT.isFreed=false:=by rw[<-hT];rfl
 have he₂:=Pu (h:=h₁) oT he₁;refine wpAny_setField he₂ hd fU (q _ ?_ ?_ ?_)
 all_goals
  have hz:h₁.objs.size=s.heap.objs.size:=hs₁.1;have LR:h₁.objs.size≠a:=Nat.ne_of_gt (PN he₁);have hd₃:=Obj.data_mapFields hd (·.setIfInBounds 1 (Value.ref h₁.objs.size));have he₃:=Heap.get?_update_self (Obj.mapFields (·.setIfInBounds 1 (Value.ref h₁.objs.size))) he₂ (Obj.isFreed_of_fields hd₃);have hT₃:=(Qb (h₁.push oT) (Obj.mapFields (·.setIfInBounds 1 (Value.ref h₁.objs.size))) (Ne.symm LR)).trans (PJ h₁ NC);have kp:∀b o,b≠a->h₁.get? b=some o->((h₁.push oT).update a (Obj.mapFields (·.setIfInBounds 1 (Value.ref h₁.objs.size)))).get? b=some o:=λb o hb e=>
   (Qb _ _ (Ne.symm hb)).trans (Pu _ e)
  have MD:∀T,cN ((h₁.push oT).update a (Obj.mapFields (·.setIfInBounds 1 (Value.ref h₁.objs.size)))) a T->T=h₁.objs.size:=λT ⟨o,ws,z1,z2,z3⟩=>by rw[he₃] at z1;cases z1;rw[hd₃] at z2;cases z2;simp[fU] at z3;exact z3.symm
 ·refine⟨λb o e n nt nf=>kp b o n ((hs₁.2.1 b nf).trans e),λb o e n nt=>?_,λb o e=>?_,λT z=> .inr ?_⟩
  ·obtain⟨sl,e1⟩:=hs₁.2.2 b o e;exact⟨sl,kp b _ n e1⟩
  ·by_cases hb:b=a
   ·subst hb;exact⟨_,he₃⟩
   ·obtain⟨sl,e1⟩:=hs₁.2.2 b o e;exact⟨_,kp b _ hb e1⟩
  ·rw[MD T z,hz];exact Heap.get?_none_of_le (PF _)
 ·refine⟨F.ge,F.nH,⟨_,_,he₃,⟨(Obj.cls_mapFields _ _).trans n8.1,(jz _ _).trans n8.2⟩,hd₃,.inr ⟨h₁.objs.size,by simp[fU]⟩⟩,λT z=>?_⟩;have e:=MD T z;subst e;refine⟨?_,fresh _ (by rw[hz];exact PF _),LR,oT,_,hT₃,NB,by simp⟩;rw[hz];exact PP F.ge (Nat.le_of_lt (PN he))
 ·exact⟨h₁.objs.size,_,_,he₃,hd₃,by simp[fU]⟩
theorem vG (tL:A.frames=some (env::outer)) (hl:s.heap.FunFrames base (env::outer)) (hf:env.frame=some L) (F:gj N cls a H s.heap) (fresh:∀b,s.heap.objs.size<=b->H b=none) {Q:Unit->Shared->Prop}
  (q:∀h',pq (dY (env::outer)) a s.heap h'->gj N cls a H h'->(∃T,cN h' a T)->Q () {s with heap:=h'}):wpAny M A (noteFrame (.ref a) env) Q E s:=by
 obtain⟨oe,vs,he,n8,hd,h1⟩:=id F.obj;unfold noteFrame;simp only[hf];rcases h1 with h1 | ⟨T,h1⟩
 ·refine Pr (wpAny_field he hd h1 ?_);rw[if_neg (by decide)];exact nT tL hl hf F fresh q
 ·have pQ:cN s.heap a T:=⟨oe,vs,he,hd,h1⟩;obtain⟨t1,t2,t3,oT,ts,hT,vW,h3⟩:=F.tb T pQ;refine Pr (wpAny_field he hd h1 ?_);rw[if_pos (show (Value.ref T != Value.none)=true from by simp)];refine Pr (wpAny_field hT vW (x:=ts[3]) (by simp[h3]) ?_);split
  ·have e:s={s with heap:=s.heap}:=by cases s;rfl
   rw[e];exact Pv (q s.heap pq.refl F ⟨T,pQ⟩)
  ·refine Pr (wpAny_setField hT vW h3 ?_);have other:∀b,b≠T->(s.heap.update T (Obj.mapFields (·.setIfInBounds 3 Value.none))).get? b=s.heap.get? b:=λb hb=>Qb _ _ (Ne.symm hb)
   have FI:=Heap.get?_update_self (Obj.mapFields (·.setIfInBounds 3 Value.none)) hT (Obj.isFreed_of_fields (Obj.data_mapFields vW _));have HB:∀T',cN (s.heap.update T (Obj.mapFields (·.setIfInBounds 3 Value.none))) a T'->T'=T:=λT' ⟨o,ws,z1,z2,z3⟩=>by rw[other a (Ne.symm t3),he] at z1;cases z1;rw[hd] at z2;cases z2;rw[h1] at z3;cases z3;rfl
   have F':gj N cls a H (s.heap.update T (Obj.mapFields (·.setIfInBounds 3 Value.none))):=by refine⟨F.ge,F.nH,⟨oe,vs,(other a (Ne.symm t3)).trans he,n8,hd,.inr ⟨T,h1⟩⟩,λT' z=>?_⟩;rw[HB T' z];exact⟨t1,t2,t3,_,_,FI,Obj.data_mapFields vW _,by simpa using h3⟩
   have Cq:(s.heap.update T (Obj.mapFields (·.setIfInBounds 3 Value.none))).FunFrames base (env::outer):=hl.of_keeps λb o hb Iw=>⟨o,(other b λz=>by
    subst z;rw[hT] at hb;cases hb;exact Iw ts vW).trans hb,rfl⟩
   refine nT (s:={s with heap:=s.heap.update T (Obj.mapFields (·.setIfInBounds 3 Value.none))}) tL Cq hf F' (λb hb=>fresh b (by
    have:(s.heap.update T (Obj.mapFields (·.setIfInBounds 3 Value.none))).objs.size=s.heap.objs.size:=Heap.size_after_update ..;rw[this] at hb;exact hb)) λh' x f t=>q h' (pq.trans ⟨λb o e n nt nf=>(other b λz=>nt (z▸pQ)).trans e,λb o e n nt=>⟨o.slots,(other b λz=>nt (z▸pQ)).trans e⟩,λb o e=>?_,λT' z=> .inl (by rw[HB T' z];exact pQ)⟩ x) f t
   by_cases hb:b=T
   ·subst hb;exact⟨_,FI⟩
   ·exact⟨o,(other b hb).trans e⟩
theorem qZ (tL:A.frames=some (eR::outer)) (hl:s.heap.FunFrames base (eR::outer)) (NN:eR.frame=some L) (hf:env.frame=eR.frame) (F:gj N cls a H s.heap) (fresh:∀b,s.heap.objs.size<=b->H b=none) {Q:Unit->Shared->Prop}
  (q:∀h',pq (dY (eR::outer)) a s.heap h'->gj N cls a H h'->(∃T,cN h' a T)->Q () {s with heap:=h'}):wpAny M A (noteFrame (.ref a) env) Q E s:=by
 rw[iU _ hf];exact vG tL hl NN F fresh q
theorem dG {fs:List Addr} {fl:Option Addr} (F:gj N cls a H s.heap) (ht:∃T,cN s.heap a T) {Q:Unit->Shared->Prop} (q:∀h',pq fs a s.heap h'->gj N cls a H h'->(∃T,cN h' a T)->Q () {s with heap:=h'}):wpAny M A (setFlight (.ref a) fl) Q E s:=by
 obtain⟨T,pQ⟩:=ht;obtain⟨t1,t2,t3,oT,ts,hT,vW,h3⟩:=F.tb T pQ;obtain⟨oe,vs,he,hd,h1⟩:=id pQ;obtain⟨Pp,uD,LW,n8,kE,_⟩:=id F.obj;rw[he] at LW;cases LW;unfold setFlight;refine Pr (wpAny_field he hd h1 ?_);rw[if_pos (show (Value.ref T != Value.none)=true from by simp)];refine wpAny_setField hT vW h3 ?_;generalize hx:(fl.elim Value.none λf=>rawInt f)=x;have other:∀b,b≠T->(s.heap.update T (Obj.mapFields (·.setIfInBounds 3 x))).get? b=s.heap.get? b:=λb hb=>Qb _ _ (Ne.symm hb)
 have FI:=Heap.get?_update_self (Obj.mapFields (·.setIfInBounds 3 x)) hT (Obj.isFreed_of_fields (Obj.data_mapFields vW _));have HB:∀T',cN (s.heap.update T (Obj.mapFields (·.setIfInBounds 3 x))) a T'->T'=T:=λT' ⟨o,ws,z1,z2,z3⟩=>by rw[other a (Ne.symm t3),he] at z1;cases z1;rw[hd] at z2;cases z2;rw[h1] at z3;cases z3;rfl
 refine q _ ⟨λb o e n nt nf=>(other b λz=>nt (z▸pQ)).trans e,λb o e n nt=>⟨o.slots,(other b λz=>nt (z▸pQ)).trans e⟩,λb o e=>?_,λT' z=> .inl (by rw[HB T' z];exact pQ)⟩ ⟨F.ge,F.nH,⟨oe,vs,(other a (Ne.symm t3)).trans he,n8,hd,.inr ⟨T,h1⟩⟩,λT' z=>?_⟩ ⟨T,oe,vs,(other a (Ne.symm t3)).trans he,hd,h1⟩
 ·by_cases hb:b=T
  ·subst hb;exact⟨_,FI⟩
  ·exact⟨o,(other b hb).trans e⟩
 ·rw[HB T' z];exact⟨t1,t2,t3,_,_,FI,Obj.data_mapFields vW _,by simpa using h3⟩
theorem zi {fs:List Addr} {Lw:String} {α:Type} (F:gj N cls a H s.heap) (ht:∃T,cN s.heap a T) {Q:α->Shared->Prop} (q:∀h',pq fs a s.heap h'->gj N cls a H h'->(∃T,cN h' a T)->E (.ref a) {s with heap:=h'}):wpAny M A (passOn Lw (.ref a) env:Sem α) Q E s:=by obtain⟨T,pQ⟩:=id ht;obtain⟨oe,vs,he,hd,h1⟩:=pQ;unfold PySem.passOn;refine Pr (wpAny_field he hd h1 ?_);rw[if_neg (show¬((Value.ref T==Value.none)=true) from by simp)];exact Pr (dG F ht λh' x f t=>wpAny_throw (q h' x f t))
theorem zh {fs:List Addr} (F:gj N cls a H s.heap) (ht:∃T,cN s.heap a T) (q:∀h',pq fs a s.heap h'->gj N cls a H h'->(∃T,cN h' a T)->E (.ref a) {s with heap:=h'}):cameBackBy M A env E (.ref a) s:=by obtain⟨T,pQ⟩:=id ht;obtain⟨oe,vs,he,hd,h1⟩:=pQ;unfold cameBackBy;refine Pr (wpAny_field he hd h1 ?_);rw[if_neg (show¬((Value.ref T==Value.none)=true) from by simp)];exact dG F ht λh' x f t=>q h' x f t
end
section
variable {X:Cx} {σ:St} {H:Hp} {s:Shared} {cls:Value} {a:Addr}
theorem Inv.Es {h':Heap} (Bb:X.pn=[]) (I:Inv X [] σ H s) (F:gj X.s₀.heap.objs.size cls a H s.heap) (x:pq (dY X.stack) a s.heap h'):Inv X [] σ H {s with heap:=h'}:=by
 obtain⟨oa,va,ha,Pd,NL,Po⟩:=F.obj;have Lq:∀b,cN s.heap a b->X.s₀.heap.objs.size<=b/\H b=none/\b≠a/\∃oT ts,s.heap.get? b=some oT/\oT.data= .fields ts/\3 < ts.size:=F.tb;have LD:∀b o,s.heap.get? b=some o->(∀vs,o.data≠ .fields vs)->b≠a/\¬cN s.heap a b:=λb o e nf=>by
  refine⟨λz=>?_,λz=>?_⟩
  ·subst z;rw[ha] at e;cases e;exact nf va NL
  ·obtain⟨_,_,_,oT,ts,hT,vW,_⟩:=Lq b z;rw[hT] at e;cases e;exact nf ts vW
 have old:∀b o,X.s₀.heap.get? b=some o->b≠a/\¬cN s.heap a b:=λb o e=>by
  refine⟨λz=>?_,λz=>?_⟩
  ·subst z;exact absurd (P4 (PN e) F.ge) (Nat.lt_irrefl _)
  ·exact absurd (P4 (PN e) (Lq b z).1) (Nat.lt_irrefl _)
 have ID:∀b o,X.s₀.heap.get? b=some o->b≠X.env.locals:=λb o e=>Qe (P4 (PN e) I.ok.above)
 have AA:∀b o,X.s₀.heap.get? b=some o->b∈dY X.stack->b∈X.fs:=λb o e z=>by
  rcases PQ.mp (I.j9 b z) with q | q
  ·exact absurd q (ID b o e)
  ·exact q
 have D9:∀c u,H c=some u->∀v,s.heap.get? c=some v->h'.get? c=some v:=λc u hc v e=>by
  refine x.keep c v e (λz=>by subst z;rw[F.nH] at hc;cases hc) (λz=>by rw[(Lq c z).2.1] at hc;cases hc) λz=>?_
  rw[I.m9 c z] at hc;cases hc
 have cellK:∀y c,X.env.cells.lookup y=some c->∀v,s.heap.IsCell c v->h'.IsCell c v:=λy c e v ⟨o,ho,hd⟩=>by
  obtain⟨n1,n2⟩:=LD c o ho λvs q=>by rw[hd] at q;cases q
  obtain⟨sl,q⟩:=x.slot c o ho n1 n2;exact⟨_,q,hd⟩
 refine⟨I.ok,I.os,I.bare,⟨λb o e n hb hx=>?_,λb o e n hb hx=>?_,I.base.free,λb o e hx=>?_,I.base.tups,I.base.frzs,I.base.tbls⟩,?_,λy c e=>?_,I.free,I.cm,λp hp=>?_,?_,I.len⟩
 ·exact x.keep b o (I.base.keep b o e n hb hx) (old b o e).1 (old b o e).2 λz=>hb (AA b o e z)
 ·obtain⟨sl,e1⟩:=I.base.slot b o e n hb hx;obtain⟨Hh,e2⟩:=x.slot b _ e1 (old b o e).1 (old b o e).2;exact⟨Hh,e2⟩
 ·obtain⟨o',e1⟩:=I.base.there b o e hx;exact x.there b o' e1
 ·obtain⟨m,⟨o,es,ep,ho,hd,r⟩,hl⟩:=I.loc;obtain⟨n1,n2⟩:=LD _ o ho λvs q=>by rw[hd] at q;cases q
  obtain⟨sl,q⟩:=x.slot _ o ho n1 n2;refine⟨m,⟨_,es,ep,q,hd,r⟩,λi y v e1 e2 e3=>?_⟩;obtain⟨u,rr,l⟩:=hl i y v e1 e2 e3;refine⟨u,rr,?_⟩;rcases l with l | ⟨k,c,e,z⟩
  ·exact .inl l
  ·exact .inr ⟨k,c,e,cellK y c e _ z⟩
 ·obtain⟨v,z⟩:=I.cell y c e;exact⟨v,cellK y c e v z⟩
 ·rw[Bb] at hp;cases hp
 ·intro b u e;refine(I.hok b u e).mZ (λc v hc q=>?_) (λ_ q=>q) λ_ _ q=>q
  rcases hc with rfl | hc
  ·exact D9 c u e v q
  ·exact D9 c _ hc v q
end
noncomputable def gV (X:Cx) (E:XK) (e:Value) (s':Shared):Prop:=∃σ H' a cls,e= .ref a/\Inv X [] σ H' s'/\gj X.s₀.heap.objs.size cls a H' s'.heap/\E cls none H'
noncomputable def ny (P:Program) (w:World):iX:=λouter H s E e s'=>∃H' a cls,e= .ref a/\s'.os=s.os/\AllBare s'.gens/\Un (dY outer) [] H H' s.heap s'.heap/\d4 P w H' s'.heap/\gj s.heap.objs.size cls a H' s'.heap/\E cls none H'
structure dC (X:Cx):Prop where
 pn:X.pn=[]
 st:∃eR jX L,X.stack=eR::jX/\eR.frame=some L/\X.env.frame=eR.frame
section
variable {X:Cx} {E:XK}
theorem xG {CX:iX} {P:Program} {w:World} {K:PySem.W.Frag} {mg:Str->Option Value} {base:Heap} {N:List Str} {qual:Str} {scope:Scope} {f:Addr} {cd:Value} {A:Around} {outer:List Env} {s:Shared} {H:Hp}:dC (jy CX P w K mg base N qual scope f cd A outer s H E):=
 ⟨rfl,_,_,_,rfl,rfl,rfl⟩
theorem ng {scope:Scope} {N':List Str} {C:Addr} {s:Shared} {H:Hp} {fp:List Addr} {xe:Value->Shared->Prop} (st:dC X):dC (eJ X scope N' C s H fp xe):=by obtain⟨hp,eR,jX,L,h1,h2,h3⟩:=st;exact⟨rfl,eR,jX,L,h1,h2,h3⟩
theorem gj.down {N N':Nat} {cls:Value} {a:Addr} {H:Hp} {h:Heap} (F:gj N cls a H h) (hn:N'<=N):gj N' cls a H h:=⟨PP hn F.ge,F.nH,F.obj,λT z=>⟨PP hn (F.tb T z).1,(F.tb T z).2⟩⟩
theorem x8 {pins:List (Addr×Obj)} {σ:St} {H:Hp} {s s':Shared} {e:Value} (I:Inv X pins σ H s) (Bb:X.pn=[]) (c:ny X.prog X.w X.stack H s E e s'):gV X E e s':=by
 obtain⟨H',a,cls,e1,h1,h2,h3,h4,h5,h6⟩:=c;have I1:Inv X pins σ H' s':=I.vc (ch:=[]) h1 h3 h4 h2 λb z=>by cases z
 refine⟨σ,H',a,cls,e1,I1.fq (λp hp=>by cases hp),h5.down I.sz,h6⟩
theorem lJ (st:dC X) {e:Value} {s:Shared} (h:gV X E e s) {Q:Unit->Shared->Prop} {E2:Value->Shared->Prop} (q:∀σ H' a cls s',e= .ref a->Inv X [] σ H' s'->gj X.s₀.heap.objs.size cls a H' s'.heap->(∃T,cN s'.heap a T)->E cls none H'->Q () s'):wpAny (model X.prog X.w) X.A (noteFrame e X.env) Q E2 s:=by
 obtain⟨σ,H',a,cls,rfl,I,F,hE⟩:=h;obtain⟨hp,eR,jX,L,h1,h2,h3⟩:=st;have tL:=I.ok.frames;have hl:=I.stack;rw[h1] at tL hl;refine qZ tL hl h2 h3 F (λb hb=>I.hok.fresh hb) λh' x f t=>?_
 rw[<-h1] at x;exact q σ H' a cls _ rfl (I.Es hp F x) f t hE
theorem o7 (st:dC X) {e:Value} {s:Shared} (h:gV X E e s) {R:Value->Shared->Prop} (q:∀σ H' a cls s',e= .ref a->Inv X [] σ H' s'->gj X.s₀.heap.objs.size cls a H' s'.heap->(∃T,cN s'.heap a T)->E cls none H'->R e s'):notedBy (model X.prog X.w) X.A X.env R e s:=
 lJ st h q
theorem nv (st:dC X) (hx:∀e s',gV X E e s'->X.xe e s') (zB:∀e s',X.xe e s'->gV X E e s'):PassesOwn (model X.prog X.w) X.A X.env X.xe:=λe s' h=>by
 refine o7 st (zB e s' h) λσ H' a cls s1 e1 I1 F1 t1 hE=>?_
 subst e1;exact zh (fs:=dY X.stack) F1 t1 λh' x f t=>hx _ _ ⟨σ,H',a,cls,rfl,I1.Es st.pn F1 x,f,hE⟩
end
theorem Ep {P:Program} {w:World} {K:PySem.W.Frag} {mg:Str->Option Value} {base:Heap} {N:List Str} {qual:Str} {scope:Scope} {f:Addr} {cd:Value} {A:Around} {outer:List Env} {s:Shared} {H:Hp} {E:XK} {e:Value} {s':Shared}
  (h:gV (jy (ny P w) P w K mg base N qual scope f cd A outer s H E) E e s'):(jy (ny P w) P w K mg base N qual scope f cd A outer s H E).xe e s':=by
 have st:=xG (CX:=ny P w) (P:=P) (w:=w) (K:=K) (mg:=mg) (base:=base) (N:=N) (qual:=qual) (scope:=scope) (f:=f) (cd:=cd) (A:=A) (outer:=outer) (s:=s) (H:=H) (E:=E);show wpAny (model P w) (A.deeper (envOfC qual scope s.heap.objs.size f cd)) (leaving (envOfC qual scope s.heap.objs.size f cd) e) (λ_ s''=>ny P w outer H s E e s'') (λe' s''=>ny P w outer H s E e' s'') s';unfold leaving;refine Pr (lJ st h λσ H' a cls s1 e1 I1 F1 t1 hE=>?_);subst e1;refine dG (fs:=dY (jy (ny P w) P w K mg base N qual scope f cd A outer s H E).stack) F1 t1 λh' x f' t=>?_
 have I2:=I1.Es st.pn F1 x;exact⟨H',a,cls,rfl,I2.os,I2.bare,I2.base,I2.hok,f',hE⟩
section
variable {X:Cx} {E:XK} {scope:Scope} {N':List Str}
theorem Cx.Ok.xe {xe:Value->Shared->Prop} (k:X.Ok):Cx.Ok {X with xe:=xe}:=⟨k.mod,k.kind,k.glob,k.blt,k.above,k.inj,k.has,k.yi,k.hd,k.frames,k.AA,k.A6,k.bs,k.u7,k.kG,k.mq,k.fS,k.zj⟩
theorem Inv.xe {xe:Value->Shared->Prop} {pins:List (Addr×Obj)} {σ:St} {H:Hp} {s:Shared} (I:Inv X pins σ H s):Inv {X with xe:=xe} pins σ H s:=⟨I.ok.xe,I.os,I.bare,I.base,I.loc,I.cell,I.free,I.cm,I.pin,I.hok,I.len⟩
noncomputable def qC (X:Cx) (scope:Scope) (N':List Str) (E:XK) (C:Addr) (s:Shared) (H:Hp) (fp:List Addr):Value->Shared->Prop:=gV (eJ X scope N' C s H fp λ_ _=>False) E
theorem xZ {C:Addr} {s:Shared} {H:Hp} {fp:List Addr} {e:Value} {s':Shared} {xe:Value->Shared->Prop} (h:gV (eJ X scope N' C s H fp xe) E e s'):qC X scope N' E C s H fp e s':=by obtain⟨σ,H',a,cls,e1,I,F,hE⟩:=h;exact⟨σ,H',a,cls,e1,I.xe,F,hE⟩
theorem wI {C:Addr} {s:Shared} {H:Hp} {fp:List Addr} {e:Value} {s':Shared} {xe:Value->Shared->Prop} (h:qC X scope N' E C s H fp e s'):gV (eJ X scope N' C s H fp xe) E e s':=by obtain⟨σ,H',a,cls,e1,I,F,hE⟩:=h;exact⟨σ,H',a,cls,e1,I.xe,F,hE⟩
theorem rZ {C:Addr} {s:Shared} {H:Hp} {fp:List Addr} (st:dC X):PassesOwn (model X.prog X.w) X.A (eJ X scope N' C s H fp (qC X scope N' E C s H fp)).env (qC X scope N' E C s H fp):=
 nv (X:=eJ X scope N' C s H fp (qC X scope N' E C s H fp)) (E:=E) (ng st) (λe s' h=>xZ h) (λe s' h=>wI h)
theorem gj.at {h0:Nat} {cls:Value} {a:Addr} {H:Hp} {h h':Heap} (F:gj h0 cls a H h) (k:∀b o vs,h.get? b=some o->o.data= .fields vs->h'.get? b=some o):gj h0 cls a H h':=by obtain⟨o,vs,h1,h2,h3,h4⟩:=F.obj;have e1:=k a o vs h1 h3;refine⟨F.ge,F.nH,⟨o,vs,e1,h2,h3,h4⟩,λT z=>?_⟩;obtain⟨o',ws,z1,z2,z3⟩:=z;rw[e1] at z1;cases z1;obtain⟨t1,t2,t3,oT,ts,t4,t5,t6⟩:=F.tb T ⟨o,ws,h1,z2,z3⟩;exact⟨t1,t2,t3,oT,ts,k T oT ts t4 t5,t5,t6⟩
theorem jo (st:dC X) (Ol:∀e s',gV X E e s'->X.xe e s'):yJ X scope N' (qC X scope N' E):=by
 refine⟨λpins σ C s s1 H H1 fp x s' I1 f1 hC hs hH A8 hxb=>?_⟩;refine o7 (X:=eJ X scope N' C s H fp (qC X scope N' E C s H fp)) (ng st) (wI hxb) λσ' H' a cls s5 e1 I5 F5 t5 hE=>?_
 subst e1;obtain⟨m5,F8,_⟩:=I5.loc;have wc:s5.heap.Ns C m5:=F8;refine⟨m5,wc,λh' hsb tf Co=>?_⟩;have un:Un (dY X.stack) fp H1 H' s1.heap s5.heap:=by
  have u1:Un (dY X.stack) fp H1 H s1.heap s.heap:=by rw[hH,hs];exact Un.laid (λb u e=>Pu _ e) (PF _) I1.fresh
  exact u1.trans I5.base
 have hI:Inv X pins σ H' s5:=I1.vc (ch:=fp) (I5.os.trans (by show s.os=s1.os;rw[hs])) un I5.hok I5.bare λb hb=>⟨(f1 b hb).2.2.2.1,(f1 b hb).2.1,(f1 b hb).2.2.2.2.1,(f1 b hb).2.2.2.2.2⟩
 have fC:fP X pins H' C:=I1.tD (Nat.le_of_lt hC) I5.free;have Np:Inv X pins σ H' {s5 with heap:=h',toks:=s5.toks}:=hI.turned (t':=s5.toks) (λb o hb e=>(hsb.2 b hb).trans e) fC.1 fC.2.1 fC.2.2.2.1 fC.2.2.2.2.1 fC.2.2.2.2.2;have Nq:Inv X [] σ H' {s5 with heap:=h'}:=Np.fq λp hp=>by cases hp
 have fU:s1.heap.objs.size<=s.heap.objs.size:=by rw[hs];show _<=(s1.heap.push _).objs.size;rw[Qd];exact Nat.le_succ _
 have F6:gj X.s₀.heap.objs.size cls a H' h':=by
  have hd:∀b o vs,s5.heap.get? b=some o->o.data= .fields vs->h'.get? b=some o:=λb o vs e hd=>by refine(hsb.2 b λz=>?_).trans e;subst z;obtain⟨o',es,ep,pS,kE,_⟩:=wc;rw[e] at pS;cases pS;rw[hd] at kE;cases kE
  exact(F5.at hd).down (PP I1.sz fU)
 have t6:∃T,cN h' a T:=by obtain⟨T,o,vs,z1,z2,z3⟩:=t5;refine⟨T,o,vs,(hsb.2 a λz=>?_).trans z1,z2,z3⟩;subst z;obtain⟨o',es,ep,pS,kE,_⟩:=wc;rw[z1] at pS;cases pS;rw[z2] at kE;cases kE
 exact zi (s:={s5 with heap:=h'}) (fs:=dY X.stack) F6 t6 λh'' x f t=>Ol _ _ ⟨σ,H',a,cls,rfl,Nq.Es st.pn F6 x,f,hE⟩
end
end L2
end
section
namespace Rx
open PySem PySem.W PySem.Spec PyProof.Rows L2 PySem.SeqAt
inductive Dt where
 | aP | bl (b:Bool) | int (i:Int) | str (x:Str) | tup (ds:List Dt) | lst (ds:List Dt) | bJ (ns:List Int)
 | fg (ks vs:List Dt) | obj (ks:List Str) (vs:List Dt) | exc (c:Nat)
noncomputable abbrev Frag:=PySem.W.Frag
noncomputable def KL (K:Frag) (a:Addr) (xs:List V):Prop:=∃(o:Obj) (its:Array Value) (n:Nat),K.lookup a=some o/\o.cls= .type "list"/\o.dict=none/\o.data= .seq its n/\its.size<=sizeLine/\au xs its.toList
mutual
noncomputable def RV (K:Frag) (A:Addr->Prop) (H:Hp):V->Dt->Prop
 | x,.aP=>x= .aP
 | x,.bl b=>x= .bl b
 | x,.int i=>x= .int i
 | x,.str z=>x= .str z
 | x,.tup ds=>∃a xs,x= .ref a/\H a=some (.tup xs)/\ak K A H xs ds
 | x,.lst ds=>∃a xs,x= .ref a/\H a=some (.lst xs)/\¬A a/\ak K A H xs ds
 | x,.bJ ns=>∃a,x= .ref a/\((Rd H a (.lst (ns.map V.int))/\¬A a)\/KL K a (ns.map V.int))
 | _,.fg _ _=>False
 | x,.obj ks vs=>∃a cC,x= .ref a/\H a=some (.dK cC)/\¬A a/\cC.map (·.1)=ks.map Sum.inr/\ak K A H (cC.map (·.2)) vs
 | _,.exc _=>False
noncomputable def ak (K:Frag) (A:Addr->Prop) (H:Hp):List V->List Dt->Prop
 | [],[]=>True
 | x::xs,d::ds=>RV K A H x d/\ak K A H xs ds
 | [],_::_=>False
 | _::_,[]=>False
end
section
variable {K:Frag} {A B:Addr->Prop} {H H':Hp}
theorem RV.ax {x:V} (h:RV K A H x .aP):x= .aP:=by unfold RV at h;exact h
theorem RV.aw {x:V} {b} (h:RV K A H x (.bl b)):x= .bl b:=by unfold RV at h;exact h
theorem RV.int_inv {x:V} {b} (h:RV K A H x (.int b)):x= .int b:=by unfold RV at h;exact h
theorem RV.str_inv {x:V} {b} (h:RV K A H x (.str b)):x= .str b:=by unfold RV at h;exact h
theorem RV.af {x:V} {ds} (h:RV K A H x (.tup ds)):∃a xs,x= .ref a/\H a=some (.tup xs)/\ak K A H xs ds:=by unfold RV at h;exact h
theorem RV.lst_inv {x:V} {ds} (h:RV K A H x (.lst ds)):∃a xs,x= .ref a/\H a=some (.lst xs)/\¬A a/\ak K A H xs ds:=by unfold RV at h;exact h
theorem RV.du {x:V} {ns} (h:RV K A H x (.bJ ns)):∃a,x= .ref a/\((Rd H a (.lst (ns.map V.int))/\¬A a)\/KL K a (ns.map V.int)):=by unfold RV at h;exact h
theorem RV.iy {x:V} {ns} (h:RV K A H x (.bJ ns)):∃a,x= .ref a/\cM K H a (ns.map V.int):=by
 obtain⟨a,e,h | h⟩:=h.du
 ·exact⟨a,e,.inl h.1⟩
 ·exact⟨a,e,.inr h⟩
theorem RV.fh {x:V} {ks vs} (h:RV K A H x (.fg ks vs)):False:=by unfold RV at h;exact h
theorem RV.gN {x:V} {ks vs} (h:RV K A H x (.obj ks vs)):∃a cC,x= .ref a/\H a=some (.dK cC)/\¬A a/\cC.map (·.1)=ks.map Sum.inr/\ak K A H (cC.map (·.2)) vs:=by unfold RV at h;exact h
theorem RV.fj {x:V} {ks} (h:RV K A H x (.exc ks)):False:=by unfold RV at h;exact h
theorem RV.fX:RV K A H .aP .aP:=by unfold RV;rfl
theorem RV.jS {b}:RV K A H (.bl b) (.bl b):=by unfold RV;rfl
theorem RV.cP {b}:RV K A H (.int b) (.int b):=by unfold RV;rfl
theorem RV.ib {b}:RV K A H (.str b) (.str b):=by unfold RV;rfl
theorem RV.dw {a xs ds} (h:H a=some (.tup xs)) (t:ak K A H xs ds):RV K A H (.ref a) (.tup ds):=by unfold RV;exact⟨a,xs,rfl,h,t⟩
theorem RV.c7 {a xs ds} (h:H a=some (.lst xs)) (n:¬A a) (t:ak K A H xs ds):RV K A H (.ref a) (.lst ds):=by unfold RV;exact⟨a,xs,rfl,h,n,t⟩
theorem RV.qb {a cC ks vs} (h:H a=some (.dK cC)) (n:¬A a) (e:cC.map (·.1)=ks.map Sum.inr) (t:ak K A H (cC.map (·.2)) vs):RV K A H (.ref a) (.obj ks vs):=by unfold RV;exact⟨a,cC,rfl,h,n,e,t⟩
theorem ak.nil:ak K A H [] []:=by unfold ak;trivial
theorem ak.cons {x d xs ds} (h:RV K A H x d) (t:ak K A H xs ds):ak K A H (x::xs) (d::ds):=by unfold ak;exact⟨h,t⟩
theorem ak.nil_inv {xs} (h:ak K A H xs []):xs=[]:=by
 cases xs with
 | nil=>rfl
 | cons=>unfold ak at h;exact h.elim
theorem ak.c8 {ds} (h:ak K A H [] ds):ds=[]:=by
 cases ds with
 | nil=>rfl
 | cons=>unfold ak at h;exact h.elim
theorem ak.cons_inv {xs d ds} (h:ak K A H xs (d::ds)):∃x r,xs=x::r/\RV K A H x d/\ak K A H r ds:=by
 cases xs with
 | nil=>unfold ak at h;exact h.elim
 | cons x r=>unfold ak at h;exact⟨x,r,rfl,h⟩
theorem ak.tm {x xs ds} (h:ak K A H (x::xs) ds):∃d r,ds=d::r/\RV K A H x d/\ak K A H xs r:=by
 cases ds with
 | nil=>unfold ak at h;exact h.elim
 | cons d r=>unfold ak at h;exact⟨d,r,rfl,h⟩
theorem ak.length:∀{xs ds},ak K A H xs ds->xs.length=ds.length
 | [],[],_=>rfl
 | [],_::_,h=>by unfold ak at h;exact h.elim
 | _::_,[],h=>by unfold ak at h;exact h.elim
 | _::xs,_::ds,h=>by unfold ak at h;simp[ak.length h.2]
theorem ak.get:∀{xs ds} {i:Nat} {x},ak K A H xs ds->xs[i]?=some x->∃d,ds[i]?=some d/\RV K A H x d
 | [],_,_,_,_,e=>by simp at e
 | _::_,[],_,_,h,_=>by unfold ak at h;exact h.elim
 | _::_,_::_,0,_,h,e=>by unfold ak at h;simp at e;subst e;exact⟨_,rfl,h.1⟩
 | _::xs,_::ds,i + 1,x,h,e=>by unfold ak at h;obtain⟨d,e1,e2⟩:=ak.get (i:=i) h.2 (by simpa using e);exact⟨d,by simpa using e1,e2⟩
theorem ak.getD:∀{xs ds} {i:Nat} {d},ak K A H xs ds->ds[i]?=some d->∃x,xs[i]?=some x/\RV K A H x d
 | _,[],_,_,_,e=>by simp at e
 | [],_::_,_,_,h,_=>by unfold ak at h;exact h.elim
 | _::_,_::_,0,_,h,e=>by unfold ak at h;simp at e;subst e;exact⟨_,rfl,h.1⟩
 | _::xs,_::ds,i + 1,x,h,e=>by unfold ak at h;obtain⟨d,e1,e2⟩:=ak.getD (i:=i) h.2 (by simpa using e);exact⟨d,by simpa using e1,e2⟩
theorem ak.append:∀{xs ys ds es},ak K A H xs ds->ak K A H ys es->ak K A H (xs++ys) (ds++es)
 | [],_,[],_,_,h=>h
 | [],_,_::_,_,h,_=>by unfold ak at h;exact h.elim
 | _::_,_,[],_,h,_=>by unfold ak at h;exact h.elim
 | _::xs,ys,_::ds,es,h,h'=>by unfold ak at h;exact ak.cons h.1 (ak.append h.2 h')
theorem ak.take:∀{xs ds} (n:Nat),ak K A H xs ds->ak K A H (xs.take n) (ds.take n)
 | [],ds,n,h=>by rw[h.c8];simp;exact ak.nil
 | x::xs,[],n,h=>by unfold ak at h;exact h.elim
 | x::xs,d::ds,0,h=>by simp;exact ak.nil
 | x::xs,d::ds,n + 1,h=>by unfold ak at h;simp only[List.take_succ_cons];exact ak.cons h.1 (ak.take n h.2)
theorem ak.drop:∀{xs ds} (n:Nat),ak K A H xs ds->ak K A H (xs.drop n) (ds.drop n)
 | [],ds,n,h=>by rw[h.c8];simp;exact ak.nil
 | x::xs,[],n,h=>by unfold ak at h;exact h.elim
 | x::xs,d::ds,0,h=>h
 | x::xs,d::ds,n + 1,h=>by unfold ak at h;simp only[List.drop_succ_cons];exact ak.drop n h.2
theorem ak.set:∀{xs ds} (n:Nat) {x d},ak K A H xs ds->RV K A H x d->ak K A H (xs.set n x) (ds.set n d)
 | [],ds,n,_,_,h,_=>by rw[h.c8];simp;exact ak.nil
 | x::xs,[],n,_,_,h,_=>by unfold ak at h;exact h.elim
 | x::xs,d::ds,0,_,_,h,h'=>by unfold ak at h;simp only[List.set_cons_zero];exact ak.cons h' h.2
 | x::xs,d::ds,n + 1,_,_,h,h'=>by unfold ak at h;simp only[List.set_cons_succ];exact ak.cons h.1 (ak.set n h.2 h')
theorem ak.rep {xs ds} (h:ak K A H xs ds):∀k:Nat,ak K A H (List.replicate k xs).flatten (List.replicate k ds).flatten
 | 0=>by simp;exact ak.nil
 | k + 1=>by rw[List.replicate_succ,List.replicate_succ,List.flatten_cons,List.flatten_cons];exact h.append (ak.rep h k)
structure aX (X:Addr->Prop) (H H':Hp):Prop where
 kp:∀b o,H b=some o->¬X b->H' b=some o
 tp:∀b xs,H b=some (.tup xs)->H' b=some (.tup xs)
theorem aX.of_same {X:Addr->Prop} (s:bj H H'):aX X H H':=⟨λb o e _=>s b o e,λb xs e=>s b _ e⟩
theorem aX.refl {X:Addr->Prop}:aX X H H:=⟨λ_ _ e _=>e,λ_ _ e=>e⟩
theorem aX.trans {X:Addr->Prop} {H1:Hp} (a:aX X H H1) (b:aX X H1 H'):aX X H H':=⟨λc o e n=>b.kp c o (a.kp c o e n) n,λc xs e=>b.tp c xs (a.tp c xs e)⟩
theorem aX.mono {X Y:Addr->Prop} (a:aX X H H') (h:∀b,X b->Y b):aX Y H H':=⟨λb o e n=>a.kp b o e λz=>n (h b z),a.tp⟩
theorem xi {X:Addr->Prop} {a:Addr} {u:HO} (e:aX X H H') (n:¬X a) (h:Rd H a u):Rd H' a u:=by
 rcases h with h | ⟨o,h⟩
 ·exact .inl (e.kp _ _ h n)
 ·exact .inr ⟨o,e.kp _ _ h n⟩
mutual
theorem RV.mono {X:Addr->Prop} (e:aX X H H') (hX:∀b,X b->A b) (hB:∀b,B b->A b):∀{x d},RV K A H x d->RV K B H' x d
 | x,.aP,h=>by rw[h.ax];exact RV.fX
 | x,.bl b,h=>by rw[h.aw];exact RV.jS
 | x,.int b,h=>by rw[h.int_inv];exact RV.cP
 | x,.str b,h=>by rw[h.str_inv];exact RV.ib
 | x,.tup ds,h=>by obtain⟨a,xs,rfl,h1,h2⟩:=h.af;exact RV.dw (e.tp _ _ h1) (ak.mono e hX hB h2)
 | x,.lst ds,h=>by obtain⟨a,xs,rfl,h1,h3,h2⟩:=h.lst_inv;exact RV.c7 (e.kp _ _ h1 λz=>h3 (hX _ z)) (λz=>h3 (hB _ z)) (ak.mono e hX hB h2)
 | x,.bJ ns,h=>by
  obtain⟨a,rfl,⟨h1,h3⟩ | h1⟩:=h.du
  ·unfold RV;exact⟨a,rfl,.inl ⟨xi e (λz=>h3 (hX _ z)) h1,λz=>h3 (hB _ z)⟩⟩
  ·unfold RV;exact⟨a,rfl,.inr h1⟩
 | x,.fg ..,h=>h.fh.elim
 | x,.obj ks vs,h=>by obtain⟨a,cC,rfl,h1,h3,h4,h2⟩:=h.gN;exact RV.qb (e.kp _ _ h1 λz=>h3 (hX _ z)) (λz=>h3 (hB _ z)) h4 (ak.mono e hX hB h2)
 | x,.exc ..,h=>h.fj.elim
theorem ak.mono {X:Addr->Prop} (e:aX X H H') (hX:∀b,X b->A b) (hB:∀b,B b->A b):∀{xs ds},ak K A H xs ds->ak K B H' xs ds
 | [],[],_=>ak.nil
 | [],_::_,h=>by unfold ak at h;exact h.elim
 | _::_,[],h=>by unfold ak at h;exact h.elim
 | _::xs,_::ds,h=>by unfold ak at h;exact ak.cons (RV.mono e hX hB h.1) (ak.mono e hX hB h.2)
end
theorem RV.same {x d} (h:RV K A H x d) (s:bj H H'):RV K A H' x d:=h.mono (X:=λ_=>False) (aX.of_same s) (λ_ z=>z.elim) λ_ z=>z
theorem ak.same {x d} (h:ak K A H x d) (s:bj H H'):ak K A H' x d:=h.mono (X:=λ_=>False) (aX.of_same s) (λ_ z=>z.elim) λ_ z=>z
theorem RV.weak {x d} (h:RV K A H x d) (hB:∀b,B b->A b):RV K B H x d:=h.mono (X:=λ_=>False) aX.refl (λ_ z=>z.elim) hB
theorem ak.weak {x d} (h:ak K A H x d) (hB:∀b,B b->A b):ak K B H x d:=h.mono (X:=λ_=>False) aX.refl (λ_ z=>z.elim) hB
mutual
theorem RV.avoid {p:Addr} (hp:H p=none):∀{x d},RV K A H x d->RV K (λb=>A b\/b=p) H x d
 | x,.aP,h=>by rw[h.ax];exact RV.fX
 | x,.bl b,h=>by rw[h.aw];exact RV.jS
 | x,.int b,h=>by rw[h.int_inv];exact RV.cP
 | x,.str b,h=>by rw[h.str_inv];exact RV.ib
 | x,.tup ds,h=>by obtain⟨a,xs,rfl,h1,h2⟩:=h.af;exact RV.dw h1 (ak.avoid hp h2)
 | x,.lst ds,h=>by obtain⟨a,xs,rfl,h1,h3,h2⟩:=h.lst_inv;exact RV.c7 h1 (λz=>z.elim h3 λe=>by rw[e,hp] at h1;cases h1) (ak.avoid hp h2)
 | x,.bJ ns,h=>by
  obtain⟨a,rfl,⟨h1,h3⟩ | h1⟩:=h.du
  ·unfold RV;refine⟨a,rfl,.inl ⟨h1,λz=>z.elim h3 λe=>?_⟩⟩;subst e;rcases h1 with h1 | ⟨o,h1⟩ <;> (rw[hp] at h1;cases h1)
  ·unfold RV;exact⟨a,rfl,.inr h1⟩
 | x,.fg ..,h=>h.fh.elim
 | x,.obj ks vs,h=>by obtain⟨a,cC,rfl,h1,h3,h4,h2⟩:=h.gN;exact RV.qb h1 (λz=>z.elim h3 λe=>by rw[e,hp] at h1;cases h1) h4 (ak.avoid hp h2)
 | x,.exc ..,h=>h.fj.elim
theorem ak.avoid {p:Addr} (hp:H p=none):∀{xs ds},ak K A H xs ds->ak K (λb=>A b\/b=p) H xs ds
 | [],[],_=>ak.nil
 | [],_::_,h=>by unfold ak at h;exact h.elim
 | _::_,[],h=>by unfold ak at h;exact h.elim
 | _::xs,_::ds,h=>by unfold ak at h;exact ak.cons (RV.avoid hp h.1) (ak.avoid hp h.2)
end
end
section
variable {K:Frag} {A B:Addr->Prop} {H:Hp}
mutual
theorem RV.bQ (hp:∀b,B b->A b\/H b=none):∀{x d},RV K A H x d->RV K B H x d
 | x,.aP,h=>by rw[h.ax];exact RV.fX
 | x,.bl b,h=>by rw[h.aw];exact RV.jS
 | x,.int b,h=>by rw[h.int_inv];exact RV.cP
 | x,.str b,h=>by rw[h.str_inv];exact RV.ib
 | x,.tup ds,h=>by obtain⟨a,xs,rfl,h1,h2⟩:=h.af;exact RV.dw h1 (ak.bQ hp h2)
 | x,.lst ds,h=>by obtain⟨a,xs,rfl,h1,h3,h2⟩:=h.lst_inv;exact RV.c7 h1 (λz=>(hp a z).elim h3 λe=>by rw[e] at h1;cases h1) (ak.bQ hp h2)
 | x,.bJ ns,h=>by
  obtain⟨a,rfl,⟨h1,h3⟩ | h1⟩:=h.du
  ·unfold RV;refine⟨a,rfl,.inl ⟨h1,λz=>(hp a z).elim h3 λe=>?_⟩⟩;rcases h1 with h1 | ⟨o,h1⟩ <;> (rw[e] at h1;cases h1)
  ·unfold RV;exact⟨a,rfl,.inr h1⟩
 | x,.fg ..,h=>h.fh.elim
 | x,.obj ks vs,h=>by obtain⟨a,cC,rfl,h1,h3,h4,h2⟩:=h.gN;exact RV.qb h1 (λz=>(hp a z).elim h3 λe=>by rw[e] at h1;cases h1) h4 (ak.bQ hp h2)
 | x,.exc ..,h=>h.fj.elim
theorem ak.bQ (hp:∀b,B b->A b\/H b=none):∀{xs ds},ak K A H xs ds->ak K B H xs ds
 | [],[],_=>ak.nil
 | [],_::_,h=>by unfold ak at h;exact h.elim
 | _::_,[],h=>by unfold ak at h;exact h.elim
 | _::xs,_::ds,h=>by unfold ak at h;exact ak.cons (RV.bQ hp h.1) (ak.bQ hp h.2)
end
end
mutual
noncomputable def lz:Dt->Bool
 | .aP | .bl _ | .int _ | .str _=>true
 | .tup ds=>ij ds
 | _=>false
noncomputable def ij:List Dt->Bool
 | []=>true
 | d::ds=>lz d&&ij ds
end
mutual
theorem RV.lz {K:Frag} {A B:Addr->Prop} {H:Hp}:∀{x d},RV K A H x d->lz d=true->RV K B H x d
 | x,.aP,h,_=>by rw[h.ax];exact RV.fX
 | x,.bl b,h,_=>by rw[h.aw];exact RV.jS
 | x,.int b,h,_=>by rw[h.int_inv];exact RV.cP
 | x,.str b,h,_=>by rw[h.str_inv];exact RV.ib
 | x,.tup ds,h,n=>by obtain⟨a,xs,rfl,h1,h2⟩:=h.af;exact RV.dw h1 (ak.ij h2 (by simpa [Rx.lz] using n))
 | x,.lst ds,_,n=>by simp[Rx.lz] at n
 | x,.bJ ds,_,n=>by simp[Rx.lz] at n
 | x,.fg ..,h,_=>h.fh.elim
 | x,.obj ..,_,n=>by simp[Rx.lz] at n
 | x,.exc ..,h,_=>h.fj.elim
theorem ak.ij {K:Frag} {A B:Addr->Prop} {H:Hp}:∀{xs ds},ak K A H xs ds->ij ds=true->ak K B H xs ds
 | [],[],_,_=>ak.nil
 | [],_::_,h,_=>by unfold ak at h;exact h.elim
 | _::_,[],h,_=>by unfold ak at h;exact h.elim
 | _::xs,_::ds,h,n=>by unfold ak at h;simp only[Rx.ij,Pw] at n;exact ak.cons (RV.lz h.1 n.1) (ak.ij h.2 n.2)
end
mutual
noncomputable def toD:Dt->Option Mx.D
 | .int i=>some (.int i)
 | .str x=>some (.str x)
 | .tup ds=>(iC ds).map Mx.D.tup
 | _=>none
noncomputable def iC:List Dt->Option (List Mx.D)
 | []=>some []
 | d::ds=>(toD d).bind λm=>(iC ds).map (m:: ·)
end
mutual
noncomputable def ofD:Mx.D->Dt
 | .int i=> .int i
 | .str x=> .str x
 | .tup ds=> .tup (bC ds)
noncomputable def bC:List Mx.D->List Dt
 | []=>[]
 | d::ds=>ofD d::bC ds
end
theorem jW:∀ds:List Mx.D,bC ds=ds.map ofD
 | []=>by simp[bC]
 | d::ds=>by simp[bC,jW ds]
mutual
theorem D8:∀m:Mx.D,toD (ofD m)=some m
 | .int i=>by simp[ofD,toD]
 | .str x=>by simp[ofD,toD]
 | .tup ds=>by simp[ofD,toD,jn ds]
theorem jn:∀ms:List Mx.D,iC (bC ms)=some ms
 | []=>by simp[bC,iC]
 | m::ms=>by simp[bC,iC,D8 m,jn ms]
end
mutual
theorem C8:∀{d:Dt} {m:Mx.D},toD d=some m->d=ofD m
 | .int i,m,h=>by simp[toD] at h;subst h;simp[ofD]
 | .str i,m,h=>by simp[toD] at h;subst h;simp[ofD]
 | .tup ds,m,h=>by simp only[toD,PX] at h;obtain⟨ms,h1,rfl⟩:=h;rw[mM h1];simp[ofD]
 | .aP,m,h=>by simp[toD] at h
 | .bl _,m,h=>by simp[toD] at h
 | .lst _,m,h=>by simp[toD] at h
 | .bJ _,m,h=>by simp[toD] at h
 | .fg _ _,m,h=>by simp[toD] at h
 | .obj _ _,m,h=>by simp[toD] at h
 | .exc _,m,h=>by simp[toD] at h
theorem mM:∀{ds:List Dt} {ms:List Mx.D},iC ds=some ms->ds=bC ms
 | [],ms,h=>by simp[iC] at h;subst h;simp[bC]
 | d::ds,ms,h=>by simp only[iC,Pt,PX] at h;obtain⟨m,h1,r,h2,rfl⟩:=h;rw[C8 h1,mM h2];simp[bC]
end
mutual
theorem RV.dv {K:Frag} {A:Addr->Prop} {H:Hp}:∀{x} {m:Mx.D},RV K A H x (ofD m)->Mx.DV H x m
 | x,.int i,h=>by simp only[ofD] at h;rw[h.int_inv];exact Mx.DV.int
 | x,.str i,h=>by simp only[ofD] at h;rw[h.str_inv];exact Mx.DV.str
 | x,.tup ms,h=>by simp only[ofD] at h;obtain⟨a,xs,rfl,h1,h2⟩:=h.af;exact Mx.DV.tup h1 (ak.tu h2)
theorem ak.tu {K:Frag} {A:Addr->Prop} {H:Hp}:∀{xs} {ms:List Mx.D},ak K A H xs (bC ms)->Mx.a9 H xs ms
 | [],[],_=>Mx.a9.nil
 | [],_::_,h=>by simp only[bC] at h;unfold ak at h;exact h.elim
 | _::_,[],h=>by simp only[bC] at h;unfold ak at h;exact h.elim
 | _::xs,_::ds,h=>by simp only[bC] at h;unfold ak at h;exact Mx.a9.cons (RV.dv h.1) (ak.tu h.2)
end
mutual
theorem RV.GF {K:Frag} {A:Addr->Prop} {H:Hp}:∀{x} {m:Mx.D},Mx.DV H x m->RV K A H x (ofD m)
 | x,.int i,h=>by simp only[ofD];rw[h.int_inv];exact RV.cP
 | x,.str i,h=>by simp only[ofD];rw[h.str_inv];exact RV.ib
 | x,.tup ms,h=>by simp only[ofD];obtain⟨a,xs,rfl,h1,h2⟩:=h.af;exact RV.dw h1 (ak.qe h2)
theorem ak.qe {K:Frag} {A:Addr->Prop} {H:Hp}:∀{xs} {ms:List Mx.D},Mx.a9 H xs ms->ak K A H xs (bC ms)
 | [],[],_=>by simp only[bC];exact ak.nil
 | [],_::_,h=>by unfold Mx.a9 at h;exact h.elim
 | _::_,[],h=>by unfold Mx.a9 at h;exact h.elim
 | _::xs,_::ds,h=>by simp only[bC];unfold Mx.a9 at h;exact ak.cons (RV.GF h.1) (ak.qe h.2)
end
mutual
noncomputable def bP:Dt->Dt->Bool
 | .aP,.aP=>true
 | .bl a,.bl b=>a==b
 | .int a,.int b=>a==b
 | .bl a,.int b=>(if a then(1:Int) else 0)==b
 | .int a,.bl b=>a==(if b then(1:Int) else 0)
 | .str a,.str b=>a==b
 | .tup a,.tup b=>b8 a b
 | .lst a,.lst b=>b8 a b
 | _,_=>false
noncomputable def b8:List Dt->List Dt->Bool
 | [],[]=>true
 | x::xs,y::ys=>bP x y&&b8 xs ys
 | _,_=>false
end
mutual
noncomputable def pl:Dt->Bool
 | .aP | .bl _ | .int _ | .str _=>true
 | .tup ds=>lA ds
 | .lst ds=>lA ds
 | _=>false
noncomputable def lA:List Dt->Bool
 | []=>true
 | d::ds=>pl d&&lA ds
end
mutual
noncomputable def dp:Dt->Nat
 | .tup ds=>pK ds + 1
 | .lst ds=>pK ds + 1
 | _=>0
noncomputable def pK:List Dt->Nat
 | []=>0
 | d::ds=>max (dp d) (pK ds)
end
mutual
theorem iq:∀d:Dt,pl d=true->bP d d=true
 | .aP,_=>by simp[bP]
 | .bl b,_=>by simp[bP]
 | .int b,_=>by simp[bP]
 | .str b,_=>by simp[bP]
 | .tup ds,h=>by simp only[bP];exact f7 ds (by simpa [pl] using h)
 | .lst ds,h=>by simp only[bP];exact f7 ds (by simpa [pl] using h)
 | .bJ _,h=>by simp[pl] at h
 | .fg _ _,h=>by simp[pl] at h
 | .obj _ _,h=>by simp[pl] at h
 | .exc _,h=>by simp[pl] at h
theorem f7:∀ds:List Dt,lA ds=true->b8 ds ds=true
 | [],_=>by simp[b8]
 | d::ds,h=>by simp only[lA,Pw] at h;simp only[b8,Pw];exact⟨iq d h.1,f7 ds h.2⟩
end
noncomputable def OR:Dt->Nat
 | .aP=>0 | .bl _=>1 | .int _=>2 | .str _=>3 | .tup _=>4 | .lst _=>5 | _=>6
noncomputable def Lr (H:Hp):V->Nat
 | .aP=>0 | .bl _=>1 | .int _=>2 | .str _=>3
 | .ref a=>(match H a with | some (.tup _)=>4 | some (.lst _)=>5 | _=>6)
 | _=>6
theorem RV.tg {K:Frag} {A:Addr->Prop} {H:Hp} {x:V} {d:Dt} (h:RV K A H x d) (n:pl d=true):Lr H x=OR d:=by
 cases d with
 | aP=>rw[h.ax];rfl
 | bl=>rw[h.aw];rfl
 | int=>rw[h.int_inv];rfl
 | str=>rw[h.str_inv];rfl
 | tup=>obtain⟨a,xs,rfl,h1,_⟩:=h.af;unfold Lr;dsimp only;rw[h1];rfl
 | lst=>obtain⟨a,xs,rfl,h1,_⟩:=h.lst_inv;unfold Lr;dsimp only;rw[h1];rfl
 | _=>simp[pl] at n
mutual
theorem RV.inj {K:Frag} {A B:Addr->Prop} {H:Hp}:∀{x d e},RV K A H x d->RV K B H x e->pl d=true->pl e=true->d=e
 | x,.aP,e,h,g,m,n=>by have t:=(h.tg m).symm.trans (g.tg n);cases e <;> first | rfl | exact absurd t (of_decide_eq_false rfl)
 | x,.bl b,e,h,g,m,n=>by have t:=(h.tg m).symm.trans (g.tg n);cases e <;> first | exact absurd t (of_decide_eq_false rfl) | (cases h.aw.symm.trans g.aw;rfl)
 | x,.int b,e,h,g,m,n=>by have t:=(h.tg m).symm.trans (g.tg n);cases e <;> first | exact absurd t (of_decide_eq_false rfl) | (cases h.int_inv.symm.trans g.int_inv;rfl)
 | x,.str b,e,h,g,m,n=>by have t:=(h.tg m).symm.trans (g.tg n);cases e <;> first | exact absurd t (of_decide_eq_false rfl) | (cases h.str_inv.symm.trans g.str_inv;rfl)
 | x,.tup ds,e,h,g,m,n=>by
  have t:=(h.tg m).symm.trans (g.tg n);cases e with
  | tup es=>obtain⟨a,xs,rfl,h1,h2⟩:=h.af;obtain⟨b,ys,q,g1,g2⟩:=g.af;cases q;rw[h1] at g1;cases g1;rw[ak.inj h2 g2 (by simpa [pl] using m) (by simpa [pl] using n)]
  | _=>exact absurd t (of_decide_eq_false rfl)
 | x,.lst ds,e,h,g,m,n=>by
  have t:=(h.tg m).symm.trans (g.tg n);cases e with
  | lst es=>obtain⟨a,xs,rfl,h1,_,h2⟩:=h.lst_inv;obtain⟨b,ys,q,g1,_,g2⟩:=g.lst_inv;cases q;rw[h1] at g1;cases g1;rw[ak.inj h2 g2 (by simpa [pl] using m) (by simpa [pl] using n)]
  | _=>exact absurd t (of_decide_eq_false rfl)
 | x,.bJ ds,_,_,_,n,_=>by simp[pl] at n
 | x,.fg ..,_,_,_,n,_=>by simp[pl] at n
 | x,.obj ..,_,_,_,n,_=>by simp[pl] at n
 | x,.exc ..,_,_,_,n,_=>by simp[pl] at n
theorem ak.inj {K:Frag} {A B:Addr->Prop} {H:Hp}:∀{xs ds es},ak K A H xs ds->ak K B H xs es->lA ds=true->lA es=true->ds=es
 | xs,[],es,h,g,_,_=>by
  cases xs with
  | nil=>rw[g.c8]
  | cons=>unfold ak at h;exact h.elim
 | xs,d::ds,es,h,g,m,n=>by
  cases xs with
  | nil=>unfold ak at h;exact h.elim
  | cons x xs=>unfold ak at h;obtain⟨e,t,rfl,g1,g2⟩:=g.tm;have m':=Bool.and_eq_true_iff.mp m;have n':=Bool.and_eq_true_iff.mp n;rw[RV.inj h.1 g1 m'.1 n'.1,ak.inj h.2 g2 m'.2 n'.2]
end
noncomputable def sE (ds es:List Dt) (j:Nat):Bool:=match ds[j]?,es[j]? with
 | some d,some e=>bP d e
 | _,_=>true
theorem cn:∀ds es:List Dt,((List.range (min ds.length es.length)).all (sE ds es)&&ds.length==es.length)=b8 ds es
 | [],[]=>by simp[b8]
 | [],_::_=>by simp[b8]
 | _::_,[]=>by simp[b8]
 | d::ds,e::es=>by
  have ih:=cn ds es;have hm:min (d::ds).length (e::es).length=min ds.length es.length + 1:=by simp only[P0];lia
  have e1:((d::ds).length==(e::es).length)=(ds.length==es.length):=by rw[Bool.eq_iff_iff];simp
  rw[hm,List.range_succ_eq_map,List.all_cons,List.all_map,e1,b8,<-ih,Bool.and_assoc];rfl
theorem jA {d:Dt}:∀{ds:List Dt} {j:Nat},ds[j]?=some d->dp d<=pK ds
 | [],_,h=>by simp at h
 | d'::ds,0,h=>by simp at h;subst h;unfold pK;lia
 | d'::ds,j + 1,h=>by have:=jA (ds:=ds) (j:=j) (by simpa using h);unfold pK;lia
theorem dy {d:Dt}:∀{ds:List Dt} {j:Nat},lA ds=true->ds[j]?=some d->pl d=true
 | [],_,_,h=>by simp at h
 | d'::ds,0,n,h=>by simp at h;subst h;simp only[lA,Pw] at n;exact n.1
 | d'::ds,j + 1,n,h=>by simp only[lA,Pw] at n;exact dy (ds:=ds) (j:=j) n.2 (by simpa using h)
section
variable {P:Program} {w:World} {K:Frag} {A B:Addr->Prop} {H:Hp} {s:Shared}
theorem aN (hok:d4 P w H s.heap) {a:Addr} {xs:List V} (h:H a=some (.lst xs)):∃its:List Value,au xs its/\s.heap.IsList a its.toArray:=by obtain⟨_,its,n,r,t⟩:=hok a _ h;exact⟨its,r,⟨_,t,rfl,_,rfl⟩⟩
theorem A4 (hok:d4 P w H s.heap):∀(n:Nat) (d e:Dt) (x y:V) (u v:Value) (R:Around),dp d<=n->pl d=true->pl e=true->R.units + n < cLine->RV K A H x d->RV K B H y e->RelV x u->RelV y v->EqAt R s u v (bP d e):=by
 intro n
 induction n with
 | zero=>
  intro d e x y u v R hd i7 eE hu hx hy rx ry;cases d with
  | aP=>
   have:=hx.ax;subst this;cases rx;cases e with
   | aP=>have:=hy.ax;subst this;cases ry;exact EqAt.same _
   | bl j=>have:=hy.aw;subst this;cases ry;exact EqAt.none_bool j
   | int j=>have:=hy.int_inv;subst this;obtain⟨t',rfl⟩:=ry;exact EqAt.none_int j t'
   | str j=>have:=hy.str_inv;subst this;obtain⟨t',rfl⟩:=ry;exact EqAt.none_str j t'
   | tup j=>obtain⟨b,ys,q,f1,f2⟩:=hy.af;subst q;cases ry;obtain⟨its,_,ht⟩:=Mx.ar hok f1;exact EqAt.none_tuple ht (by lia)
   | lst j=>obtain⟨b,ys,q,f1,_,f2⟩:=hy.lst_inv;subst q;cases ry;obtain⟨its,_,ht⟩:=aN hok f1;exact EqAt.none_list ht (by lia)
   | _=>simp[pl] at eE
  | bl i=>
   have:=hx.aw;subst this;cases rx;cases e with
   | aP=>have:=hy.ax;subst this;cases ry;exact EqAt.bool_none _
   | bl j=>have:=hy.aw;subst this;cases ry;exact EqAt.bool_bool i j
   | int j=>have:=hy.int_inv;subst this;obtain⟨t',rfl⟩:=ry;exact EqAt.bool_int i j t'
   | str j=>have:=hy.str_inv;subst this;obtain⟨t',rfl⟩:=ry;exact EqAt.bool_str i j t'
   | tup j=>obtain⟨b,ys,q,f1,f2⟩:=hy.af;subst q;cases ry;obtain⟨its,_,ht⟩:=Mx.ar hok f1;exact EqAt.bool_tuple i ht (by lia)
   | lst j=>obtain⟨b,ys,q,f1,_,f2⟩:=hy.lst_inv;subst q;cases ry;obtain⟨its,_,ht⟩:=aN hok f1;exact EqAt.bool_list i ht (by lia)
   | _=>simp[pl] at eE
  | int i=>
   have:=hx.int_inv;subst this;obtain⟨t,rfl⟩:=rx;cases e with
   | aP=>have:=hy.ax;subst this;cases ry;exact EqAt.int_none i t
   | bl j=>have:=hy.aw;subst this;cases ry;exact EqAt.int_bool i t j
   | int j=>have:=hy.int_inv;subst this;obtain⟨t',rfl⟩:=ry;exact EqAt.int_int i t j t'
   | str j=>have:=hy.str_inv;subst this;obtain⟨t',rfl⟩:=ry;exact EqAt.int_str i t j t'
   | tup j=>obtain⟨b,ys,q,f1,f2⟩:=hy.af;subst q;cases ry;obtain⟨its,_,ht⟩:=Mx.ar hok f1;exact EqAt.int_tuple i t ht (by lia)
   | lst j=>obtain⟨b,ys,q,f1,_,f2⟩:=hy.lst_inv;subst q;cases ry;obtain⟨its,_,ht⟩:=aN hok f1;exact EqAt.int_list i t ht (by lia)
   | _=>simp[pl] at eE
  | str i=>
   have:=hx.str_inv;subst this;obtain⟨t,rfl⟩:=rx;cases e with
   | aP=>have:=hy.ax;subst this;cases ry;exact EqAt.str_none i t
   | bl j=>have:=hy.aw;subst this;cases ry;exact EqAt.str_bool i t j
   | int j=>have:=hy.int_inv;subst this;obtain⟨t',rfl⟩:=ry;exact EqAt.str_int i t j t'
   | str j=>have:=hy.str_inv;subst this;obtain⟨t',rfl⟩:=ry;exact EqAt.str_str i t j t'
   | tup j=>obtain⟨b,ys,q,f1,f2⟩:=hy.af;subst q;cases ry;obtain⟨its,_,ht⟩:=Mx.ar hok f1;exact EqAt.str_tuple i t ht (by lia)
   | lst j=>obtain⟨b,ys,q,f1,_,f2⟩:=hy.lst_inv;subst q;cases ry;obtain⟨its,_,ht⟩:=aN hok f1;exact EqAt.str_list i t ht (by lia)
   | _=>simp[pl] at eE
  | tup ds=>unfold dp at hd;lia
  | lst ds=>unfold dp at hd;lia
  | _=>simp[pl] at i7
 | succ n ih=>
  intro d e x y u v R hd i7 eE hu hx hy rx ry;cases d with
  | tup ds=>
   obtain⟨a,xs,q,e1,e2⟩:=hx.af;subst q;cases rx;obtain⟨its,r1,ht⟩:=Mx.ar hok e1;cases e with
   | aP=>have:=hy.ax;subst this;cases ry;exact EqAt.tuple_none ht (by lia)
   | bl j=>have:=hy.aw;subst this;cases ry;exact EqAt.tuple_bool j ht (by lia)
   | int j=>have:=hy.int_inv;subst this;obtain⟨t',rfl⟩:=ry;exact EqAt.tuple_int j t' ht (by lia)
   | str j=>have:=hy.str_inv;subst this;obtain⟨t',rfl⟩:=ry;exact EqAt.tuple_str j t' ht (by lia)
   | lst j=>obtain⟨b,ys,q,f1,_,f2⟩:=hy.lst_inv;subst q;cases ry;obtain⟨aI,_,bR⟩:=aN hok f1;exact EqAt.tuple_list ht bR (by lia)
   | tup es=>
    obtain⟨b,ys,q,f1,f2⟩:=hy.af;subst q;cases ry;obtain⟨aI,r2,bR⟩:=Mx.ar hok f1;by_cases fK:a=b
    ·subst fK;have:=RV.inj hx hy i7 eE;cases this;rw[iq _ i7];exact EqAt.same _
    ·have l1:its.toArray.size=ds.length:=by rw[Px,<-r1.length,e2.length]
     have l2:aI.toArray.size=es.length:=by rw[Px,<-r2.length,f2.length]
     have key:=RcAt.tuples (A:=R) (e:=sE ds es) ht bR (by lia) (λj h1 h2=>?_)
     ·have q:=cn ds es;rw[<-l1,<-l2] at q;rw[q] at key;exact EqAt.of_refs fK key
     ·have kY:j < xs.length:=by rw[e2.length,<-l1];exact h1
      have kn:j < ys.length:=by rw[f2.length,<-l2];exact h2
      obtain⟨d,g1,g2⟩:=e2.get (i:=j) (x:=xs[j]) (by simp[kY]);obtain⟨e,k1,k2⟩:=f2.get (i:=j) (x:=ys[j]) (by simp[kn]);obtain⟨u,zy,ru⟩:=r1.get (i:=j) (x:=xs[j]) (by simp[kY]);obtain⟨v,CH,rv⟩:=r2.get (i:=j) (x:=ys[j]) (by simp[kn]);have eu:its.toArray[j]=u:=by simp only[List.getElem_toArray];exact(Pz.mp zy).2
      have ev:aI.toArray[j]=v:=by simp only[List.getElem_toArray];exact(Pz.mp CH).2
      rw[eu,ev,show sE ds es j=bP d e by unfold sE;rw[g1,k1]];have:=jA g1;unfold dp at hd;exact ih d e xs[j] ys[j] u v R.in1 (by lia) (dy (by simpa [pl] using i7) g1) (dy (by simpa [pl] using eE) k1) (by show R.units + 1 + n < cLine;lia) g2 k2 ru rv
   | _=>simp[pl] at eE
  | lst ds=>
   obtain⟨a,xs,q,e1,_,e2⟩:=hx.lst_inv;subst q;cases rx;obtain⟨its,r1,ht⟩:=aN hok e1;cases e with
   | aP=>have:=hy.ax;subst this;cases ry;exact EqAt.list_none ht (by lia)
   | bl j=>have:=hy.aw;subst this;cases ry;exact EqAt.list_bool j ht (by lia)
   | int j=>have:=hy.int_inv;subst this;obtain⟨t',rfl⟩:=ry;exact EqAt.list_int j t' ht (by lia)
   | str j=>have:=hy.str_inv;subst this;obtain⟨t',rfl⟩:=ry;exact EqAt.list_str j t' ht (by lia)
   | tup j=>obtain⟨b,ys,q,f1,f2⟩:=hy.af;subst q;cases ry;obtain⟨aI,_,bR⟩:=Mx.ar hok f1;exact EqAt.list_tuple ht bR (by lia)
   | lst es=>
    obtain⟨b,ys,q,f1,_,f2⟩:=hy.lst_inv;subst q;cases ry;obtain⟨aI,r2,bR⟩:=aN hok f1;by_cases fK:a=b
    ·subst fK;have:=RV.inj hx hy i7 eE;cases this;rw[iq _ i7];exact EqAt.same _
    ·have l1:its.toArray.size=ds.length:=by rw[Px,<-r1.length,e2.length]
     have l2:aI.toArray.size=es.length:=by rw[Px,<-r2.length,f2.length]
     have q:=cn ds es;by_cases hl:ds.length=es.length
     ·have key:=RcAt.lists (A:=R) (e:=sE ds es) ht bR (by lia) (by lia) (λj h1 h2=>?_)
      ·rw[hl,Nat.min_self,beq_self_eq_true,Bool.and_true] at q;rw[l1,hl,q] at key;exact EqAt.of_refs fK key
      ·have kY:j < xs.length:=by rw[e2.length,<-l1];exact h1
       have kn:j < ys.length:=by rw[f2.length,<-l2];exact h2
       obtain⟨d,g1,g2⟩:=e2.get (i:=j) (x:=xs[j]) (by simp[kY]);obtain⟨e,k1,k2⟩:=f2.get (i:=j) (x:=ys[j]) (by simp[kn]);obtain⟨u,zy,ru⟩:=r1.get (i:=j) (x:=xs[j]) (by simp[kY]);obtain⟨v,CH,rv⟩:=r2.get (i:=j) (x:=ys[j]) (by simp[kn]);have eu:its.toArray[j]=u:=by simp only[List.getElem_toArray];exact(Pz.mp zy).2
       have ev:aI.toArray[j]=v:=by simp only[List.getElem_toArray];exact(Pz.mp CH).2
       rw[eu,ev,show sE ds es j=bP d e by unfold sE;rw[g1,k1]];have:=jA g1;unfold dp at hd;exact ih d e xs[j] ys[j] u v R.in1 (by lia) (dy (by simpa [pl] using i7) g1) (dy (by simpa [pl] using eE) k1) (by show R.units + 1 + n < cLine;lia) g2 k2 ru rv
     ·have key:=RcAt.lists_lengths (A:=R) ht bR (by rw[l1,l2];simpa using hl) (by lia);have hb:(ds.length==es.length)=false:=by simpa using hl
      rw[hb,Bool.and_false] at q;show EqAt R s _ _ (b8 ds es);rw[<-q];exact EqAt.of_refs fK key
   | _=>simp[pl] at eE
  | _=>exact ih _ e x y u v R (by unfold dp;lia) i7 eE (by lia) hx hy rx ry
end
inductive R (α:Type) where
 | ok (a:α) | ex (c:Nat) | bad
noncomputable def R.bind {α β:Type}:R α->(α->R β)->R β
 | .ok a,f=>f a
 | .ex c,_=> .ex c
 | .bad,_=> .bad
@[simp] theorem R.ah {α β:Type} (a:α) (f:α->R β):(R.ok a).bind f=f a:=rfl
noncomputable def R.nx {α:Type}:R α->R α
 | .ok a=> .ok a
 | _=> .bad
noncomputable abbrev lim:Nat:=1000000
noncomputable abbrev ai:=List (Option Dt)
noncomputable abbrev Sx:=Option (List Int)
noncomputable def ae (b:Bool) {α:Type} (r:R α):R α:=if b then r else .bad
@[simp] theorem guard_true {α:Type} (r:R α):ae true r=r:=rfl
noncomputable def iK (o:Operator) (a b:Dt):R Dt:=match o with
 | .Add=>match a,b with
  | .int i,.int j=> .ok (.int (i + j))
  | .str x,.str y=>ae (decide (x.length + y.length<=lim)) (.ok (.str (x++y)))
  | .lst x,.lst y=>ae (decide (x.length + y.length<=lim)) (.ok (.lst (x++y)))
  | .tup x,.tup y=>ae (decide (x.length + y.length<=lim)) (.ok (.tup (x++y)))
  | _,_=> .bad
 | .Sub=>match a,b with
  | .int i,.int j=> .ok (.int (i - j))
  | _,_=> .bad
 | .Mult=>match a,b with
  | .int i,.int j=>ae (decide (i.natAbs < 2 ^ 64)||decide (j.natAbs < 2 ^ 64)) (.ok (.int (i * j)))
  | .lst x,.int k=>ae (decide (k.natAbs<=lim)&&decide (x.length * k.toNat<=lim)) (.ok (.lst (List.replicate k.toNat x).flatten))
  | .tup x,.int k=>ae (decide (k.natAbs<=lim)&&decide (x.length * k.toNat<=lim)) (.ok (.tup (List.replicate k.toNat x).flatten))
  | _,_=> .bad
 | .FloorDiv=>match a,b with
  | .int i,.int j=>ae (decide (0 < j)&&decide (j.natAbs.log2 < 9000)) (.ok (.int (i / j)))
  | _,_=> .bad
 | .Mod=>match a,b with
  | .int i,.int j=>ae (decide (0 < j)) (.ok (.int (i % j)))
  | _,_=> .bad
 | .Pow=>match a,b with
  | .int i,.int j=>ae (decide (0<=j)&&decide (j<=1000)&&decide (i.natAbs < 2 ^ 64)) (.ok (.int (i ^ j.toNat)))
  | _,_=> .bad
 | _=> .bad
noncomputable def inD (d:Dt) (ds:List Dt):Bool:=ds.any λe=>bP e d
noncomputable def zf (d e:Dt):Bool:=pl d&&pl e&&decide (dp d<=100)
noncomputable def itemsOf:Dt->Option (List Dt)
 | .lst ds=>some ds
 | .tup ds=>some ds
 | .bJ ns=>some (ns.map Dt.int)
 | _=>none
noncomputable def cT:Dt->Option (List Dt)
 | .lst ds=>some ds
 | .tup ds=>some ds
 | _=>none
noncomputable def cU:CmpOp->Dt->Dt->R Bool
 | .Eq,a,b=>ae (zf a b) (.ok (bP a b))
 | .NotEq,a,b=>ae (zf a b) (.ok (!bP a b))
 | .Lt,.int i,.int j=> .ok (decide (i < j))
 | .LtE,.int i,.int j=> .ok (decide (i<=j))
 | .Gt,.int i,.int j=> .ok (decide (j < i))
 | .GtE,.int i,.int j=> .ok (decide (j<=i))
 | .Is,a,.aP=> .ok (match a with | .aP=>true | _=>false)
 | .IsNot,a,.aP=> .ok (match a with | .aP=>false | _=>true)
 | .In,a,.lst ds=>ae (pl a&&lA ds&&decide (pK ds<=100)) (.ok (inD a ds))
 | .In,a,.tup ds=>ae (pl a&&lA ds&&decide (pK ds<=100)) (.ok (inD a ds))
 | .NotIn,a,.lst ds=>ae (pl a&&lA ds&&decide (pK ds<=100)) (.ok (!inD a ds))
 | .NotIn,a,.tup ds=>ae (pl a&&lA ds&&decide (pK ds<=100)) (.ok (!inD a ds))
 | _,_,_=> .bad
noncomputable def dh:Dt->R Bool
 | .aP=> .ok false
 | .bl b=> .ok b
 | .int i=> .ok (i != 0)
 | .str y=>ae (decide (y.length<=lim)) (.ok ((y.length:Int) != 0))
 | .lst ds=> .ok !ds.isEmpty
 | .tup ds=> .ok !ds.isEmpty
 | .bJ ds=> .ok !ds.isEmpty
 | _=> .bad
noncomputable def sU (ds:List Dt) (i:Int):R Dt:=match km ds i with
 | some d=> .ok d
 | none=> .bad
noncomputable def dg:Dt->Dt->R Dt
 | .lst ds,.int i=>sU ds i
 | .tup ds,.int i=>sU ds i
 | .bJ ns,.int i=>sU (ns.map Dt.int) i
 | .str z,.int i=>ae (decide (z.length<=lim)) (match km z.cps.toList i with | some c=> .ok (.str ⟨#[c]⟩) | none=> .bad)
 | _,_=> .bad
noncomputable def cutD {α:Type} (xs:List α) (lo hi:Option Int):List α:=(xs.drop (HT.bF xs.length 0 lo)).take (HT.bF xs.length xs.length hi - HT.bF xs.length 0 lo)
noncomputable def f9:Dt->Option Int->Option Int->R Dt
 | .lst ds,lo,hi=> .ok (.lst (cutD ds lo hi))
 | .bJ ds,lo,hi=> .ok (.lst (cutD (ds.map Dt.int) lo hi))
 | .tup ds,lo,hi=> .ok (.tup (cutD ds lo hi))
 | .str z,lo,hi=>ae (decide (z.length<=lim)) (.ok (.str (PySem.Txt.slice z lo hi)))
 | _,_,_=> .bad
inductive BI where
 | len | abs | sum | any | all | minL | maxL | sorted | tuple | list | int | isi (T:String) | dvm
 deriving DecidableEq
noncomputable def intsOf:List Dt->Option (List Int)
 | []=>some []
 | .int i::r=>(intsOf r).map (i:: ·)
 | _=>none
noncomputable def eM:List Dt->Option (List Bool)
 | []=>some []
 | .bl i::r=>(eM r).map (i:: ·)
 | _=>none
noncomputable def EK (a b:Mx.D):Bool:= !Mx.D.lt b a
noncomputable def eA (ds:List Mx.D):List Mx.D:=ds.mergeSort EK
mutual
noncomputable def tS:Mx.D->Mx.D->Bool
 | .int _,.int _=>true
 | .str _,.str _=>true
 | .tup a,.tup b=>ow a b
 | _,_=>false
noncomputable def ow:List Mx.D->List Mx.D->Bool
 | x::xs,y::ys=>tS x y&&ow xs ys
 | _,_=>true
end
noncomputable def Gn (k:Mx.SK):Mx.D->Bool
 | .tup (.tup _::_)=>k== .tt
 | .tup (.str _::_)=>k== .ts
 | .tup (.int _::_)=>k== .ti
 | .str _=>k== .s
 | .int _=>k== .i
 | _=>false
noncomputable def iP (ds:List Mx.D):Bool:=decide (ds.length < 1000000)&&(decide (ds.length < 2)||(decide (Mx.D.eO ds<=100)&&([Mx.SK.tt,.ts,.ti,.s,.i].any λk=>ds.all (Gn k))&&ds.all λd=>ds.all λe=>tS d e))
noncomputable def dd:List Str->List Str
 | []=>[]
 | x::r=>if x∈dd r then dd r else x::dd r
noncomputable def iT:List Int->Int
 | []=>0
 | [a]=>a
 | a::r=>min a (iT r)
noncomputable def cO:List Int->Int
 | []=>0
 | [a]=>a
 | a::r=>max a (cO r)
noncomputable def strsOf:List Dt->Option (List Str)
 | []=>some []
 | .str i::r=>(strsOf r).map (i:: ·)
 | _=>none
noncomputable def cK (xs ys:List Dt):List Dt:=List.zipWith (λx y=>Dt.tup [x,y]) xs ys
noncomputable def vw:Nat->List Dt->List Dt
 | _,[]=>[]
 | i,x::xs=>Dt.tup [.int i,x]::vw (i + 1) xs
noncomputable def tQ (T:String):Dt->R Bool
 | .str _=> .ok (T=="str")
 | .int _=> .ok (T=="int")
 | .bl _=> .ok (T=="bool"||T=="int")
 | .lst _=> .ok (T=="list")
 | .tup _=> .ok (T=="tuple")
 | .aP=> .ok false
 | _=> .bad
noncomputable def MY (d:Dt):Option (Str×Dt):=match d with
 | .tup ds=>match ds with
  | [a,v]=>match a with
   | .str k=>some (k,v)
   | _=>none
  | _=>none
 | _=>none
noncomputable def cL (b:BI) (as:List Dt):R Dt:=match b with
 | .len=>match as with
  | [.str x]=>ae (decide (x.length<=lim)) (.ok (.int x.length))
  | [.lst ds]=> .ok (.int ds.length)
  | [.tup ds]=> .ok (.int ds.length)
  | [.bJ ds]=> .ok (.int ds.length)
  | _=> .bad
 | .abs=>match as with
  | [.int i]=> .ok (.int (if i < 0 then -i else i))
  | _=> .bad
 | .sum=>match as with
  | [.lst ds]=>match intsOf ds with | some ns=> .ok (.int ns.sum) | none=> .bad
  | [.tup ds]=>match intsOf ds with | some ns=> .ok (.int ns.sum) | none=> .bad
  | _=> .bad
 | .any=>match as with
  | [.lst ds]=>match eM ds with | some ns=> .ok (.bl (ns.any id)) | none=> .bad
  | _=> .bad
 | .all=>match as with
  | [.lst ds]=>match eM ds with | some ns=> .ok (.bl (ns.all id)) | none=> .bad
  | _=> .bad
 | .minL=>match as with
  | [.lst ds]=>match intsOf ds with | some ns=>ae (!ns.isEmpty) (.ok (.int (iT ns))) | none=> .bad
  | _=> .bad
 | .sorted=>match as with
  | [d]=>match itemsOf d with
   | some ds=>match iC ds with
    | some ms=>ae (iP ms) (.ok (.lst (bC (eA ms))))
    | none=> .bad
   | none=> .bad
  | _=> .bad
 | .tuple=>match as with
  | [.lst ds]=> .ok (.tup ds)
  | [.tup ds]=> .ok (.tup ds)
  | _=> .bad
 | .list=>match as with
  | [.lst ds]=> .ok (.lst ds)
  | [.tup ds]=> .ok (.lst ds)
  | [.bJ ns]=> .ok (.lst (ns.map Dt.int))
  | _=> .bad
 | .int=>match as with
  | [.int i]=> .ok (.int i)
  | [.bl b]=> .ok (.int (if b then 1 else 0))
  | _=> .bad
 | .isi T=>match as with
  | [d]=>(tQ T d).bind λb=> .ok (.bl b)
  | _=> .bad
 | .maxL=>match as with
  | [.lst ds]=>match intsOf ds with | some ns=>ae (!ns.isEmpty) (.ok (.int (cO ns))) | none=> .bad
  | _=> .bad
 | .dvm=>match as with
  | [.int i,.int j]=>ae (decide (j≠0)&&decide (j.natAbs.log2 < 9000)) (.ok (.tup [.int (i.fdiv j),.int (i.fmod j)]))
  | _=> .bad
noncomputable def isStr:Dt->Bool
 | .str _=>true
 | _=>false
inductive MT where
 | join
 deriving DecidableEq
noncomputable def OC:MT->Dt->List Dt->R Dt
 | .join,.str z,[.lst ds]=>match strsOf ds with
  | some ys=>ae (decide ((ys.map (·.length)).sum + ys.length * z.length<=lim)) (.ok (.str (PySem.Txt.join z ys)))
  | none=> .bad
 | _,_,_=> .bad
inductive Tg where
 | nm (i:Nat) | tp (is:List Nat)
 deriving DecidableEq
mutual
inductive C where
 | con (d:Dt) | var (i:Nat) | mvr (i:Nat)
 | bin (o:Operator) (a b:C) | cmp (o:CmpOp) (a b:C) | ch (o p:CmpOp) (a b c:C)
 | neg (a:C) | nt (a:C) | and (a b:C) | or (a b:C) | ite (t a b:C)
 | idx (a b:C) | sliL (a lo:C) | sliH (a hi:C) | sliB (a lo hi:C)
 | tup (es:Cs) | lst (es:Cs)
 | call (f:Nat) (es:Cs) (ds:List Dt) | callD (f:Nat) (es:Cs) | popD | lenD
 | bi (b:BI) (es:Cs) | mt (m:MT) (o:C) (es:Cs)
 | FA (i:Nat) (k e:C) | srtI (i:Nat) | gtO (o k e:C)
 | comp (cap:List (Option Nat)) (it:lK) (tg:Tg) (ts:Cs) (e:C)
 | fH (cap:List (Option Nat)) (it:lK) (tg:Tg) (ts:Cs) (fL:lK) (iB:Tg) (ES:Cs) (e:C)
inductive Cs where
 | nil | cons (c:C) (cs:Cs)
inductive lK where
 | seq (c:C) | rng1 (c:C) | rng2 (a b:C) | zip (a b:C) | enum (c:C) | zipR (a c:C)
end
noncomputable def Cs.all (p:C->Bool):Cs->Bool
 | .nil=>true
 | .cons c cs=>p c&&cs.all p
mutual
noncomputable def lk:C->Nat
 | .mvr _=>1
 | .and _ _=>0
 | .or _ _=>0
 | .ite _ a b=>max (lk a) (lk b)
 | .idx a _=>if lk a<=1 then 0 else 2
 | .sliL a _=>if lk a<=1 then 0 else 2
 | .sliH a _=>if lk a<=1 then 0 else 2
 | .sliB a _ _=>if lk a<=1 then 0 else 2
 | .bin _ a b=>if lk a<=1/\lk b<=1 then 0 else 2
 | .tup es=>if ou es=0 then 0 else 2
 | .lst es=>if ou es=0 then 0 else 2
 | .call _ es _=>if ou es=0 then 0 else 2
 | .callD _ es=>if ou es=0 then 0 else 2
 | .bi _ es=>if ou es<=1 then 0 else 2
 | .FA _ _ e=>lk e
 | .gtO o _ e=>if lk o=0 then lk e else 2
 | _=>0
noncomputable def ou:Cs->Nat
 | .nil=>0
 | .cons c cs=>max (lk c) (ou cs)
end
noncomputable def rN:lK->Nat
 | .seq c=>lk c
 | .zip a b=>max (lk a) (lk b)
 | .enum c=>lk c
 | .zipR a _=>lk a
 | _=>0
noncomputable def fresh (fr:Nat->Bool):C->Bool
 | .lst _=>true
 | .comp ..=>true
 | .fH ..=>true
 | .bi .sorted _=>true
 | .bi .list _=>true
 | .bin ..=>true
 | .call f _ _=>fr f
 | .callD f _=>fr f
 | _=>false
noncomputable def bu (c:C) (d:Dt):Bool:=decide (lk c=0)||lz d
noncomputable def iN (c:C) (d:Dt):Bool:=decide (lk c=0)||match d with | .lst ds=>ij ds | d=>lz d
noncomputable def dN (ρ:ai) (i:Nat):R Dt:=match ρ[i]? with
 | some (some d)=> .ok d
 | _=> .bad
noncomputable def iQ (cap:List (Option Nat)) (ρ:ai):ai:=cap.map λo=>o.bind λi=>(ρ[i]?).join
noncomputable def iM:List Nat->List Dt->ai->R ai
 | [],[],ρ=> .ok ρ
 | i::is,d::ds,ρ=>iM is ds (ρ.set i (some d))
 | _,_,_=> .bad
noncomputable def dU:Tg->Dt->ai->R ai
 | .nm i,d,ρ=> .ok (ρ.set i (some d))
 | .tp is,.tup ds,ρ=>iM is ds ρ
 | _,_,_=> .bad
noncomputable def aG (f:Dt->Sx->R (List Dt×Sx)):List Dt->Sx->R (List Dt×Sx)
 | [],S=> .ok ([],S)
 | x::xs,S=>(f x S).bind λp=>(aG f xs p.2).bind λq=> .ok (p.1++q.1,q.2)
noncomputable def aJ (tg:Tg) (Ls:ai->Sx->R (Bool×Sx)) (body:ai->Sx->R (List Dt×Sx)) (ρ:ai) (d:Dt) (S:Sx):R (List Dt×Sx):=
 (dU tg d ρ).bind λρ1=>(Ls ρ1 S).bind λb=>if b.1 then body ρ1 b.2 else .ok ([],b.2)
noncomputable def bg (lo:Int) (n:Nat):List Dt:=(List.range n).map λ(i:Nat)=>Dt.int (lo + (i:Int))
noncomputable def Jq (d:Mx.D):List Dt->List Dt->Option Dt
 | k::ks,v::vs=>if toD k=some d then some v else Jq d ks vs
 | _,_=>none
noncomputable def Fq (d:Mx.D) (v:Dt):List Dt->List Dt->List Dt
 | k::ks,x::vs=>(if toD k=some d then v else x)::Fq d v ks vs
 | _,vs=>vs
noncomputable def Gp (k:Dt):Option Mx.D:=match toD k with
 | some (.tup ds)=>if Mx.D.dep (.tup ds)<=8 then some (.tup ds) else none
 | _=>none
noncomputable def Fo (z k e:Dt):R Dt:=match z with
 | .fg ks vs=>match Gp k with
  | some d=> .ok ((Jq d ks vs).getD e)
  | none=> .bad
 | _=> .bad
noncomputable def Fs (z k v:Dt):R Dt:=match z with
 | .fg ks vs=>match Gp k with
  | some d=>ae (decide (ks.length < lim)) (.ok (if (Jq d ks vs).isSome then .fg ks (Fq d v ks vs) else .fg (ks++[k]) (vs++[v])))
  | none=> .bad
 | _=> .bad
noncomputable def wM (ks vs:List Mx.D):List Mx.D:=(ks.zip vs).map λz=> .tup [z.1,z.2]
noncomputable def Ft (z:Dt):R Dt:=match z with
 | .fg ks vs=>match iC ks,iC vs with
  | some ms,some ns=>ae (iP (wM ms ns)) (.ok (.lst (bC (eA (wM ms ns)))))
  | _,_=> .bad
 | _=> .bad
noncomputable def Kp:Dt->Bool
 | .obj _ _=>true
 | _=>false
noncomputable def Mo (y:Str):List Str->List Dt->Option Dt
 | k::ks,v::vs=>if k=y then some v else Mo y ks vs
 | _,_=>none
noncomputable def GG (z k e:Dt):R Dt:=match z with
 | .obj ks vs=>match k with
  | .str y=> .ok ((Mo y ks vs).getD e)
  | _=> .bad
 | _=> .bad
noncomputable def Gh (ρ:ai) (i:Nat):Bool:=match ρ[i]? with | some (some (.fg _ _))=>true | _=>false
noncomputable abbrev FT:=Nat->List Dt->Sx->R (Dt×Sx)
mutual
noncomputable def ev (F:FT):C->ai->Sx->R (Dt×Sx)
 | .con d,_,S=> .ok (d,S)
 | .var i,ρ,S=>(dN ρ i).bind λd=> .ok (d,S)
 | .mvr i,ρ,S=>(dN ρ i).bind λd=> .ok (d,S)
 | .bin o a b,ρ,S=>(ev F a ρ S).bind λx=>(ev F b ρ x.2).bind λy=>(iK o x.1 y.1).bind λd=> .ok (d,y.2)
 | .cmp o a b,ρ,S=>(ev F a ρ S).bind λx=>(ev F b ρ x.2).bind λy=>(cU o x.1 y.1).bind λd=> .ok (.bl d,y.2)
 | .ch o p a b c,ρ,S=>(ev F a ρ S).bind λx=>(ev F b ρ x.2).bind λy=>(cU o x.1 y.1).bind λd=>
   if d then(ev F c ρ y.2).bind λz=>(cU p y.1 z.1).bind λe=> .ok (.bl e,z.2) else .ok (.bl false,y.2)
 | .neg a,ρ,S=>(ev F a ρ S).bind λx=>match x.1 with | .int i=> .ok (.int (-i),x.2) | _=> .bad
 | .nt a,ρ,S=>(ev F a ρ S).bind λx=>match x.1 with | .bl b=> .ok (.bl !b,x.2) | _=> .bad
 | .and a b,ρ,S=>(ev F a ρ S).bind λx=>match x.1 with | .bl true=>(ev F b ρ x.2).bind λy=>(match y.1 with | .bl c=> .ok (.bl c,y.2) | _=> .bad) | .bl false=> .ok (.bl false,x.2) | _=> .bad
 | .or a b,ρ,S=>(ev F a ρ S).bind λx=>match x.1 with | .bl false=>(ev F b ρ x.2).bind λy=>(match y.1 with | .bl c=> .ok (.bl c,y.2) | _=> .bad) | .bl true=> .ok (.bl true,x.2) | _=> .bad
 | .ite t a b,ρ,S=>(bV F t ρ S).bind λx=>if x.1 then ev F a ρ x.2 else ev F b ρ x.2
 | .idx a b,ρ,S=>(ev F a ρ S).bind λx=>(ev F b ρ x.2).bind λy=>(dg x.1 y.1).bind λd=> .ok (d,y.2)
 | .sliL a l,ρ,S=>(ev F a ρ S).bind λx=>(ev F l ρ x.2).bind λy=>match y.1 with | .int i=>(f9 x.1 (some i) none).bind λd=> .ok (d,y.2) | _=> .bad
 | .sliH a h,ρ,S=>(ev F a ρ S).bind λx=>(ev F h ρ x.2).bind λy=>match y.1 with | .int i=>(f9 x.1 none (some i)).bind λd=> .ok (d,y.2) | _=> .bad
 | .sliB a l h,ρ,S=>(ev F a ρ S).bind λx=>(ev F l ρ x.2).bind λy=>match y.1 with | .int i=>(ev F h ρ y.2).bind λz=>(match z.1 with | .int j=>(f9 x.1 (some i) (some j)).bind λd=> .ok (d,z.2) | _=> .bad) | _=> .bad
 | .tup es,ρ,S=>(fR F es ρ S).bind λx=>ae (decide (x.1.length<=lim)) (.ok (.tup x.1,x.2))
 | .lst es,ρ,S=>(fR F es ρ S).bind λx=>ae (decide (x.1.length<=lim)) (.ok (.lst x.1,x.2))
 | .call f es ds,ρ,S=>(fR F es ρ S).bind λx=>(F f (x.1++ds) none).bind λy=> .ok (y.1,x.2)
 | .callD f es,ρ,S=>ae S.isSome ((fR F es ρ S).bind λx=>match x.2 with | some s=>F f x.1 (some s) | none=> .bad)
 | .popD,_,S=>match S with | some ns=>ae (!ns.isEmpty) (.ok (.int (ns.getLastD 0),some ns.dropLast)) | none=> .bad
 | .lenD,_,S=>match S with | some ns=> .ok (.int ns.length,S) | none=> .bad
 | .FA i k e,ρ,S=>ae (Gh ρ i) ((ev F k ρ S).bind λx=>(ev F e ρ x.2).bind λy=>(dN ρ i).bind λz=>(Fo z x.1 y.1).bind λd=> .ok (d,y.2))
 | .srtI i,ρ,S=>(dN ρ i).bind λz=>(Ft z).bind λd=> .ok (d,S)
 | .gtO o k e,ρ,S=>(ev F o ρ S).bind λz=>ae (Kp z.1) ((ev F k ρ z.2).bind λx=>(ev F e ρ x.2).bind λy=>(GG z.1 x.1 y.1).bind λd=> .ok (d,y.2))
 | .bi b es,ρ,S=>(fR F es ρ S).bind λx=>(cL b x.1).bind λd=> .ok (d,x.2)
 | .mt m o es,ρ,S=>(ev F o ρ S).bind λy=>ae (isStr y.1) ((fR F es ρ y.2).bind λx=>(OC m y.1 x.1).bind λd=> .ok (d,x.2))
 | .comp cap it tg ts e,ρ,S=>(dE F it ρ S).bind λx=>ae (decide (x.1.length<=lim)&&(decide (rN it<=1)||kB F it ρ S))
   ((aG (aJ tg (a8 F ts) (λρ1 S1=>(ev F e ρ1 S1).bind λy=>ae (bu e y.1) (.ok ([y.1],y.2))) (iQ cap ρ)) x.1 x.2).bind λq=> .ok (.lst q.1,q.2))
 | .fH cap it tg ts fL iB ES e,ρ,S=>(dE F it ρ S).bind λx=>ae (decide (x.1.length<=lim)&&(decide (rN it<=1)||kB F it ρ S))
   ((aG (aJ tg (a8 F ts) (λρ1 S1=>(dE F fL ρ1 S1).bind λx2=>ae (decide (x.1.length * x2.1.length<=lim)&&decide (rN fL=0))
    (aG (aJ iB (a8 F ES) (λρ2 S2=>(ev F e ρ2 S2).bind λy=>ae (bu e y.1) (.ok ([y.1],y.2))) ρ1) x2.1 x2.2)) (iQ cap ρ)) x.1 x.2).bind λq=> .ok (.lst q.1,q.2))
noncomputable def bV (F:FT):C->ai->Sx->R (Bool×Sx)
 | .nt a,ρ,S=>(bV F a ρ S).bind λx=> .ok (!x.1,x.2)
 | .and a b,ρ,S=>(bV F a ρ S).bind λx=>if x.1 then bV F b ρ x.2 else .ok (false,x.2)
 | .or a b,ρ,S=>(bV F a ρ S).bind λx=>if x.1 then .ok (true,x.2) else bV F b ρ x.2
 | .cmp o a b,ρ,S=>(ev F a ρ S).bind λx=>(ev F b ρ x.2).bind λy=>(cU o x.1 y.1).bind λd=> .ok (d,y.2)
 | .ch o p a b c,ρ,S=>(ev F a ρ S).bind λx=>(ev F b ρ x.2).bind λy=>(cU o x.1 y.1).bind λd=>
   if d then(ev F c ρ y.2).bind λz=>(cU p y.1 z.1).bind λe=> .ok (e,z.2) else .ok (false,y.2)
 | .var i,ρ,S=>(dN ρ i).bind λd=>(dh d).bind λb=> .ok (b,S)
 | .mvr i,ρ,S=>(dN ρ i).bind λd=>(dh d).bind λb=> .ok (b,S)
 | .call f es ds,ρ,S=>(fR F es ρ S).bind λx=>(F f (x.1++ds) none).bind λy=>(dh y.1).bind λb=> .ok (b,x.2)
 | .callD f es,ρ,S=>ae S.isSome ((fR F es ρ S).bind λx=>match x.2 with | some s=>(F f x.1 (some s)).bind λy=>(dh y.1).bind λb=> .ok (b,y.2) | none=> .bad)
 | .bi b es,ρ,S=>(fR F es ρ S).bind λx=>(cL b x.1).bind λd=>(dh d).bind λb=> .ok (b,x.2)
 | .idx a b,ρ,S=>(ev F a ρ S).bind λx=>(ev F b ρ x.2).bind λy=>(dg x.1 y.1).bind λd=>(dh d).bind λb=> .ok (b,y.2)
 | _,_,_=> .bad
noncomputable def fR (F:FT):Cs->ai->Sx->R (List Dt×Sx)
 | .nil,_,S=> .ok ([],S)
 | .cons c cs,ρ,S=>(ev F c ρ S).bind λx=>(fR F cs ρ x.2).bind λy=> .ok (x.1::y.1,y.2)
noncomputable def a8 (F:FT):Cs->ai->Sx->R (Bool×Sx)
 | .nil,_,S=> .ok (true,S)
 | .cons c .nil,ρ,S=>bV F c ρ S
 | _,_,_=> .bad
noncomputable def dE (F:FT):lK->ai->Sx->R (List Dt×Sx)
 | .seq c,ρ,S=>(ev F c ρ S).bind λx=>match itemsOf x.1 with | some ds=> .ok (ds,x.2) | none=> .bad
 | .rng1 c,ρ,S=>(ev F c ρ S).bind λx=>match x.1 with | .int j=>ae (decide (j<=lim)&&decide (-lim<=j)) (.ok (bg 0 j.toNat,x.2)) | _=> .bad
 | .rng2 a b,ρ,S=>(ev F a ρ S).bind λx=>(ev F b ρ x.2).bind λy=>match x.1,y.1 with
   | .int i,.int j=>ae (decide (i.natAbs<=lim)&&decide (j.natAbs<=lim)) (.ok (bg i (j - i).toNat,y.2)) | _,_=> .bad
 | .zip a b,ρ,S=>(ev F a ρ S).bind λx=>(ev F b ρ x.2).bind λy=>match cT x.1,cT y.1 with
   | some xs,some ys=> .ok (cK xs ys,y.2) | _,_=> .bad
 | .enum c,ρ,S=>(ev F c ρ S).bind λx=>match cT x.1 with | some ds=> .ok (vw 0 ds,x.2) | none=> .bad
 | .zipR a c,ρ,S=>(ev F a ρ S).bind λx=>(ev F c ρ x.2).bind λy=>match cT x.1,y.1 with
   | some xs,.int j=>ae (decide (j<=lim)&&decide (-lim<=j)) (.ok (cK xs (bg 0 j.toNat),y.2)) | _,_=> .bad
noncomputable def kB (F:FT):lK->ai->Sx->Bool
 | .seq c,ρ,S=>match ev F c ρ S with | .ok x=>lz x.1 | _=>false
 | _,_,_=>false
end
inductive Fl where
 | next | brk | cnt | ret (d:Dt)
mutual
inductive T where
 | asg (i:Nat) (c:C) | asgM (i:Nat) (c:C) | asgD (i:Nat) (c:C) | mov (i j:Nat) | asgT (is:List Nat) (c:C)
 | aug (i:Nat) (o:Operator) (c:C)
 | qr (i:Nat) (k v:C) | app (i:Nat) (c:C) | xtd (i:Nat) (c:C) | clr (i:Nat)
 | yl (c:C) | ret (c:C) | retN | ifs (t:C) (a b:Ts) | fr (tg:Tg) (it:lK) (b:Ts) | wh (t:C) (b:Ts)
 | Jr (i:Nat) | dset (i:Nat) (k v:C)
 | rs (k:Nat) (vs:List Nat) | tr (b:Ts) (uC:List (Option Bool)) | brk | cnt | pas
inductive Ts where
 | nil | cons (t:T) (ts:Ts)
end
noncomputable abbrev RS:=R (Fl×ai×Sx)
noncomputable def Gy (ρ:ai) (i:Nat):Bool:=match ρ[i]? with
 | some (some (.int n))=>decide (0<=n)&&decide (n < 10 ^ 19)
 | _=>false
noncomputable def forL (tg:Tg) (body:ai->Sx->RS):List Dt->ai->Sx->RS
 | [],ρ,S=> .ok (.next,ρ,S)
 | x::xs,ρ,S=>(dU tg x ρ).bind λρ1=>(body ρ1 S).bind λp=>match p.1 with
  | .next=>forL tg body xs p.2.1 p.2.2
  | .cnt=>forL tg body xs p.2.1 p.2.2
  | .brk=> .ok (.next,p.2)
  | .ret d=> .ok (.ret d,p.2)
noncomputable def Lv (test:ai->Sx->R (Bool×Sx)) (body:ai->Sx->RS):Nat->ai->Sx->RS
 | 0,_,_=> .bad
 | n + 1,ρ,S=>(test ρ S).bind λb=>if b.1 then(body ρ b.2).bind λp=>match p.1 with
   | .next=>Lv test body n p.2.1 p.2.2
   | .cnt=>Lv test body n p.2.1 p.2.2
   | .brk=> .ok (.next,p.2)
   | .ret d=> .ok (.ret d,p.2)
  else .ok (.next,ρ,b.2)
noncomputable def HD:Nat:=100000
noncomputable def isLE (ρ:ai) (i:Nat):Bool:=match ρ[i]? with
 | some (some (.lst _))=>true
 | _=>false
noncomputable def oy (ρ:ai) (i:Nat):R (List Dt):=match ρ[i]? with
 | some (some (.lst ds))=> .ok ds
 | _=> .bad
mutual
noncomputable def ex (F:FT):T->ai->Sx->RS
 | .asg i c,ρ,S=>(ev F c ρ S).bind λx=>ae (bu c x.1) (.ok (.next,ρ.set i (some x.1),x.2))
 | .asgM i c,ρ,S=>(ev F c ρ S).bind λx=>ae (iN c x.1) (.ok (.next,ρ.set i (some x.1),x.2))
 | .asgD i c,ρ,S=>(ev F c ρ S).bind λx=>match x.1 with | .lst ds=>(match intsOf ds with | some ns=>ae (decide (lk c=0)&&decide (i < ρ.length)) (.ok (.next,ρ.set i none,some ns)) | none=> .bad) | _=> .bad
 | .mov i j,ρ,S=>(dN ρ j).bind λd=> .ok (.next,(ρ.set j none).set i (some d),S)
 | .asgT is c,ρ,S=>(ev F c ρ S).bind λx=>ae (bu c x.1) ((dU (.tp is) x.1 ρ).bind λρ1=> .ok (.next,ρ1,x.2))
 | .aug i o c,ρ,S=>(dN ρ i).bind λd=>(ev F c ρ S).bind λx=>match d,x.1 with
   | .int _,.int _=>(iK o d x.1).bind λz=> .ok (.next,ρ.set i (some z),x.2)
   | .str _,.str _=>(iK o d x.1).bind λz=> .ok (.next,ρ.set i (some z),x.2)
   | _,_=> .bad
 | .qr i k v,ρ,S=>ae (isLE ρ i) ((ev F v ρ S).bind λx=>(ev F k ρ x.2).bind λy=>ae (bu v x.1) ((oy ρ i).bind λds=>match y.1 with
   | .int n=>(match mF ds.length n with | some j=> .ok (.next,ρ.set i (some (.lst (ds.set j x.1))),y.2) | none=> .bad) | _=> .bad))
 | .Jr i,ρ,S=> .ok (.next,ρ.set i (some (.fg [] [])),S)
 | .dset i k v,ρ,S=>ae (Gh ρ i) ((ev F v ρ S).bind λx=>(ev F k ρ x.2).bind λy=>(dN ρ i).bind λz=>ae (decide (lk v=0)) ((Fs z y.1 x.1).bind λd=> .ok (.next,ρ.set i (some d),y.2)))
 | .app i c,ρ,S=>ae (isLE ρ i) ((ev F c ρ S).bind λx=>ae (bu c x.1) ((oy ρ i).bind λds=>ae (decide (ds.length<=lim)) (.ok (.next,ρ.set i (some (.lst (ds++[x.1]))),x.2))))
 | .xtd i c,ρ,S=>ae (isLE ρ i) ((ev F c ρ S).bind λx=>ae (decide (lk c<=1)) ((oy ρ i).bind λds=>match x.1 with
   | .lst es=>ae (decide (ds.length + es.length<=lim)) (.ok (.next,ρ.set i (some (.lst (ds++es))),x.2)) | .tup es=>ae (decide (ds.length + es.length<=lim)) (.ok (.next,ρ.set i (some (.lst (ds++es))),x.2)) | _=> .bad))
 | .clr i,ρ,S=>(oy ρ i).bind λ_=> .ok (.next,ρ.set i (some (.lst [])),S)
 | .yl c,ρ,S=>(ev F c ρ S).bind λx=> .ok (.next,ρ,x.2)
 | .ret c,ρ,S=>(ev F c ρ S).bind λx=> .ok (.ret x.1,ρ,x.2)
 | .retN,ρ,S=> .ok (.ret .aP,ρ,S)
 | .ifs t a b,ρ,S=>(bV F t ρ S).bind λx=>if x.1 then aT F a ρ x.2 else aT F b ρ x.2
 | .fr tg it b,ρ,S=>(dE F it ρ S).bind λx=>ae (decide (rN it=0)||kB F it ρ S) (forL tg (aT F b) x.1 ρ x.2)
 | .wh t b,ρ,S=>Lv (bV F t) (aT F b) HD ρ S
 | .rs k vs,ρ,S=>ae (vs.all (Gy ρ)) (.ex k)
 | .tr b uC,ρ,S=>ae S.isNone (match aT F b ρ S with | .ex k=>(match uC[k]? with | some (some v)=> .ok (.ret (.bl v),ρ,S) | _=> .bad) | r=>r)
 | .brk,ρ,S=> .ok (.brk,ρ,S)
 | .cnt,ρ,S=> .ok (.cnt,ρ,S)
 | .pas,ρ,S=> .ok (.next,ρ,S)
noncomputable def aT (F:FT):Ts->ai->Sx->RS
 | .nil,ρ,S=> .ok (.next,ρ,S)
 | .cons t ts,ρ,S=>(ex F t ρ S).bind λp=>match p.1 with
  | .next=>aT F ts p.2.1 p.2.2
  | f=> .ok (f,p.2)
end
structure Fn where
 ps:Nat
 n:Nat
 bf:Bool
 body:Ts
noncomputable def fN (F:FT) (f:Fn) (args:List Dt) (S:Sx):R (Dt×Sx):=
 if args.length + (if f.bf then 1 else 0)=f.ps then
  (aT F f.body ((if f.bf then[none] else[])++args.map some++List.replicate (f.n - f.ps) none) S).bind λp=>match p.1 with
   | .next=> .ok (.aP,p.2.2)
   | .ret d=> .ok (d,p.2.2)
   | _=> .bad
 else .bad
noncomputable def aq (fs:List Fn):Nat->FT
 | 0,_,_,_=> .bad
 | n + 1,f,args,S=>match fs[f]? with
  | some g=>fN (aq fs n) g args S
  | none=> .bad
structure G where
 fns:List (Str×Nat×List Dt×Bool)
 cons:List (Str×Dt)
 bls:List Str
 fr:Nat->Bool
 xs:List (Str×List (Str×Bool))
structure Gm where
 names:List (Str×NameKind)
 N:List Str
 M:List Bool
 δ:Option Nat
 κ:Option Nat
noncomputable def xV:Option NameKind->Bool
 | some .local=>true
 | some .cell=>true
 | some .free=>true
 | _=>false
noncomputable def wA:Option NameKind->Bool
 | some .local=>true
 | some .cell=>true
 | _=>false
noncomputable def tF:Option NameKind->Bool
 | some .globalImplicit=>true
 | _=>false
noncomputable def wo (x:Str):List Str->Option Nat
 | []=>none
 | y::r=>if x==y then some 0 else(wo x r).map (· + 1)
theorem ja {x:Str}:∀{l:List Str} {i:Nat},wo x l=some i->l[i]?=some x
 | [],i,h=>by simp[wo] at h
 | y::r,i,h=>by
  unfold wo at h;by_cases e:(x==y)=true
  ·rw[if_pos e] at h;cases h;have:x=y:=by simpa using e
   simp[this]
  ·rw[if_neg e] at h;obtain⟨j,h1,rfl⟩:=PX.mp h;simp[ja h1]
noncomputable def cw (x:Str):Bool:= !(x==("__debug__":Str))&& !(x==("__classdict__":Str))&& !(x==("__name__":Str))
noncomputable def slot (Γ:Gm) (x:Str):Option Nat:=if xV (Γ.names.lookup x)&&cw x then wo x Γ.N else none
noncomputable def ez (Γ:Gm) (x:Str):Option Nat:=if wA (Γ.names.lookup x)&&cw x then wo x Γ.N else none
noncomputable def et (Γ:Gm) (i:Nat):Bool:=Γ.M[i]?==some true
noncomputable def plainS (Γ:Gm) (i:Nat):Bool:= !et Γ i&& !(Γ.δ==some i)
noncomputable def pO (x:Str):List (Str×Nat×List Dt×Bool)->Option (Nat×Nat×List Dt×Bool)
 | []=>none
 | y::r=>if x==y.1 then some (0,y.2) else(pO x r).map λp=>(p.1 + 1,p.2)
noncomputable def u3:List (Str×Nat×BI):=[("len",1,.len),("abs",1,.abs),("sum",1,.sum),("any",1,.any),("all",1,.all),("min",1,.minL),("max",1,.maxL),("sorted",1,.sorted),("tuple",1,.tuple),("list",1,.list),("int",1,.int),("divmod",2,.dvm)]
noncomputable def pC (x:Str) (n:Nat):Option BI:=(u3.find? λt=>t.1==x&&t.2.1==n).map (·.2.2)
noncomputable def qy (x:Str):Option String:=
 if x==("str":Str) then some "str" else if x==("int":Str) then some "int" else if x==("bool":Str) then some "bool"
 else if x==("list":Str) then some "list" else if x==("tuple":Str) then some "tuple" else none
noncomputable def oE (Γ:Gm):Expr->Option Nat
 | .Name x _=>(ez Γ x).bind λi=>if plainS Γ i then some i else none
 | _=>none
noncomputable def fW (Γ:Gm):List Expr->Option (List Nat)
 | []=>some []
 | e::es=>(oE Γ e).bind λi=>(fW Γ es).map (i:: ·)
noncomputable def nP (Γ:Gm):Expr->Option Tg
 | .Name x p=>(oE Γ (.Name x p)).map .nm
 | .Tuple es _ _=>(fW Γ es).map .tp
 | _=>none
noncomputable def Jm (names:List (Str×NameKind)):List Str:=names.filterMap λp=>if xV (some p.2) then some p.1 else none
noncomputable def BW (names:List (Str×NameKind)) (N:List Str):List (Option Nat):=names.filterMap λp=>match p.2 with
 | .local=>some none
 | .free=>some (wo p.1 N)
 | .cell=>some none
 | _=>none
noncomputable def BX (cap:List (Option Nat)) (M:List Bool):List Bool:=cap.map λo=>o.elim false λi=>M[i]?==some true
noncomputable def yz (δ:Option Nat):List (Option Nat)->Option Nat
 | []=>none
 | o::r=>if δ.isSome&&o==δ then some 0 else(yz δ r).map (· + 1)
noncomputable def aY (Γ:Gm) (sc:Scope):Gm×List (Option Nat):=
 let cap:=BW sc.names Γ.N
 (⟨sc.names,Jm sc.names,BX cap Γ.M,yz Γ.δ cap,yz Γ.κ cap⟩,cap)
noncomputable def aU:Tg->List Nat
 | .nm i=>[i]
 | .tp is=>is
noncomputable def u5 (names on:List (Str×NameKind)) (N' Nn:List Str) (cap:List (Option Nat)):Bool:=
 names.all (λy=>names.lookup y.1==some y.2&&(y.2 != .free||(on.lookup y.1==some .cell||on.lookup y.1==some .free)))&&
 (cap.length==N'.length)&&(List.range cap.length).all (λj=>match cap[j]? with
  | some (some i)=>(match N'[j]? with
   | some x=>Nn[i]?==some x&&names.lookup x==some .free
   | none=>false)
  | _=>true)
noncomputable def Ko (Γ:Gm):Expr->Bool
 | .Name x _=>match slot Γ x with
  | some i=>Γ.δ==some i
  | none=>false
 | _=>false
mutual
noncomputable def cE:Nat->G->Gm->Expr->Option C
 | 0,_,_,_=>none
 | n + 1,g,Γ,e=>match e with
  | .Constant k _ _=>match k with
   | .int i=>some (.con (.int i))
   | .str x=>some (.con (.str x))
   | .bool x=>some (.con (.bl x))
   | .none=>some (.con .aP)
   | _=>none
  | .Name x _=>match slot Γ x with
   | some i=>if Γ.δ==some i||Γ.κ==some i then none else if et Γ i then some (.mvr i) else some (.var i)
   | none=>if tF (Γ.names.lookup x)&&cw x then(g.cons.lookup x).map .con else none
  | .BinOp a o b _=>(cE n g Γ a).bind λa'=>(cE n g Γ b).bind λb'=>some (.bin o a' b')
  | .UnaryOp o a _=>(cE n g Γ a).bind λa'=>match o with
   | .USub=>some (.neg a')
   | .Not=>some (.nt a')
   | _=>none
  | .BoolOp o vs _=>cB n g Γ o vs
  | .Compare a os bs _=>match os,bs with
   | [o],[b]=>(cE n g Γ a).bind λa'=>(cE n g Γ b).bind λb'=>some (.cmp o a' b')
   | _,_=>none
  | .Subscript a b _=>match b with
   | .Slice (some l) none none _=>(cE n g Γ a).bind λa'=>(cE n g Γ l).bind λl'=>some (.sliL a' l')
   | .Slice none (some h) none _=>(cE n g Γ a).bind λa'=>(cE n g Γ h).bind λh'=>some (.sliH a' h')
   | b=>(cE n g Γ a).bind λa'=>(cE n g Γ b).bind λb'=>some (.idx a' b')
  | .Tuple es _ _=>(u9 n g Γ es).bind λfJ=>some (.tup fJ)
  | .List es _=>(u9 n g Γ es).bind λfJ=>some (.lst fJ)
  | .Call f as ks pos=>match f,as,ks with
   | .Name f _,a::as,[]=>qM n g Γ f a as
   | _,_,_=>none
  | .ListComp elt gens sc _=>
   let b:=aY Γ sc
   if sc.kind== .function then(match gens with
   | [⟨tg,it,ifs,0⟩]=>(cI n g Γ tg it).bind λi9=>(nP b.1 tg).bind λkf=>(za n g b.1 ifs).bind λnr=>(cE n g b.1 elt).bind λe'=>
    if u5 sc.names Γ.names b.1.N Γ.N b.2&&decide b.1.N.Nodup then some (.comp b.2 i9 kf nr e') else none
   | [⟨tg,it,ifs,0⟩,⟨iB,fL,bX,0⟩]=>(cI n g Γ tg it).bind λi9=>(nP b.1 tg).bind λkf=>(za n g b.1 ifs).bind λnr=>(cI n g b.1 iB fL).bind λoj=>(nP b.1 iB).bind λkg=>(za n g b.1 bX).bind λoX=>(cE n g b.1 elt).bind λe'=>
    if u5 sc.names Γ.names b.1.N Γ.N b.2&&decide b.1.N.Nodup&&(aU kg).all (λi=> !(aU kf).contains i) then some (.fH b.2 i9 kf nr oj kg oX e') else none
   | _=>none) else none
  | _=>none
noncomputable def u9:Nat->G->Gm->List Expr->Option Cs
 | 0,_,_,_=>none
 | n + 1,g,Γ,es=>match es with
  | []=>some .nil
  | e::es=>(cE n g Γ e).bind λe'=>(u9 n g Γ es).bind λfJ=>some (.cons e' fJ)
noncomputable def za:Nat->G->Gm->List Expr->Option Cs
 | 0,_,_,_=>none
 | n + 1,g,Γ,es=>match es with
  | []=>some .nil
  | [e]=>(cE n g Γ e).bind λe'=>some (.cons e' .nil)
  | _=>none
noncomputable def cB:Nat->G->Gm->BoolOp->List Expr->Option C
 | 0,_,_,_,_=>none
 | n + 1,g,Γ,o,es=>match es with
  | [e]=>cE n g Γ e
  | e::es=>(cE n g Γ e).bind λe'=>(cB n g Γ o es).bind λfJ=>some (match o with | .And=> .and e' fJ | .Or=> .or e' fJ)
  | []=>none
noncomputable def cI:Nat->G->Gm->Expr->Expr->Option lK
 | 0,_,_,_,_=>none
 | n + 1,g,Γ,tg,e=>match e with
  | .Call (.Name f p) [a] [] q=>if f==("range":Str) then(if tF (Γ.names.lookup f)&&g.bls.contains f then(cE n g Γ a).bind λa'=>some (.rng1 a') else none)
   else(cE n g Γ (.Call (.Name f p) [a] [] q)).bind λc=>some (.seq c)
  | .Call (.Name f p) [a,b] [] q=>if f==("range":Str) then(if tF (Γ.names.lookup f)&&g.bls.contains f then none else none)
   else if f==("zip":Str) then(match tg with
    | .Tuple ..=>if tF (Γ.names.lookup f)&&g.bls.contains f then(cE n g Γ a).bind λa'=>(cE n g Γ b).bind λb'=>some (.zip a' b') else none
    | _=>none)
   else(cE n g Γ (.Call (.Name f p) [a,b] [] q)).bind λc=>some (.seq c)
  | e=>(cE n g Γ e).bind λc=>some (.seq c)
noncomputable def qM:Nat->G->Gm->Str->Expr->List Expr->Option C
 | 0,_,_,_,_,_=>none
 | n + 1,g,Γ,f,a,as=>if tF (Γ.names.lookup f)&&cw f then(match pO f g.fns with
  | some (k,np,eQ,bf)=>if bf then(match a with
    | .Name x _=>match slot Γ x with
     | some i=>if Γ.δ==some i&&as.length + 1==np then none else none
     | none=>none
    | _=>none)
   else if as.length + 1<=np&&np - (as.length + 1)<=eQ.length then(u9 n g Γ (a::as)).bind λes=>some (.call k es (eQ.drop (eQ.length - (np - (as.length + 1))))) else none
  | none=>if g.bls.contains f then
    (if f==("len":Str)&&Ko Γ a&&as.isEmpty then none
    else if f==("isinstance":Str) then(match as with
     | [.Name t _]=>if tF (Γ.names.lookup t)&&g.bls.contains t then(qy t).bind λT=>(cE n g Γ a).bind λa'=>some (.bi (.isi T) (.cons a' .nil)) else none
     | _=>none)
    else match a,as with
     | .Call (.Name r _) [b] [] _,[]=>if r==("reversed":Str) then none
       else if r==("set":Str) then none
       else(pC f (as.length + 1)).bind λi=>(u9 n g Γ (a::as)).bind λes=>some (.bi i es)
     | .Call (.Name r _) [b,c] [] _,[]=>if r==("zip":Str) then none
       else(pC f (as.length + 1)).bind λi=>(u9 n g Γ (a::as)).bind λes=>some (.bi i es)
     | _,_=>(pC f (as.length + 1)).bind λi=>(u9 n g Γ (a::as)).bind λes=>some (.bi i es))
    else none)
  else none
end
section
variable {P:Program} {w:World} {K:Frag} {A B:Addr->Prop} {H:Hp} {s:Shared}
theorem elts (hok:d4 P w H s.heap) {yD gi:List V} {i1 i2:List Dt} {fA aI:List Value} {R:Around} {n:Nat} (g1:ak K A H yD i1) (g2:ak K B H gi i2) (r1:au yD fA) (r2:au gi aI) (l1:fA.toArray.size=i1.length) (l2:aI.toArray.size=i2.length)
  (p1:lA i1=true) (p2:lA i2=true) (hd:pK i1<=n) (hu:R.in1.units + n < cLine) (j:Nat) (h1:j < fA.toArray.size) (h2:j < aI.toArray.size):EqAt R.in1 s fA.toArray[j] aI.toArray[j] (sE i1 i2 j):=by
 have kY:j < yD.length:=by rw[g1.length,<-l1];exact h1
 have kn:j < gi.length:=by rw[g2.length,<-l2];exact h2
 obtain⟨d,c1,c2⟩:=g1.get (i:=j) (x:=yD[j]) (by simp[kY]);obtain⟨e,k1,k2⟩:=g2.get (i:=j) (x:=gi[j]) (by simp[kn]);obtain⟨u,zy,ru⟩:=r1.get (i:=j) (x:=yD[j]) (by simp[kY]);obtain⟨v,CH,rv⟩:=r2.get (i:=j) (x:=gi[j]) (by simp[kn]);have eu:fA.toArray[j]=u:=by simp only[List.getElem_toArray];exact(Pz.mp zy).2
 have ev:aI.toArray[j]=v:=by simp only[List.getElem_toArray];exact(Pz.mp CH).2
 rw[eu,ev,show sE i1 i2 j=bP d e by unfold sE;rw[c1,k1]];exact A4 hok n d e yD[j] gi[j] u v R.in1 (PP (jA c1) hd) (dy p1 c1) (dy p2 k1) hu c2 k2 ru rv
theorem G1 (hok:d4 P w H s.heap) (n:Nat) (d e:Dt) (x y:V) (u v:Value) (R:Around) (hd:dp d<=n + 1) (i7:pl d=true) (eE:pl e=true) (hu:R.units + n + 1 < cLine) (hx:RV K A H x d) (hy:RV K B H y e) (rx:RelV x u) (ry:RelV y v):RcAt R s u v (bP d e):=by
 cases d with
 | aP=>
  have:=hx.ax;subst this;cases rx;cases e with
  | aP=>have:=hy.ax;subst this;cases ry;exact RcAt.none_none
  | bl i2=>have:=hy.aw;subst this;cases ry;exact RcAt.none_bool i2
  | int i2=>have:=hy.int_inv;subst this;obtain⟨t2,rfl⟩:=ry;exact RcAt.none_int i2 t2
  | str i2=>have:=hy.str_inv;subst this;obtain⟨t2,rfl⟩:=ry;exact RcAt.none_str i2 t2
  | tup i2=>obtain⟨a2,gi,q2,f2,g2⟩:=hy.af;subst q2;cases ry;obtain⟨aI,r2,bR⟩:=Mx.ar hok f2;exact RcAt.none_tuple bR (by lia)
  | lst i2=>obtain⟨a2,gi,q2,f2,_,g2⟩:=hy.lst_inv;subst q2;cases ry;obtain⟨aI,r2,bR⟩:=aN hok f2;exact RcAt.none_list bR (by lia)
  | _=>simp[pl] at eE
 | bl i1=>
  have:=hx.aw;subst this;cases rx;cases e with
  | aP=>have:=hy.ax;subst this;cases ry;exact RcAt.bool_none i1
  | bl i2=>have:=hy.aw;subst this;cases ry;exact RcAt.bool_bool i1 i2
  | int i2=>have:=hy.int_inv;subst this;obtain⟨t2,rfl⟩:=ry;exact RcAt.bool_int i1 i2 t2
  | str i2=>have:=hy.str_inv;subst this;obtain⟨t2,rfl⟩:=ry;exact RcAt.bool_str i1 i2 t2
  | tup i2=>obtain⟨a2,gi,q2,f2,g2⟩:=hy.af;subst q2;cases ry;obtain⟨aI,r2,bR⟩:=Mx.ar hok f2;exact RcAt.bool_tuple i1 bR (by lia)
  | lst i2=>obtain⟨a2,gi,q2,f2,_,g2⟩:=hy.lst_inv;subst q2;cases ry;obtain⟨aI,r2,bR⟩:=aN hok f2;exact RcAt.bool_list i1 bR (by lia)
  | _=>simp[pl] at eE
 | int i1=>
  have:=hx.int_inv;subst this;obtain⟨t1,rfl⟩:=rx;cases e with
  | aP=>have:=hy.ax;subst this;cases ry;exact RcAt.int_none i1 t1
  | bl i2=>have:=hy.aw;subst this;cases ry;exact RcAt.int_bool i1 t1 i2
  | int i2=>have:=hy.int_inv;subst this;obtain⟨t2,rfl⟩:=ry;exact RcAt.int_int i1 t1 i2 t2
  | str i2=>have:=hy.str_inv;subst this;obtain⟨t2,rfl⟩:=ry;exact RcAt.int_str i1 t1 i2 t2
  | tup i2=>obtain⟨a2,gi,q2,f2,g2⟩:=hy.af;subst q2;cases ry;obtain⟨aI,r2,bR⟩:=Mx.ar hok f2;exact RcAt.int_tuple i1 t1 bR (by lia)
  | lst i2=>obtain⟨a2,gi,q2,f2,_,g2⟩:=hy.lst_inv;subst q2;cases ry;obtain⟨aI,r2,bR⟩:=aN hok f2;exact RcAt.int_list i1 t1 bR (by lia)
  | _=>simp[pl] at eE
 | str i1=>
  have:=hx.str_inv;subst this;obtain⟨t1,rfl⟩:=rx;cases e with
  | aP=>have:=hy.ax;subst this;cases ry;exact RcAt.str_none i1 t1
  | bl i2=>have:=hy.aw;subst this;cases ry;exact RcAt.str_bool i1 t1 i2
  | int i2=>have:=hy.int_inv;subst this;obtain⟨t2,rfl⟩:=ry;exact RcAt.str_int i1 t1 i2 t2
  | str i2=>have:=hy.str_inv;subst this;obtain⟨t2,rfl⟩:=ry;exact RcAt.str_str i1 t1 i2 t2
  | tup i2=>obtain⟨a2,gi,q2,f2,g2⟩:=hy.af;subst q2;cases ry;obtain⟨aI,r2,bR⟩:=Mx.ar hok f2;exact RcAt.str_tuple i1 t1 bR (by lia)
  | lst i2=>obtain⟨a2,gi,q2,f2,_,g2⟩:=hy.lst_inv;subst q2;cases ry;obtain⟨aI,r2,bR⟩:=aN hok f2;exact RcAt.str_list i1 t1 bR (by lia)
  | _=>simp[pl] at eE
 | tup i1=>
  obtain⟨a1,yD,q1,f1,g1⟩:=hx.af;subst q1;cases rx;obtain⟨fA,r1,gC⟩:=Mx.ar hok f1;cases e with
  | aP=>have:=hy.ax;subst this;cases ry;exact RcAt.tuple_none gC (by lia)
  | bl i2=>have:=hy.aw;subst this;cases ry;exact RcAt.tuple_bool i2 gC (by lia)
  | int i2=>have:=hy.int_inv;subst this;obtain⟨t2,rfl⟩:=ry;exact RcAt.tuple_int i2 t2 gC (by lia)
  | str i2=>have:=hy.str_inv;subst this;obtain⟨t2,rfl⟩:=ry;exact RcAt.tuple_str i2 t2 gC (by lia)
  | tup i2=>
   obtain⟨a2,gi,q2,f2,g2⟩:=hy.af;subst q2;cases ry;obtain⟨aI,r2,bR⟩:=Mx.ar hok f2;have l1:fA.toArray.size=i1.length:=by rw[Px,<-r1.length,g1.length]
   have l2:aI.toArray.size=i2.length:=by rw[Px,<-r2.length,g2.length]
   have key:=RcAt.tuples (A:=R) (e:=sE i1 i2) gC bR (by lia) (elts hok g1 g2 r1 r2 l1 l2 (by simpa [pl] using i7) (by simpa [pl] using eE) (n:=n) (by unfold dp at hd;lia) (by show R.units + 1 + n < cLine;lia));have q:=cn i1 i2;rw[<-l1,<-l2] at q;rw[q] at key;exact key
  | lst i2=>obtain⟨a2,gi,q2,f2,_,g2⟩:=hy.lst_inv;subst q2;cases ry;obtain⟨aI,r2,bR⟩:=aN hok f2;exact RcAt.tuple_list gC bR (by lia)
  | _=>simp[pl] at eE
 | lst i1=>
  obtain⟨a1,yD,q1,f1,_,g1⟩:=hx.lst_inv;subst q1;cases rx;obtain⟨fA,r1,gC⟩:=aN hok f1;cases e with
  | aP=>have:=hy.ax;subst this;cases ry;exact RcAt.list_none gC (by lia)
  | bl i2=>have:=hy.aw;subst this;cases ry;exact RcAt.list_bool i2 gC (by lia)
  | int i2=>have:=hy.int_inv;subst this;obtain⟨t2,rfl⟩:=ry;exact RcAt.list_int i2 t2 gC (by lia)
  | str i2=>have:=hy.str_inv;subst this;obtain⟨t2,rfl⟩:=ry;exact RcAt.list_str i2 t2 gC (by lia)
  | tup i2=>obtain⟨a2,gi,q2,f2,g2⟩:=hy.af;subst q2;cases ry;obtain⟨aI,r2,bR⟩:=Mx.ar hok f2;exact RcAt.list_tuple gC bR (by lia)
  | lst i2=>
   obtain⟨a2,gi,q2,f2,_,g2⟩:=hy.lst_inv;subst q2;cases ry;obtain⟨aI,r2,bR⟩:=aN hok f2;have l1:fA.toArray.size=i1.length:=by rw[Px,<-r1.length,g1.length]
   have l2:aI.toArray.size=i2.length:=by rw[Px,<-r2.length,g2.length]
   have q:=cn i1 i2;by_cases hl:i1.length=i2.length
   ·have key:=RcAt.lists (A:=R) (e:=sE i1 i2) gC bR (by lia) (by lia) (elts hok g1 g2 r1 r2 l1 l2 (by simpa [pl] using i7) (by simpa [pl] using eE) (n:=n) (by unfold dp at hd;lia) (by show R.units + 1 + n < cLine;lia));rw[hl,Nat.min_self,beq_self_eq_true,Bool.and_true] at q;rw[l1,hl,q] at key;exact key
   ·have key:=RcAt.lists_lengths (A:=R) gC bR (by rw[l1,l2];simpa using hl) (by lia);have hb:(i1.length==i2.length)=false:=by simpa using hl
    rw[hb,Bool.and_false] at q;show RcAt R s _ _ (b8 i1 i2);rw[<-q];exact key
  | _=>simp[pl] at eE
 | _=>simp[pl] at i7
theorem Au (hok:d4 P w H s.heap) (n:Nat) (d e:Dt) (x y:V) (u v:Value) (R:Around) (hd:dp d<=n + 1) (i7:pl d=true) (eE:pl e=true) (hu:R.units + n + 1 < cLine) (hx:RV K A H x d) (hy:RV K B H y e) (rx:RelV x u) (ry:RelV y v):RcNeAt R s u v (!bP d e):=by
 cases d with
 | aP=>
  have:=hx.ax;subst this;cases rx;cases e with
  | aP=>have:=hy.ax;subst this;cases ry;exact RcNeAt.none_none
  | bl i2=>have:=hy.aw;subst this;cases ry;exact RcNeAt.none_bool i2
  | int i2=>have:=hy.int_inv;subst this;obtain⟨t2,rfl⟩:=ry;exact RcNeAt.none_int i2 t2
  | str i2=>have:=hy.str_inv;subst this;obtain⟨t2,rfl⟩:=ry;exact RcNeAt.none_str i2 t2
  | tup i2=>obtain⟨a2,gi,q2,f2,g2⟩:=hy.af;subst q2;cases ry;obtain⟨aI,r2,bR⟩:=Mx.ar hok f2;exact RcNeAt.none_tuple bR (by lia)
  | lst i2=>obtain⟨a2,gi,q2,f2,_,g2⟩:=hy.lst_inv;subst q2;cases ry;obtain⟨aI,r2,bR⟩:=aN hok f2;exact RcNeAt.none_list bR (by lia)
  | _=>simp[pl] at eE
 | bl i1=>
  have:=hx.aw;subst this;cases rx;cases e with
  | aP=>have:=hy.ax;subst this;cases ry;exact RcNeAt.bool_none i1
  | bl i2=>have:=hy.aw;subst this;cases ry;exact RcNeAt.bool_bool i1 i2
  | int i2=>have:=hy.int_inv;subst this;obtain⟨t2,rfl⟩:=ry;exact RcNeAt.bool_int i1 i2 t2
  | str i2=>have:=hy.str_inv;subst this;obtain⟨t2,rfl⟩:=ry;exact RcNeAt.bool_str i1 i2 t2
  | tup i2=>obtain⟨a2,gi,q2,f2,g2⟩:=hy.af;subst q2;cases ry;obtain⟨aI,r2,bR⟩:=Mx.ar hok f2;exact RcNeAt.bool_tuple i1 bR (by lia)
  | lst i2=>obtain⟨a2,gi,q2,f2,_,g2⟩:=hy.lst_inv;subst q2;cases ry;obtain⟨aI,r2,bR⟩:=aN hok f2;exact RcNeAt.bool_list i1 bR (by lia)
  | _=>simp[pl] at eE
 | int i1=>
  have:=hx.int_inv;subst this;obtain⟨t1,rfl⟩:=rx;cases e with
  | aP=>have:=hy.ax;subst this;cases ry;exact RcNeAt.int_none i1 t1
  | bl i2=>have:=hy.aw;subst this;cases ry;exact RcNeAt.int_bool i1 t1 i2
  | int i2=>have:=hy.int_inv;subst this;obtain⟨t2,rfl⟩:=ry;exact RcNeAt.int_int i1 t1 i2 t2
  | str i2=>have:=hy.str_inv;subst this;obtain⟨t2,rfl⟩:=ry;exact RcNeAt.int_str i1 t1 i2 t2
  | tup i2=>obtain⟨a2,gi,q2,f2,g2⟩:=hy.af;subst q2;cases ry;obtain⟨aI,r2,bR⟩:=Mx.ar hok f2;exact RcNeAt.int_tuple i1 t1 bR (by lia)
  | lst i2=>obtain⟨a2,gi,q2,f2,_,g2⟩:=hy.lst_inv;subst q2;cases ry;obtain⟨aI,r2,bR⟩:=aN hok f2;exact RcNeAt.int_list i1 t1 bR (by lia)
  | _=>simp[pl] at eE
 | str i1=>
  have:=hx.str_inv;subst this;obtain⟨t1,rfl⟩:=rx;cases e with
  | aP=>have:=hy.ax;subst this;cases ry;exact RcNeAt.str_none i1 t1
  | bl i2=>have:=hy.aw;subst this;cases ry;exact RcNeAt.str_bool i1 t1 i2
  | int i2=>have:=hy.int_inv;subst this;obtain⟨t2,rfl⟩:=ry;exact RcNeAt.str_int i1 t1 i2 t2
  | str i2=>have:=hy.str_inv;subst this;obtain⟨t2,rfl⟩:=ry;exact RcNeAt.str_str i1 t1 i2 t2
  | tup i2=>obtain⟨a2,gi,q2,f2,g2⟩:=hy.af;subst q2;cases ry;obtain⟨aI,r2,bR⟩:=Mx.ar hok f2;exact RcNeAt.str_tuple i1 t1 bR (by lia)
  | lst i2=>obtain⟨a2,gi,q2,f2,_,g2⟩:=hy.lst_inv;subst q2;cases ry;obtain⟨aI,r2,bR⟩:=aN hok f2;exact RcNeAt.str_list i1 t1 bR (by lia)
  | _=>simp[pl] at eE
 | tup i1=>
  obtain⟨a1,yD,q1,f1,g1⟩:=hx.af;subst q1;cases rx;obtain⟨fA,r1,gC⟩:=Mx.ar hok f1;cases e with
  | aP=>have:=hy.ax;subst this;cases ry;exact RcNeAt.tuple_none gC (by lia)
  | bl i2=>have:=hy.aw;subst this;cases ry;exact RcNeAt.tuple_bool i2 gC (by lia)
  | int i2=>have:=hy.int_inv;subst this;obtain⟨t2,rfl⟩:=ry;exact RcNeAt.tuple_int i2 t2 gC (by lia)
  | str i2=>have:=hy.str_inv;subst this;obtain⟨t2,rfl⟩:=ry;exact RcNeAt.tuple_str i2 t2 gC (by lia)
  | tup i2=>
   obtain⟨a2,gi,q2,f2,g2⟩:=hy.af;subst q2;cases ry;obtain⟨aI,r2,bR⟩:=Mx.ar hok f2;have l1:fA.toArray.size=i1.length:=by rw[Px,<-r1.length,g1.length]
   have l2:aI.toArray.size=i2.length:=by rw[Px,<-r2.length,g2.length]
   have key:=RcNeAt.tuples (A:=R) (e:=sE i1 i2) gC bR (by lia) (elts hok g1 g2 r1 r2 l1 l2 (by simpa [pl] using i7) (by simpa [pl] using eE) (n:=n) (by unfold dp at hd;lia) (by show R.units + 1 + n < cLine;lia));have q:=cn i1 i2;rw[<-l1,<-l2] at q;rw[q] at key;exact key
  | lst i2=>obtain⟨a2,gi,q2,f2,_,g2⟩:=hy.lst_inv;subst q2;cases ry;obtain⟨aI,r2,bR⟩:=aN hok f2;exact RcNeAt.tuple_list gC bR (by lia)
  | _=>simp[pl] at eE
 | lst i1=>
  obtain⟨a1,yD,q1,f1,_,g1⟩:=hx.lst_inv;subst q1;cases rx;obtain⟨fA,r1,gC⟩:=aN hok f1;cases e with
  | aP=>have:=hy.ax;subst this;cases ry;exact RcNeAt.list_none gC (by lia)
  | bl i2=>have:=hy.aw;subst this;cases ry;exact RcNeAt.list_bool i2 gC (by lia)
  | int i2=>have:=hy.int_inv;subst this;obtain⟨t2,rfl⟩:=ry;exact RcNeAt.list_int i2 t2 gC (by lia)
  | str i2=>have:=hy.str_inv;subst this;obtain⟨t2,rfl⟩:=ry;exact RcNeAt.list_str i2 t2 gC (by lia)
  | tup i2=>obtain⟨a2,gi,q2,f2,g2⟩:=hy.af;subst q2;cases ry;obtain⟨aI,r2,bR⟩:=Mx.ar hok f2;exact RcNeAt.list_tuple gC bR (by lia)
  | lst i2=>
   obtain⟨a2,gi,q2,f2,_,g2⟩:=hy.lst_inv;subst q2;cases ry;obtain⟨aI,r2,bR⟩:=aN hok f2;have l1:fA.toArray.size=i1.length:=by rw[Px,<-r1.length,g1.length]
   have l2:aI.toArray.size=i2.length:=by rw[Px,<-r2.length,g2.length]
   have q:=cn i1 i2;by_cases hl:i1.length=i2.length
   ·have key:=RcNeAt.lists (A:=R) (e:=sE i1 i2) gC bR (by lia) (by lia) (elts hok g1 g2 r1 r2 l1 l2 (by simpa [pl] using i7) (by simpa [pl] using eE) (n:=n) (by unfold dp at hd;lia) (by show R.units + 1 + n < cLine;lia));rw[hl,Nat.min_self,beq_self_eq_true,Bool.and_true] at q;rw[l1,hl,q] at key;exact key
   ·have key:=RcNeAt.lists_lengths (A:=R) gC bR (by rw[l1,l2];simpa using hl) (by lia);have hb:(i1.length==i2.length)=false:=by simpa using hl
    rw[hb,Bool.and_false] at q;show RcNeAt R s _ _ (!b8 i1 i2);rw[<-q];exact key
  | _=>simp[pl] at eE
 | _=>simp[pl] at i7
end
end Rx
end
section
namespace Mx
open PySem PySem.Spec PyProof.Rows L2 PySem.SeqAt
theorem oB:fillsNumberSlot (.type "tuple") "mul"=pure false:=
 PySem.fillsNumberSlot_seq (id:="tuple.__mul__") (r:=some (.builtin "tuple.__rmul__")) PySem.F.slot_tuple_mul.lookup (by decide +kernel) PySem.F.slot_tuple_rmul.lookup (by decide +kernel)
theorem ud:seqRepeat? (.type "tuple")=pure (some (.builtin "tuple.__mul__")):=by unfold seqRepeat?;rw[PySem.seqSlot_of (T:="tuple") (name:="__mul__") (id:="tuple.__mul__") PySem.F.slot_tuple_mul.lookup (by decide +kernel),PySem.seqSlot_of (T:="tuple") (name:="__rmul__") (id:="tuple.__rmul__") PySem.F.slot_tuple_rmul.lookup (by decide +kernel)];rfl
theorem xl (a:Int) (t:Tok) (l:Addr) (its:Array Value) (n:Nat):
  Meets (Builtin.«int.__rmul__» ⟨[.int a t,.ref l],[]⟩) (λ_ R s=>s.heap.get? l=some {cls:= .type "tuple",dict:=none,data:= .seq its n,slots:=#[]}/\R (.ok (.ret Value.notImplemented)) s):=
 .of_wp λprog w A R s h=>by obtain⟨hp,g,d,tk,os⟩:=s;obtain⟨hl,h⟩:=h;wp_walk;exact⟨_,rfl,h⟩
theorem AE (l:Addr) (its:List Value) (n:Nat) (k:Int) (u:Tok) (h1: -(2 ^ 63)<=k) (h2:k < 2 ^ 63) (hz:its.length * k.toNat<=sizeLine):
  Meets (Builtin.«tuple.__mul__» ⟨[.ref l,.int k u],[]⟩) (λ_ R s=>s.heap.get? l=some {cls:= .type "tuple",dict:=none,data:= .seq its.toArray n,slots:=#[]}/\
   ((its=[]\/k=1)->R (.ok (.ret (.ref l))) s)/\(¬(its=[]\/k=1)->R (.ok (.ret (Value.ref s.heap.objs.size))) {s with heap:=s.heap.push {cls:= .type "tuple",data:= .seq (List.replicate k.toNat its).flatten.toArray}})):=
 .of_wp λprog w A R s h=>by
  obtain⟨hp,g,d,tk,os⟩:=s;obtain⟨hl,q1,q2⟩:=h;have hT:(⟨hp,g,d,tk,os⟩:Shared).TypeIs (.ref l) "tuple":=⟨_,hl,rfl⟩
  wp_walk
  rw[if_neg (by simp only[Qo,decide_eq_true_eq];lia)];dsimp only;refine Pr (tupleItemsOf_ ⟨_,hl,rfl,n,rfl⟩ ?_);have e1:(its.toArray.isEmpty||k==1)=decide (its=[]\/k=1):=by
   cases its with
   | nil=>simp
   | cons a r=>rw[Bool.eq_iff_iff];simp
  rw[e1];by_cases hc:its=[]\/k=1
  ·rw[Qc hc,if_pos rfl];unfold Builtin.Tuple.tupleIsExact;refine Pr (Pr (wpAny_typeOf hT (Pv ?_)));rw[if_pos (by rfl)];exact Pr (wpAny_rule (Pv ⟨_,rfl,q1 hc⟩))
  ·rw[P8 hc,if_neg (by simp)];have gg:its≠[]:=λz=>hc (.inl z)
   have he:its.toArray.isEmpty=false:=by cases its with | nil=>exact absurd rfl gg | cons a r=>rfl
   rw[he,Bool.or_false];by_cases hk:k<=0
   ·rw[Qc hk,if_pos rfl];have k0:k.toNat=0:=by lia
    rw[k0] at q2;exact Pr (wpAny_newObj_type (Pv ⟨_,rfl,q2 hc⟩))
   ·rw[P8 hk,if_neg (by simp)];have L6:(its.toArray.size:Int) * k=((its.length * k.toNat:Nat):Int):=by rw[Px,Int.natCast_mul,Int.toNat_of_nonneg (by lia)]
    have zx:=sizeLine_eq;rw[if_neg (by rw[L6];lia)];unfold Builtin.Tuple.tupleTooMany;rw[if_neg (by rw[L6];intro z;have:=Py z;lia)];have Ct:List.foldl (λx1 x2=>x1++x2) #[] (List.replicate k.toNat its.toArray)=(List.replicate k.toNat its).flatten.toArray:=by have:=foldl_rep its k.toNat [];rw[List.nil_append] at this;exact this
    rw[Ct];refine Pr (wpAny_newObj_type (Pv ⟨_,rfl,q2 hc⟩) ?_);show (List.replicate k.toNat its).flatten.toArray.size<=sizeLine;rw[Px,len_rep,Nat.mul_comm];exact hz
section
variable {X:Cx}
noncomputable def G0:R2:=λx y H Q=>∃l k xs,x= .ref l/\y= .int k/\H l=some (.tup xs)/\ -(2 ^ 63)<=k/\k < 2 ^ 63/\xs.length * k.toNat<=sizeLine/\
 ((xs=[]\/k=1)->Q (.ref l) H)/\∀p,H p=none->Q (.ref p) (upd H p (.tup (List.replicate k.toNat xs).flatten))
theorem Aa:iE X (binaryOp .Mult) G0:=by
 intro pins s σ H x y v u Q I rx ry h;obtain⟨l,k,xs,rfl,rfl,hH,h1,h2,hz,q1,q2⟩:=h;cases rx;obtain⟨t,rfl⟩:=ry;obtain⟨z,its,r,⟨c,dd,dt,sl⟩,e,w1,n,w2,w3,w4⟩:=(show bB X.prog X.w H s.heap l (.tup xs) from I.hok l _ hH);simp only at w1 w2 w3 w4;subst w1 w2 w3 w4;have hl:=r.length;refine wpAny_binaryOp_repeat_ref (T:="tuple") (U:="int") (by decide) ⟨_,e,rfl⟩ (λs'=>typeIs_int s' k t) oB F.fills_int_mul F.slot_int_rmul ud F.slot_int_index.lookup
  (call_meets F.slot_int_rmul (typeIs_int s k t) F.entry_int_rmul (F.args_int_rmul_2 _ _) (xl k t l its.toArray n)
   ⟨e,rfl,⟨_,e,rfl⟩,call_meets PySem.F.slot_tuple_mul ⟨_,e,rfl⟩ PySem.F.entry_tuple_mul (PySem.F.args_tuple_mul_2 _ _) (AE l its n k t h1 h2 (by rw[<-hl];exact hz)) ⟨e,λhc=>?_,λhc=>?_⟩⟩)
 ·refine⟨.ref l,H,I,rfl,q1 (hc.imp (λz=>?_) id)⟩;subst z;cases r;rfl
 ·exact⟨.ref s.heap.objs.size,_,I.laid (t':=s.toks) (o:= .tup (List.replicate k.toNat xs).flatten) (λb o q=>Pu _ q) (PF _) ⟨by rw[len_rep,Nat.mul_comm];exact hz,_,r.rep k.toNat,kz.new _ _⟩,rfl,q2 _ (I.hok.fresh (PF _))⟩
theorem lW:ck X (.builtin "divmod") (λxs H Q=>∃i j,xs=[.int i,.int j]/\j≠0/\j.natAbs.log2 < 9000/\∀p,H p=none->Q (.ref p) (upd H p (.tup [.int (i.fdiv j),.int (i.fmod j)]))):=by intro pins s σ H xs us Q I r h;obtain⟨i,j,rfl,h1,h2,q⟩:=h;obtain⟨u,w',rfl,⟨t,rfl⟩,⟨t',rfl⟩⟩:=r.two;refine divmod_int h1 ?_ (.inl (PyProof.noPylong_of_log2 h2));refine⟨.ref s.heap.objs.size,_,?_,rfl,q _ (I.hok.fresh (PF _))⟩;exact I.laid (λb o e=>Pu _ e) (PF _) ⟨by simp only[P0,List.length_nil];rw[sizeLine_eq];decide,[.int (i.fdiv j) s.toks,.int (i.fmod j) (s.toks + 1)],.cons ⟨_,rfl⟩ (.cons ⟨_,rfl⟩ .nil),kz.new _ _⟩
theorem sY (hc:X.calm=true):ck X (.builtin "sum") (λxs H Q=>∃(l:Addr) (ns:List Int),xs=[.ref l]/\H l=some (.tup (ns.map V.int))/\Q (.int ns.sum) H):=by
 intro pins s σ H xs us Q I r h;obtain⟨l,ns,rfl,hq,q⟩:=h;obtain⟨u,rfl,ru⟩:=r.one;cases ru;obtain⟨_,its,rv,tn⟩:=(show bB X.prog X.w H s.heap l (.tup (ns.map V.int)) from I.hok l _ hq);have hl:its.length=ns.length:=by rw[<-rv.length];simp
 have ht:s.heap.IsTuple l its.toArray:=tn.is;have cJ:l < s.heap.objs.size:=tn.is.lt;refine call_sum_walkG (wpAny_pyIter_tuple ht ?_);refine⟨s.heap.objs.size,_,_,_,_,_,λi=>ns.getD i 0,rfl,Walks.tuple (A:=X.A.in1) (I.ok.hd hc) s.heap.objs.size l (Qe cJ) its.toArray,⟨⟨_,PJ _ rfl,rfl,rfl⟩,ht.push _⟩,λb hb=>?_,λi v hv=>?_,λh' tk t' hk=>?_⟩
 ·rcases PQ.mp hb with rfl | hb
  ·exact PN (PJ _ rfl)
  ·obtain rfl:=Qh.mp hb;exact Nat.lt_trans cJ (PN (PJ _ rfl))
 ·have zA:its.toArray[i]?=some v:=hv;exact int_at rv (by simpa using zA)
 ·refine⟨.int _,H,I.kept λb o e=>hk b o (λz=>Nat.lt_irrefl _ ((Qh.mp z)▸PN e)) (Pu _ e),⟨t',rfl⟩,?_⟩;rw[show its.toArray.size=ns.length by simp[hl],mO,List.take_length];exact q
end
end Mx
end
section
namespace HT
open PySem PyProof.Rows
section
variable {prog:Program} {w:World} {A:Around} {E:Value->Shared->Prop} {s:Shared}
theorem fz {t sl:Addr} {items:Array Value} {vl vu:Value} {lo hi:Option Int} {Q:Value->Shared->Prop} (ht:IsTup s.heap t items) (hs:s.heap.IsSliceOf sl vl vu .none) (pl:IsPart vl lo) (pu:IsPart vu hi)
  (hw:bF items.size 0 lo=0/\bF items.size items.size hi=items.size) (h:Q (.ref t) s) (fU:items.size<=sizeLine):wpAny (model prog w) A (getItem (.ref t) (.ref sl)) Q E s:=by
 obtain⟨os,Cz,uy,FW⟩:=id hs;have JR:s.TypeIs (.ref sl) "slice":=⟨os,Cz,uy⟩;unfold getItem
 try with_reducible refine wpAny_holding ?_
 first | refine Pr (Pv ?_) | skip
 refine Pr (wpAny_sequenceKey ht.typeIs (by decide) ?_);refine Pr (wpAny_callSpecial?_slot (name:=Str.ofString "__getitem__") ht.typeIs PyProof.Rows.slot_tuple_getitem
  (wpAny_call_entry PyProof.Rows.slot_tuple_getitem ht.typeIs entry_tuple_getitem ?_ (args_tuple_getitem _ _)))
 show wpAny _ _ (Builtin.Tuple.tupleItemsOf (.ref t) >>=_) _ _ s;refine Pr (tupleItemsOf_ ht ?_);refine Pr (wpAny_typeOf JR ?_);rw[if_pos (by decide)];refine Pr (dW hs pl pu ?_);show wpAny _ _ (if (((bF items.size 0 lo:Nat):Int)==0&&(1:Int)==1&&(bF items.size items.size hi - bF items.size 0 lo)==items.size)=true then _ else _) _ _ s;rw[if_pos (by rw[hw.1,hw.2];simp)];refine Pr (Pr (wpAny_typeOf ht.typeIs (Pv ?_)));rw[if_pos (by decide)];refine Pr (wpAny_rule ?_);exact Pv ⟨_,rfl,Pv h⟩
end
end HT
namespace Rx
open PySem PySem.W PySem.Spec PyProof.Rows L2 PySem.SeqAt
noncomputable abbrev N0:Addr->Prop:=λ_=>False
noncomputable def ej (K:Frag) (A:Addr->Prop) (H:Hp) (v:V):Dt->Prop
 | .lst ds=>∃a xs,v= .ref a/\H a=some (.lst xs)/\ak K A H xs ds
 | d=>RV K A H v d
noncomputable def lN (K:Frag) (A:Addr->Prop) (H:Hp):List V->List Dt->Prop
 | [],[]=>True
 | x::xs,d::ds=>ej K A H x d/\lN K A H xs ds
 | _,_=>False
section
variable {K:Frag} {A B:Addr->Prop} {H H':Hp}
theorem RV.one {v d} (h:RV K A H v d):ej K A H v d:=by
 cases d with
 | lst ds=>obtain⟨a,xs,h1,h2,_,h3⟩:=h.lst_inv;exact⟨a,xs,h1,h2,h3⟩
 | _=>exact h
theorem ej.ext {X:Addr->Prop} {v d} (h:ej K A H v d) (e:aX X H H') (hX:∀b,X b->A b) (hv:∀ds a,d= .lst ds->v= .ref a->¬X a):ej K A H' v d:=by
 cases d with
 | lst ds=>obtain⟨a,xs,h1,h2,h3⟩:=h;exact⟨a,xs,h1,e.kp _ _ h2 (hv ds a rfl h1),h3.mono e hX λ_ z=>z⟩
 | _=>exact RV.mono e hX (λ_ z=>z) h
theorem ak.ones:∀{vs ds},ak K A H vs ds->lN K A H vs ds
 | [],[],_=>trivial
 | [],_::_,h=>by unfold ak at h;exact h.elim
 | _::_,[],h=>by unfold ak at h;exact h.elim
 | _::_,_::_,h=>by unfold ak at h;exact⟨h.1.one,h.2.ones⟩
end
structure PR (K:Frag) (fr:Bool) (xs:List V) (ds:List Dt) (H:Hp) (d:Dt) (v:V) (H':Hp):Prop where
 same:bj H H'
 val:∀A:Addr->Prop,(∀a,A a->∃o,H a=some o)->lN K A H xs ds->RV K A H' v d
 dY:fr=true->∀es,d= .lst es->∃a ys,v= .ref a/\H a=none/\H' a=some (.lst ys)/\∀A:Addr->Prop,(∀a,A a->∃o,H a=some o)->lN K A H xs ds->ak K (λb=>A b\/b=a) H' ys es
noncomputable def rP (K:Frag) (fr:Bool) (f:List Dt->R Dt):List V->Hp->VK->Prop:=λxs H Q=>∃ds d,ak K N0 H xs ds/\f ds= .ok d/\∀v H',PR K fr xs ds H d v H'->Q v H'
section
variable {K:Frag} {fr:Bool} {xs:List V} {ds:List Dt} {H H':Hp} {d:Dt} {v:V}
noncomputable def nC:Dt->Bool
 | .aP | .bl _ | .int _ | .str _=>true
 | _=>false
noncomputable def mV:Dt->V
 | .bl b=> .bl b
 | .int b=> .int b
 | .str b=> .str b
 | _=> .aP
theorem oN {A:Addr->Prop} (h:nC d=true):RV K A H (mV d) d:=by
 cases d with
 | aP=>exact RV.fX
 | bl b=>exact RV.jS
 | int b=>exact RV.cP
 | str b=>exact RV.ib
 | _=>simp[nC] at h
theorem PR.sc (h:nC d=true):PR K fr xs ds H d (mV d) H:=⟨bj.refl _,λA _ _=>oN h,λ_ es e=>by subst e;simp[nC] at h⟩
theorem PR.oA {p:Addr} {ys:List V} {es:List Dt} (hp:H p=none) (h:∀A:Addr->Prop,lN K A H xs ds->ak K A H ys es):PR K fr xs ds H (.lst es) (.ref p) (upd H p (.lst ys)):=by
 have s:=Mx.b9 hp (.lst ys);refine⟨s,λA hA q=>RV.c7 aM (λz=>?_) ((h A q).same s),λ_ fJ e=>?_⟩
 ·obtain⟨o,e⟩:=hA p z;rw[hp] at e;cases e
 ·cases e;exact⟨p,ys,rfl,hp,aM,λA hA q=>((h A q).avoid hp).same s⟩
theorem PR.wD {p:Addr} {ys:List V} {es:List Dt} (hp:H p=none) (h:∀A:Addr->Prop,lN K A H xs ds->ak K A H ys es):PR K fr xs ds H (.tup es) (.ref p) (upd H p (.tup ys)):=by have s:=Mx.b9 hp (.tup ys);exact⟨s,λA hA q=>RV.dw aM ((h A q).same s),λ_ fJ e=>by cases e⟩
theorem PR.ot {p:Addr} {ys:List V} {es:List Dt} (hp:H p=some (.tup ys)) (h:∀A:Addr->Prop,lN K A H xs ds->ak K A H ys es):PR K fr xs ds H (.tup es) (.ref p) H:=
 ⟨bj.refl _,λA hA q=>RV.dw hp (h A q),λ_ fJ e=>by cases e⟩
theorem bO:lim<=sizeLine:=by rw[sizeLine_eq];decide
theorem aC {b:Bool} {α:Type} {r:R α} {a:α} (h:ae b r= .ok a):b=true/\r= .ok a:=by
 cases b with
 | true=>exact⟨rfl,h⟩
 | false=>cases h
theorem ej.aN {A:Addr->Prop} {a:Addr} {xs:List V} {es:List Dt} (h:ej K A H (.ref a) (.lst es)) (e:H a=some (.lst xs)):ak K A H xs es:=by obtain⟨b,ys,q,h1,h2⟩:=h;cases q;rw[e] at h1;cases h1;exact h2
theorem ej.ar {A:Addr->Prop} {a:Addr} {xs:List V} {es:List Dt} (h:ej K A H (.ref a) (.tup es)) (e:H a=some (.tup xs)):ak K A H xs es:=by obtain⟨b,ys,q,h1,h2⟩:=RV.af h;cases q;rw[e] at h1;cases h1;exact h2
end
section
variable {X:Cx}
noncomputable def r2 (K:Frag) (f:Dt->Dt->R Dt):R2:=λx y H Q=>∃d e z,RV K N0 H x d/\RV K N0 H y e/\f d e= .ok z/\∀v H',PR K true [x,y] [d,e] H z v H'->Q v H'
theorem lu {i:Int} (h:i.natAbs < 2 ^ 64): -(2 ^ 64) < i/\i < 2 ^ 64:=by lia
theorem Df:iE X (binaryOp .FloorDiv) (rI (λ_ j=>0 < j/\j.natAbs.log2 < 9000) λi j=> .int (i / j)):=GI λi j _ _ _ _ _ hc q=>by have h1:(0:Int) < j:=hc.1;exact floordiv_int (by lia) (by rw[Int.fdiv_eq_ediv_of_nonneg i (by lia)];exact q) (.inl (PyProof.noPylong_of_log2 hc.2))
theorem De (o:Operator):iE X (binaryOp o) (r2 X.K (iK o)):=by
 intro pins s σ H x y v u Q I rx ry h;obtain⟨d,e,z,hx,hy,he,q⟩:=h;have Cr:=bO;unfold iK at he;split at he
 ·split at he
  ·rename_i i j;cases he;exact Dc pins s σ H x y v u Q I rx ry ⟨i,j,hx.int_inv,hy.int_inv,q _ _ (PR.sc (d:= .int _) rfl)⟩
  ·rename_i i j;obtain⟨g,he⟩:=aC he;cases he;exact qf pins s σ H x y v u Q I rx ry ⟨i,j,hx.str_inv,hy.str_inv,PP (Py g) Cr,q _ _ (PR.sc (d:= .str _) rfl)⟩
  ·rename_i i j;obtain⟨g,he⟩:=aC he;cases he;obtain⟨a,xs,rfl,h1,_,h2⟩:=hx.lst_inv;obtain⟨b,ys,rfl,k1,_,k2⟩:=hy.lst_inv;refine wJ pins s σ H _ _ v u Q I rx ry ⟨a,b,xs,ys,rfl,rfl,h1,k1,?_,λp hp=>q _ _ (PR.oA hp λA w=>?_)⟩
   ·rw[h2.length,k2.length];exact PP (Py g) Cr
   ·exact(ej.aN w.1 h1).append (ej.aN w.2.1 k1)
  ·rename_i i j;obtain⟨g,he⟩:=aC he;cases he;obtain⟨a,xs,rfl,h1,h2⟩:=hx.af;obtain⟨b,ys,rfl,k1,k2⟩:=hy.af;by_cases hd:xs=[]
   ·subst hd;cases h2.c8;cases rx;cases ry;obtain⟨its,r1,p1,_⟩:=I.tuple (d5.of h1);obtain⟨aI,r2,p2,_⟩:=I.tuple (d5.of k1);cases r1;obtain⟨⟨cls,dd,data,sl⟩,ho,hc,n,zp⟩:=p1;obtain⟨⟨Fi,yj,data2,uB⟩,rj,nZ,n2,pR⟩:=p2;simp only at hc zp nZ pR;subst hc zp nZ pR;exact concat_meets ⟨_,ho,rfl⟩ ⟨_,rj,rfl⟩ noFill_tuple_add seq_tuple_add PySem.F.slot_tuple_add PySem.F.entry_tuple_add (PySem.F.args_tuple_add_2 _ _)
     (Mx.tuple_addW0 a b _ _ n n2 dd yj sl uB rfl) ⟨ho,rj,⟨.ref b,H,I,rfl,q _ _ (PR.ot k1 λA w=>ej.ar w.2.1 k1)⟩⟩
   ·refine jf pins s σ H (.ref a) (.ref b) v u Q I rx ry ⟨a,b,xs,ys,rfl,rfl,d5.of h1,d5.of k1,hd,?_,λe=>?_,λe p hp=>?_⟩
    ·rw[h2.length,k2.length];exact PP (Py g) Cr
    ·subst e;cases k2.c8;rw[Qn] at q;exact q _ _ (PR.ot h1 λA w=>ej.ar w.1 h1)
    ·exact q _ _ (PR.wD hp λA w=>(ej.ar w.1 h1).append (ej.ar w.2.1 k1))
  ·cases he
 ·split at he
  ·rename_i i j;cases he;exact Dm pins s σ H x y v u Q I rx ry ⟨i,j,hx.int_inv,hy.int_inv,q _ _ (PR.sc (d:= .int _) rfl)⟩
  ·cases he
 ·split at he
  ·rename_i i j;obtain⟨g,he⟩:=aC he;cases he;refine Di pins s σ H x y v u Q I rx ry ⟨i,j,hx.int_inv,hy.int_inv,?_,q _ _ (PR.sc (d:= .int _) rfl)⟩;rw[Qo] at g;rcases g with g | g
   ·exact .inl (lu (Py g))
   ·exact .inr (lu (Py g))
  ·rename_i i j;obtain⟨g,he⟩:=aC he;cases he;obtain⟨a,xs,rfl,h1,_,h2⟩:=hx.lst_inv;rw[Pw] at g;have g1:=Py g.1;have g2:=Py g.2;have cW:lim=1000000:=rfl;refine Dl pins s σ H _ _ v u Q I rx ry ⟨a,j,xs,rfl,hy.int_inv,h1,by lia,by lia,?_,λp hp=>q _ _ (PR.oA hp λA w=>?_)⟩
   ·rw[h2.length];exact PP g2 Cr
   ·exact(ej.aN w.1 h1).rep _
  ·rename_i i j;obtain⟨g,he⟩:=aC he;cases he;obtain⟨a,xs,rfl,h1,h2⟩:=hx.af;rw[Pw] at g;have g1:=Py g.1;have g2:=Py g.2;have cW:lim=1000000:=rfl;refine Mx.Aa pins s σ H _ _ v u Q I rx ry ⟨a,j,xs,rfl,hy.int_inv,h1,by lia,by lia,?_,λhc=>?_,λp hp=>q _ _ (PR.wD hp λA w=>(ej.ar w.1 h1).rep _)⟩
   ·rw[h2.length];exact PP g2 Cr
   ·refine q _ _ (PR.ot h1 λA w=>?_);have:=ej.ar w.1 h1;rcases hc with rfl | rfl
    ·cases this.c8;have e:(List.replicate j.toNat ([]:List Dt)).flatten=[]:=by simp
     rw[e];exact ak.nil
    ·have e:(List.replicate (1:Int).toNat i).flatten=i:=by simp
     rw[e];exact this
  ·cases he
 ·split at he
  ·rename_i i j;obtain⟨g,he⟩:=aC he;cases he;rw[Pw] at g;exact Df pins s σ H x y v u Q I rx ry ⟨i,j,hx.int_inv,hy.int_inv,⟨Py g.1,Py g.2⟩,q _ _ (PR.sc (d:= .int _) rfl)⟩
  ·cases he
 ·split at he
  ·rename_i i j;obtain⟨g,he⟩:=aC he;cases he;exact Dh pins s σ H x y v u Q I rx ry ⟨i,j,hx.int_inv,hy.int_inv,Py g,q _ _ (PR.sc (d:= .int _) rfl)⟩
  ·cases he
 ·split at he
  ·rename_i i j;obtain⟨g,he⟩:=aC he;cases he;rw[Pw,Pw] at g;have g1:=Py g.1.1;have g2:=Py g.1.2;have g3:=Py g.2;exact Dj pins s σ H x y v u Q I rx ry ⟨i,j,hx.int_inv,hy.int_inv,⟨g1,by lia,g3⟩,q _ _ (PR.sc (d:= .int _) rfl)⟩
  ·cases he
 ·cases he
noncomputable def rC (K:Frag) (o:CmpOp):R2:=λx y H Q=>∃d e z,RV K N0 H x d/\RV K N0 H y e/\cU o d e= .ok z/\Q (.bl z) H
theorem iY {pins:List (Addr×Obj)} {s:Shared} {σ:L2.St} {H:Hp} {K:Frag} (I:Inv X pins σ H s) (hu:X.A.units + 150 < cLine) {xs:List V} {ds:List Dt} {its:List Value} {x:V} {u:Value} {d:Dt} (r:au xs its) (g:ak K N0 H xs ds) (rx:RelV x u) (hx:RV K N0 H x d) (p1:pl d=true) (p2:lA ds=true) (hd:pK ds<=100):
  ∃e:Value->Bool,(∀y,y∈its.toArray->EqAt X.A.in1 s y u (e y))/\its.toArray.any e=inD d ds:=by
 classical
 let e:Value->Bool:=λy=>decide (∃(j:Nat) (d':Dt),its[j]?=some y/\ds[j]?=some d'/\bP d' d=true)
 have key:∀(j:Nat) (y:Value) (d':Dt),its[j]?=some y->ds[j]?=some d'->e y=bP d' d:=λj y d' h1 h2=>by
  rw[Bool.eq_iff_iff];constructor
  ·intro h;obtain⟨j',OZ,k1,k2,k3⟩:=Py h;have hj:j < xs.length:=by rw[r.length];exact(Pz.mp h1).1
   have tO:j' < xs.length:=by rw[r.length];exact(Pz.mp k1).1
   obtain⟨u1,a1,a2⟩:=r.get (i:=j) (x:=xs[j]) (by simp[hj]);obtain⟨u2,b1,b2⟩:=r.get (i:=j') (x:=xs[j']) (by simp[tO]);rw[h1] at a1;cases a1;rw[k1] at b1;cases b1;have ex:=RelV.inj a2 b2;obtain⟨d1,c1,c2⟩:=g.get (i:=j) (x:=xs[j]) (by simp[hj]);obtain⟨d2,e1,e2⟩:=g.get (i:=j') (x:=xs[j']) (by simp[tO]);rw[h2] at c1;cases c1;rw[k2] at e1;cases e1;rw[<-ex] at e2;rw[RV.inj c2 e2 (dy p2 h2) (dy p2 k2)];exact k3
  ·intro h;exact Qc ⟨j,d',h1,h2,h⟩
 refine⟨e,λy hy=>?_,?_⟩
 ·obtain⟨j,hj⟩:=List.mem_iff_getElem?.mp (by simpa using hy:y∈its);have L5:j < xs.length:=by rw[r.length];exact(Pz.mp hj).1
  obtain⟨d',h1,h2⟩:=g.get (i:=j) (x:=xs[j]) (by simp[L5]);obtain⟨u1,a1,a2⟩:=r.get (i:=j) (x:=xs[j]) (by simp[L5]);rw[hj] at a1;cases a1;rw[key j y d' hj h1];exact A4 I.hok 100 d' d xs[j] x y u X.A.in1 (PP (jA h1) hd) (dy p2 h1) p1 (by show X.A.units + 1 + 100 < cLine;lia) h2 hx a2 rx
 ·rw[List.any_toArray];unfold inD;have hlen:its.length=ds.length:=by rw[<-r.length,g.length]
  clear_value e
  clear r g p2 hd
  induction its generalizing ds with
  | nil=>
   cases ds with
   | nil=>rfl
   | cons=>simp at hlen
  | cons y ys ih=>
   cases ds with
   | nil=>simp at hlen
   | cons d' tq=>rw[List.any_cons,List.any_cons,key 0 y d' rfl rfl,ih (λj y d' h1 h2=>key (j + 1) y d' (by simpa using h1) (by simpa using h2)) (by simpa using hlen)]
theorem qg (o:CmpOp) (hu:X.A.units + 150 < cLine):iE X (compareOp o) (rC X.K o):=by
 intro pins s σ H x y v u Q I rx ry h;obtain⟨d,e,z,hx,hy,he,q⟩:=h;unfold cU at he;split at he
 ·obtain⟨g,he⟩:=aC he;cases he;unfold zf at g;rw[Pw,Pw] at g;exact G1 I.hok 100 d e x y v u X.A (Nat.le_succ_of_le (Py g.2)) g.1.1 g.1.2 (by lia) hx hy rx ry X.prog X.w X.xe (EP X pins σ Q) ⟨.bl _,H,I,rfl,q⟩
 ·obtain⟨g,he⟩:=aC he;cases he;unfold zf at g;rw[Pw,Pw] at g;exact Au I.hok 100 d e x y v u X.A (Nat.le_succ_of_le (Py g.2)) g.1.1 g.1.2 (by lia) hx hy rx ry X.prog X.w X.xe (EP X pins σ Q) ⟨.bl _,H,I,rfl,q⟩
 ·rename_i i j;cases he;exact GO pins s σ H x y v u Q I rx ry ⟨i,j,hx.int_inv,hy.int_inv,q⟩
 ·rename_i i j;cases he;exact GN pins s σ H x y v u Q I rx ry ⟨i,j,hx.int_inv,hy.int_inv,q⟩
 ·rename_i i j;cases he;exact GM pins s σ H x y v u Q I rx ry ⟨i,j,hx.int_inv,hy.int_inv,q⟩
 ·rename_i i j;cases he;exact GK pins s σ H x y v u Q I rx ry ⟨i,j,hx.int_inv,hy.int_inv,q⟩
 ·cases he;refine Dg pins s σ H x y v u Q I rx ry ⟨hy.ax,?_⟩;cases d with
  | aP=>rw[hx.ax];exact q
  | bl b=>rw[hx.aw];exact q
  | int b=>rw[hx.int_inv];exact q
  | str b=>rw[hx.str_inv];exact q
  | tup b=>obtain⟨a,xs,rfl,_⟩:=hx.af;exact q
  | lst b=>obtain⟨a,xs,rfl,_⟩:=hx.lst_inv;exact q
  | bJ b=>obtain⟨a,rfl,_⟩:=hx.du;exact q
  | fg=>exact hx.fh.elim
  | obj=>obtain⟨a,xs,rfl,_⟩:=hx.gN;exact q
  | exc=>exact hx.fj.elim
 ·cases he;refine z9 pins s σ H x y v u Q I rx ry ⟨hy.ax,?_⟩;cases d with
  | aP=>rw[hx.ax];exact q
  | bl b=>rw[hx.aw];exact q
  | int b=>rw[hx.int_inv];exact q
  | str b=>rw[hx.str_inv];exact q
  | tup b=>obtain⟨a,xs,rfl,_⟩:=hx.af;exact q
  | lst b=>obtain⟨a,xs,rfl,_⟩:=hx.lst_inv;exact q
  | bJ b=>obtain⟨a,rfl,_⟩:=hx.du;exact q
  | fg=>exact hx.fh.elim
  | obj=>obtain⟨a,xs,rfl,_⟩:=hx.gN;exact q
  | exc=>exact hx.fj.elim
 ·obtain⟨g,he⟩:=aC he;cases he;rw[Pw,Pw] at g;obtain⟨a,xs,rfl,h1,_,h2⟩:=hy.lst_inv;cases ry;obtain⟨its,r,t⟩:=aN I.hok h1;obtain⟨e,k1,k2⟩:=iY I hu r h2 rx hx g.1.1 g.1.2 (Py g.2);exact in_listAt e t k1 ⟨.bl _,H,I,by rw[k2];rfl,q⟩
 ·obtain⟨g,he⟩:=aC he;cases he;rw[Pw,Pw] at g;obtain⟨a,xs,rfl,h1,h2⟩:=hy.af;cases ry;obtain⟨its,r,t⟩:=Mx.ar I.hok h1;obtain⟨e,k1,k2⟩:=iY I hu r h2 rx hx g.1.1 g.1.2 (Py g.2);exact in_tupleAt e t k1 ⟨.bl _,H,I,by rw[k2];rfl,q⟩
 ·obtain⟨g,he⟩:=aC he;cases he;rw[Pw,Pw] at g;obtain⟨a,xs,rfl,h1,_,h2⟩:=hy.lst_inv;cases ry;obtain⟨its,r,t⟩:=aN I.hok h1;obtain⟨e,k1,k2⟩:=iY I hu r h2 rx hx g.1.1 g.1.2 (Py g.2);exact notIn_listAt e t k1 ⟨.bl _,H,I,by rw[k2];rfl,q⟩
 ·obtain⟨g,he⟩:=aC he;cases he;rw[Pw,Pw] at g;obtain⟨a,xs,rfl,h1,h2⟩:=hy.af;cases ry;obtain⟨its,r,t⟩:=Mx.ar I.hok h1;obtain⟨e,k1,k2⟩:=iY I hu r h2 rx hx g.1.1 g.1.2 (Py g.2);exact notIn_tupleAt e t k1 ⟨.bl _,H,I,by rw[k2];rfl,q⟩
 ·cases he
theorem pA {ds:List Dt} {i:Int} {d:Dt} (h:sU ds i= .ok d):km ds i=some d:=by
 unfold sU at h;split at h
 ·cases h;assumption
 ·cases h
theorem i5 {K:Frag} {A:Addr->Prop} {H:Hp} {xs:List V} {ds:List Dt} {i:Int} {d:Dt} (g:ak K A H xs ds) (h:km ds i=some d):∃v,km xs i=some v/\RV K A H v d:=by
 unfold km at h ⊢;rw[g.length];cases e:mF ds.length i with
 | none=>rw[e] at h;cases h
 | some j=>rw[e] at h;obtain⟨v,h1,h2⟩:=g.getD (i:=j) h;exact⟨v,h1,h2⟩
noncomputable def rX (K:Frag):R2:=λx y H Q=>∃d e z,RV K N0 H x d/\RV K N0 H y e/\dg d e= .ok z/\∀v,PR K false [x,y] [d,e] H z v H->Q v H
theorem CJ:EW X (rX X.K):=by
 intro value slice pins s σ H x y v u Q I rx ry h hs;obtain⟨d,e,z,hx,hy,he,q⟩:=h;unfold dg at he;split at he
 ·rename_i ds i;obtain⟨a,xs,rfl,h1,_,h2⟩:=hx.lst_inv;have kZ:=pA he;obtain⟨w,k1,k2⟩:=i5 h2 kZ;refine rJ value slice pins s σ H _ y v u Q I rx ry ⟨a,xs,i,w,rfl,hy.int_inv,cM.of h1,k1,q w ⟨bj.refl _,λA _ q'=>?_,λz=>by cases z⟩⟩ hs;obtain⟨w',m1,m2⟩:=i5 (ej.aN q'.1 h1) kZ;rw[k1] at m1;cases m1;exact m2
 ·rename_i ds i;obtain⟨a,xs,rfl,h1,h2⟩:=hx.af;have kZ:=pA he;obtain⟨w,k1,k2⟩:=i5 h2 kZ;refine CL value slice pins s σ H _ y v u Q I rx ry ⟨a,xs,i,w,rfl,hy.int_inv,d5.of h1,k1,q w ⟨bj.refl _,λA _ q'=>?_,λz=>by cases z⟩⟩ hs;obtain⟨w',m1,m2⟩:=i5 (ej.ar q'.1 h1) kZ;rw[k1] at m1;cases m1;exact m2
 ·rename_i ns i;obtain⟨a,rfl,h1⟩:=hx.iy;have kZ:=pA he;have e1:km ((ns.map V.int)) i=some (mV z)/\nC z=true:=by
   unfold km at kZ ⊢;rw[PL] at kZ ⊢;cases e:mF ns.length i with
   | none=>rw[e] at kZ;cases kZ
   | some j=>
    rw[e] at kZ;simp only[Option.bind_some,P1] at kZ ⊢;cases en:ns[j]? with
    | none=>rw[en] at kZ;cases kZ
    | some k=>rw[en] at kZ;simp at kZ;subst kZ;exact⟨rfl,rfl⟩
  exact rJ value slice pins s σ H _ y v u Q I rx ry ⟨a,_,i,_,rfl,hy.int_inv,h1,e1.1,q _ (PR.sc e1.2)⟩ hs
 ·rename_i w i;obtain⟨g,he⟩:=aC he;split at he
  ·rename_i c hc;cases he;exact CK value slice pins s σ H _ y v u Q I rx ry ⟨w,i,c,hx.str_inv,hy.int_inv,PP (Py g) bO,hc,q _ (PR.sc (d:= .str _) rfl)⟩ hs
  ·cases he
 ·cases he
noncomputable def rS (K:Frag):V->Option Int->Option Int->Hp->VK->Prop:=λx lo hi H Q=>∃d z,RV K N0 H x d/\f9 d lo hi= .ok z/\∀v H',PR K true [x] [d] H z v H'->Q v H'
theorem ak.cut {K:Frag} {A:Addr->Prop} {H:Hp} {xs:List V} {ds:List Dt} {lo hi:Option Int} (g:ak K A H xs ds):ak K A H (kA xs lo hi) (cutD ds lo hi):=by unfold kA cutD;rw[g.length];exact(g.drop _).take _
theorem pJ {xs:List V} {lo hi:Option Int} (h:HT.bF xs.length 0 lo=0/\HT.bF xs.length xs.length hi=xs.length):kA xs lo hi=xs:=by unfold kA;rw[h.1,h.2];simp
theorem mW:Et X (λx lo hi H Q=>∃a xs,x= .ref a/\H a=some (.tup xs)/\(HT.bF xs.length 0 lo=0/\HT.bF xs.length xs.length hi=xs.length)/\Q (.ref a) H):=by
 intro pins s σ H x v vl vu lo hi sl Q I rx hs pl pu h;obtain⟨a,xs,rfl,hx,hw,q⟩:=h;cases rx;obtain⟨its,r,ht,hz⟩:=I.tuple (d5.of hx);have hlen:its.toArray.size=xs.length:=by rw[Px];exact r.length.symm
 refine⟨"tuple",_,PyProof.Rows.slot_tuple_getitem.lookup,ht.typeIs,?_⟩;refine HT.fz ht hs pl pu (by rw[hlen];exact hw) ⟨.ref a,H,I,rfl,q⟩ (by rw[hlen];exact hz)
theorem gD {K:Frag} {A:Addr->Prop} {H:Hp}:∀{ns:List Int},ak K A H (ns.map V.int) (ns.map Dt.int)
 | []=>ak.nil
 | _::_=>ak.cons RV.cP gD
theorem xy:Et X (rS X.K):=by
 intro pins s σ H x v vl vu lo hi sl Q I rx hs pl pu h;obtain⟨d,z,hx,he,q⟩:=h;unfold f9 at he;split at he
 ·cases he;obtain⟨a,xs,rfl,h1,_,h2⟩:=hx.lst_inv;exact sJ pins s σ H _ v vl vu lo hi sl Q I rx hs pl pu ⟨a,xs,rfl,cM.of h1,λp hp=>q _ _ (PR.oA hp λA w=>(ej.aN w.1 h1).cut)⟩
 ·cases he;obtain⟨a,rfl,h1⟩:=hx.iy;exact sJ pins s σ H _ v vl vu lo hi sl Q I rx hs pl pu ⟨a,_,rfl,h1,λp hp=>q _ _ (PR.oA hp λA w=>ak.cut gD)⟩
 ·cases he;obtain⟨a,xs,rfl,h1,h2⟩:=hx.af;by_cases hw:HT.bF xs.length 0 lo=0/\HT.bF xs.length xs.length hi=xs.length
  ·refine mW pins s σ H _ v vl vu lo hi sl Q I rx hs pl pu ⟨a,xs,rfl,h1,hw,q _ _ (PR.ot h1 λA w=>?_)⟩;have:=(ej.ar w.1 h1).cut (lo:=lo) (hi:=hi);rw[pJ hw] at this;exact this
  ·exact DY pins s σ H _ v vl vu lo hi sl Q I rx hs pl pu ⟨a,xs,rfl,d5.of h1,hw,λp hp=>q _ _ (PR.wD hp λA w=>(ej.ar w.1 h1).cut)⟩
 ·obtain⟨g,he⟩:=aC he;cases he;exact Mx.DX pins s σ H _ v vl vu lo hi sl Q I rx hs pl pu ⟨_,hx.str_inv,PP (Py g) bO,q _ _ (PR.sc (d:= .str _) rfl)⟩
 ·cases he
theorem eT {K:Frag} {A:Addr->Prop} {H:Hp}:∀{xs:List V} {ds:List Dt} {ns:List Int},ak K A H xs ds->intsOf ds=some ns->xs=ns.map V.int
 | xs,[],ns,g,h=>by simp[intsOf] at h;subst h;exact g.nil_inv
 | xs,d::ds,ns,g,h=>by
  obtain⟨x,r,rfl,g1,g2⟩:=g.cons_inv;cases d with
  | int i=>simp only[intsOf,PX] at h;obtain⟨ms,h1,rfl⟩:=h;rw[eT g2 h1,g1.int_inv];rfl
  | _=>simp[intsOf] at h
theorem lV {K:Frag} {A:Addr->Prop} {H:Hp}:∀{xs:List V} {ds:List Dt} {ns:List Bool},ak K A H xs ds->eM ds=some ns->xs=ns.map V.bl
 | xs,[],ns,g,h=>by simp[eM] at h;subst h;exact g.nil_inv
 | xs,d::ds,ns,g,h=>by
  obtain⟨x,r,rfl,g1,g2⟩:=g.cons_inv;cases d with
  | bl i=>simp only[eM,PX] at h;obtain⟨ms,h1,rfl⟩:=h;rw[lV g2 h1,g1.aw];rfl
  | _=>simp[eM] at h
theorem jQ:∀(ns:List Int),ns≠[]->iT ns∈ns/\∀a∈ns,iT ns<=a
 | [],h=>absurd rfl h
 | [a],_=>by simp[iT]
 | a::b::r,_=>by
  have ih:=jQ (b::r) (by simp);have e:iT (a::b::r)=min a (iT (b::r)):=rfl;rw[e];constructor
  ·by_cases h:a<=iT (b::r)
   ·rw[Int.min_eq_left h];exact PH
   ·rw[Int.min_eq_right (by lia)];exact PC _ ih.1
  ·intro c hc;rcases PQ.mp hc with e | hc
   ·rw[e];exact Int.min_le_left _ _
   ·exact Int.le_trans (Int.min_le_right _ _) (ih.2 c hc)
theorem dQ:∀(ns:List Int),ns≠[]->cO ns∈ns/\∀a∈ns,a<=cO ns
 | [],h=>absurd rfl h
 | [a],_=>by simp[cO]
 | a::b::r,_=>by
  have ih:=dQ (b::r) (by simp);have e:cO (a::b::r)=max a (cO (b::r)):=rfl;rw[e];constructor
  ·by_cases h:a<=cO (b::r)
   ·rw[Int.max_eq_right h];exact PC _ ih.1
   ·rw[Int.max_eq_left (by lia)];exact PH
  ·intro c hc;rcases PQ.mp hc with e | hc
   ·rw[e];exact Int.le_max_left _ _
   ·exact Int.le_trans (ih.2 c hc) (Int.le_max_right _ _)
theorem fO:∀{l l':List Mx.D},l.Perm l'->(l.Pairwise λa b=>Mx.D.lt b a=false)->(l'.Pairwise λa b=>Mx.D.lt b a=false)->l=l'
 | [],l',p,_,_=>(List.nil_perm.mp p).symm
 | a::t,l',p,h1,h2=>by
  cases l' with
  | nil=>exact absurd p.length_eq (by simp)
  | cons b t'=>
   rw[List.pairwise_cons] at h1 h2;have fK:a=b:=by
    have ha:a∈b::t':=p.mem_iff.mp PH;have hb:b∈a::t:=p.mem_iff.mpr PH;rcases PQ.mp ha with e | ha
    ·exact e
    rcases PQ.mp hb with e | hb
    ·exact e.symm
    exact Mx.D.gJ a b (h2.1 a ha) (h1.1 b hb)
   subst fK;rw[fO (List.perm_cons a |>.mp p) h1.2 h2.2]
theorem j8 (ms:List Mx.D):(eA ms).Perm ms/\(eA ms).Pairwise λa b=>Mx.D.lt b a=false:=by
 unfold eA;refine⟨List.mergeSort_perm ms EK,?_⟩;have h:=List.pairwise_mergeSort (le:=EK) (λa b c h1 h2=>by
  unfold EK at *;simp only[Bool.not_eq_true'] at *;cases h3:Mx.D.lt c a with
  | false=>rfl
  | true=>
   rcases Mx.Fk.negTrans c b a h3 with h | h
   ·have h:Mx.D.lt c b=true:=h;rw[h2] at h;cases h
   ·have h:Mx.D.lt b a=true:=h;rw[h1] at h;cases h) (λa b=>by
  unfold EK;cases h:Mx.D.lt b a with
  | false=>rfl
  | true=>
   cases h':Mx.D.lt a b with
   | false=>rfl
   | true=>have:=Mx.D.lt_trans a b a h' h;rw[Mx.D.lt_irrefl] at this;cases this) ms
 exact h.imp λq=>by unfold EK at q;simpa using q
theorem xC {ms es:List Mx.D} (h:Mx.jr ms es):es=eA ms:=fO (h.1.trans (j8 ms).1.symm) h.2 (j8 ms).2
mutual
theorem rQ:∀{d e:Mx.D},tS d e=true->Mx.D.eF d e
 | .int _,.int _,_=>by unfold Mx.D.eF;trivial
 | .str _,.str _,_=>by unfold Mx.D.eF;trivial
 | .tup a,.tup b,h=>by unfold Mx.D.eF;exact lh (by simpa [tS] using h)
 | .int _,.str _,h=>by simp[tS] at h
 | .int _,.tup _,h=>by simp[tS] at h
 | .str _,.int _,h=>by simp[tS] at h
 | .str _,.tup _,h=>by simp[tS] at h
 | .tup _,.int _,h=>by simp[tS] at h
 | .tup _,.str _,h=>by simp[tS] at h
theorem lh:∀{d e:List Mx.D},ow d e=true->Mx.D.fM d e
 | [],_,_=>by unfold Mx.D.fM;trivial
 | _::_,[],_=>by unfold Mx.D.fM;trivial
 | x::xs,y::ys,h=>by simp only[ow,Pw] at h;unfold Mx.D.fM;exact⟨rQ h.1,lh h.2⟩
end
theorem CM {k:Mx.SK} {d:Mx.D} (h:Gn k d=true):k.ok d:=by
 unfold Gn at h;split at h
 ·have e:=P6 h;subst e;exact⟨_,_,rfl⟩
 ·have e:=P6 h;subst e;exact⟨_,_,rfl⟩
 ·have e:=P6 h;subst e;exact⟨_,_,rfl⟩
 ·have e:=P6 h;subst e;exact⟨_,rfl⟩
 ·have e:=P6 h;subst e;exact⟨_,rfl⟩
 ·cases h
theorem zb {ms:List Mx.D} (h:iP ms=true):Mx.jq ms:=by
 unfold iP at h;rw[Pw,Qo] at h;obtain⟨h1,h2⟩:=h;refine⟨Py h1,λh3=>?_⟩;rcases h2 with h2 | h2
 ·have:=Py h2
  lia
 ·rw[Pw,Pw] at h2;obtain⟨⟨h4,h5⟩,h6⟩:=h2;refine⟨Py h4,?_,λd hd e he=>rQ (Qj.mp (Qj.mp h6 d hd) e he)⟩;obtain⟨k,_,hk⟩:=Qk.mp h5;exact⟨k,λd hd=>CM (Qj.mp hk d hd)⟩
theorem kH {α:Type} [DecidableEq α] {a b:List α} (ha:a.Nodup) (hb:b.Nodup) (h:∀x,x∈a↔x∈b):a.Perm b:=by rw[List.perm_iff_count];intro x;rw[ha.count,hb.count];simp[h x]
end
end Rx
end
section
namespace Mx
open PySem PySem.Spec PyProof.Rows L2 PySem.SeqAt
section
variable {X:Cx}
noncomputable def Bn:V->List V->Hp->VK->Prop:=λx vs H Q=>∃l b xs zs,x= .ref l/\vs=[.ref b]/\H l=some (.lst xs)/\(H b=some (.lst zs)\/H b=some (.tup zs))/\xs.length + zs.length<=sizeLine/\Q .aP (upd H l (.lst (xs++zs)))
theorem zS:EX X "list.extend" Bn:=by
 intro pins s σ H x vs v us Q I rx rv h;obtain⟨l,b,xs,zs,rfl,rfl,hH,hB | hB,hz,q⟩:=h
 ·exact tW pins s σ H _ _ v us Q I rx rv ⟨l,b,xs,zs,rfl,rfl,hH,hB,hz,q⟩
 cases rx;obtain⟨u,rfl,ru⟩:=rv.one;cases ru;obtain⟨z,its,n,r,hl,e⟩:=I.mI hH;obtain⟨z2,aI,r2,⟨c,dd,dt,sl⟩,e2,w1,n2,w2,w3,w4⟩:=(show bB X.prog X.w H s.heap b (.tup zs) from I.hok b _ hB);simp only at w1 w2 w3 w4;subst w1 w2 w3 w4;have k1:=r.length;have k2:=r2.length;have fU:its.toArray.size + aI.toArray.size<=sizeLine:=by rw[Px,Px];lia
 refine call_meets F.slot_list_extend ⟨_,e,rfl⟩ F.entry_list_extend (F.args_list_extend_2 _ _)
  (AutoSeq1.list_extend_list_tuple_0 l its.toArray n b aI.toArray n2 (by rw[jV fU,Bool.and_false];exact Bool.false_ne_true) (by lia) (by lia)) ⟨e,e2,?_⟩
 exact⟨.aP,_,I.wB (its':=its++aI) hH e (by simp) (r.append r2) (by rw[PY];lia),rfl,q⟩
end
end Mx
end
section
namespace Rx
open PySem PySem.W PySem.Spec PyProof.Rows L2 PySem.SeqAt
section
variable {X:Cx}
noncomputable def Ez:BI->Value
 | .len=> .builtin "len" | .abs=> .builtin "abs" | .sum=> .builtin "sum" | .any=> .builtin "any" | .all=> .builtin "all" | .minL=> .builtin "min"
 | .maxL=> .builtin "max" | .sorted=> .builtin "sorted" | .tuple=> .type "tuple" | .list=> .type "list" | .int=> .type "int" | .dvm=> .builtin "divmod" | _=> .none
noncomputable def DI:BI->Bool
 | .isi _=>false | _=>true
theorem aZ {K:Frag} {A:Addr->Prop} {H:Hp} {xs:List V} {d:Dt} (h:ak K A H xs [d]):∃x,xs=[x]/\RV K A H x d:=by obtain⟨x,r,rfl,h1,h2⟩:=h.cons_inv;rw[h2.nil_inv];exact⟨x,rfl,h1⟩
theorem AI {K:Frag} {A:Addr->Prop} {H:Hp} {xs:List V} {d e:Dt} (h:ak K A H xs [d,e]):∃x y,xs=[x,y]/\RV K A H x d/\RV K A H y e:=by obtain⟨x,r,rfl,h1,h2⟩:=h.cons_inv;obtain⟨y,rfl,h3⟩:=aZ h2;exact⟨x,y,rfl,h1,h3⟩
theorem yV (b:BI) (hr:DI b=true) (hc:X.calm=true) (hu:X.A.units + 150 < cLine):ck X (Ez b) (rP X.K true (cL b)):=by
 intro pins s σ H xs us Q I r h;obtain⟨ds,d,hx,he,q⟩:=h;have Cr:=bO;unfold cL at he;split at he
 ·split at he
  ·obtain⟨g,he⟩:=aC he;cases he;obtain⟨x,rfl,h1⟩:=aZ hx;exact gu pins s σ H _ us Q I r ⟨x,_,rfl,by rw[h1.str_inv];exact⟨PP (Py g) Cr,rfl⟩,q _ _ (PR.sc (d:= .int _) rfl)⟩
  ·cases he;obtain⟨x,rfl,h1⟩:=aZ hx;obtain⟨a,ys,rfl,h2,_,h3⟩:=h1.lst_inv;exact gu pins s σ H _ us Q I r ⟨_,_,rfl,.inl ⟨ys,cM.of h2,rfl⟩,by rw[h3.length];exact q _ _ (PR.sc (d:= .int _) rfl)⟩
  ·cases he;obtain⟨x,rfl,h1⟩:=aZ hx;obtain⟨a,ys,rfl,h2,h3⟩:=h1.af;exact gu pins s σ H _ us Q I r ⟨_,_,rfl,.inr ⟨ys,d5.of h2,rfl⟩,by rw[h3.length];exact q _ _ (PR.sc (d:= .int _) rfl)⟩
  ·cases he;obtain⟨x,rfl,h1⟩:=aZ hx;obtain⟨a,rfl,h2⟩:=h1.iy;exact gu pins s σ H _ us Q I r ⟨_,_,rfl,.inl ⟨_,h2,rfl⟩,by rw[PL];exact q _ _ (PR.sc (d:= .int _) rfl)⟩
  ·cases he
 ·split at he
  ·cases he;obtain⟨x,rfl,h1⟩:=aZ hx;exact vd pins s σ H _ us Q I r ⟨_,by rw[h1.int_inv],q _ _ (PR.sc (d:= .int _) rfl)⟩
  ·cases he
 ·split at he
  ·split at he
   ·rename_i ns pe;cases he;obtain⟨x,rfl,h1⟩:=aZ hx;obtain⟨a,ys,rfl,h2,_,h3⟩:=h1.lst_inv;rw[eT h3 pe] at h2;exact Mx.vi hc pins s σ H _ us Q I r ⟨a,ns,rfl,cM.of h2,q _ _ (PR.sc (d:= .int _) rfl)⟩
   ·cases he
  ·split at he
   ·rename_i ns pe;cases he;obtain⟨x,rfl,h1⟩:=aZ hx;obtain⟨a,ys,rfl,h2,h3⟩:=h1.af;rw[eT h3 pe] at h2;exact Mx.sY hc pins s σ H _ us Q I r ⟨a,ns,rfl,h2,q _ _ (PR.sc (d:= .int _) rfl)⟩
   ·cases he
  ·cases he
 ·split at he
  ·split at he
   ·rename_i ns pe;cases he;obtain⟨x,rfl,h1⟩:=aZ hx;obtain⟨a,ys,rfl,h2,_,h3⟩:=h1.lst_inv;rw[lV h3 pe] at h2;exact Mx.vg hc pins s σ H _ us Q I r ⟨a,ns,rfl,cM.of h2,q _ _ (PR.sc (d:= .bl _) rfl)⟩
   ·cases he
  ·cases he
 ·split at he
  ·split at he
   ·rename_i ns pe;cases he;obtain⟨x,rfl,h1⟩:=aZ hx;obtain⟨a,ys,rfl,h2,_,h3⟩:=h1.lst_inv;rw[lV h3 pe] at h2;exact Mx.ve hc pins s σ H _ us Q I r ⟨a,ns,rfl,cM.of h2,q _ _ (PR.sc (d:= .bl _) rfl)⟩
   ·cases he
  ·cases he
 ·split at he
  ·split at he
   ·rename_i ns pe;obtain⟨g,he⟩:=aC he;cases he;obtain⟨x,rfl,h1⟩:=aZ hx;obtain⟨a,ys,rfl,h2,_,h3⟩:=h1.lst_inv;rw[eT h3 pe] at h2;have gg:ns≠[]:=λe=>by rw[e] at g;cases g
    refine Mx.sX hc pins s σ H _ us Q I r ⟨a,ns,rfl,cM.of h2,gg,λm m1 m2=>?_⟩;have:=jQ ns gg;have e:m=iT ns:=Int.le_antisymm (m2 _ this.1) (this.2 _ m1);rw[e];exact q _ _ (PR.sc (d:= .int _) rfl)
   ·cases he
  ·cases he
 ·split at he
  ·rename_i d0;split at he
   ·rename_i es hes;split at he
    ·rename_i ms hms;obtain⟨g,he⟩:=aC he;cases he;have cs:=zb g;obtain⟨x,rfl,h1⟩:=aZ hx;have M5:=mM hms;have go:∀{a:Addr} {ys:List V},x= .ref a->(cM X.K H a ys\/d5 X.K H a ys)->ak X.K N0 H ys es->wpAny (model X.prog X.w) X.A (call (Ez .sorted) us) (EP X pins σ Q) X.xe s:=by intro a ys ex hs g;subst ex;rw[M5] at g;refine Mx.lX hu pins s σ H _ us Q I r ⟨a,ys,ms,rfl,hs,g.tu,cs,λm zs qs hm hz hso=>q _ _ ?_⟩;have e:=xC hso;subst e;exact PR.oA hm λA _=>ak.qe hz
     unfold itemsOf at hes;split at hes
     ·cases hes;obtain⟨a,ys,e1,h2,_,h3⟩:=h1.lst_inv;exact go e1 (.inl (cM.of h2)) h3
     ·cases hes;obtain⟨a,ys,e1,h2,h3⟩:=h1.af;exact go e1 (.inr (d5.of h2)) h3
     ·cases hes;obtain⟨a,e1,h2⟩:=h1.iy;exact go e1 (.inl h2) gD
     ·cases hes
    ·cases he
   ·cases he
  ·cases he
 ·split at he
  ·cases he;obtain⟨x,rfl,h1⟩:=aZ hx;obtain⟨a,ys,rfl,h2,_,h3⟩:=h1.lst_inv;exact fD pins s σ H _ us Q I r ⟨a,ys,rfl,.inl ⟨cM.of h2,λl hl=>q _ _ (PR.wD hl λA w=>ej.aN w.1 h2)⟩⟩
  ·cases he;obtain⟨x,rfl,h1⟩:=aZ hx;obtain⟨a,ys,rfl,h2,h3⟩:=h1.af;exact fD pins s σ H _ us Q I r ⟨a,ys,rfl,.inr ⟨d5.of h2,q _ _ (PR.ot h2 λA w=>ej.ar w.1 h2)⟩⟩
  ·cases he
 ·split at he
  ·cases he;obtain⟨x,rfl,h1⟩:=aZ hx;obtain⟨a,ys,rfl,h2,_,h3⟩:=h1.lst_inv;exact d7 pins s σ H _ us Q I r ⟨a,ys,rfl,.inl (cM.of h2),λl hl=>q _ _ (PR.oA hl λA w=>ej.aN w.1 h2)⟩
  ·cases he;obtain⟨x,rfl,h1⟩:=aZ hx;obtain⟨a,ys,rfl,h2,h3⟩:=h1.af;exact d7 pins s σ H _ us Q I r ⟨a,ys,rfl,.inr (d5.of h2),λl hl=>q _ _ (PR.oA hl λA w=>ej.ar w.1 h2)⟩
  ·cases he;obtain⟨x,rfl,h1⟩:=aZ hx;obtain⟨a,rfl,h2⟩:=h1.iy;exact d7 pins s σ H _ us Q I r ⟨a,_,rfl,.inl h2,λl hl=>q _ _ (PR.oA hl λA w=>gD)⟩
  ·cases he
 ·split at he
  ·cases he;obtain⟨x,rfl,h1⟩:=aZ hx;exact kS pins s σ H _ us Q I r (.inl ⟨_,by rw[h1.int_inv],q _ _ (PR.sc (d:= .int _) rfl)⟩)
  ·cases he;obtain⟨x,rfl,h1⟩:=aZ hx;exact kS pins s σ H _ us Q I r (.inr ⟨_,by rw[h1.aw],q _ _ (PR.sc (d:= .int _) rfl)⟩)
  ·cases he
 ·cases hr
 ·split at he
  ·split at he
   ·rename_i ns pe;obtain⟨g,he⟩:=aC he;cases he;obtain⟨x,rfl,h1⟩:=aZ hx;obtain⟨a,ys,rfl,h2,_,h3⟩:=h1.lst_inv;rw[eT h3 pe] at h2;have gg:ns≠[]:=λe=>by rw[e] at g;cases g
    refine Mx.sW hc pins s σ H _ us Q I r ⟨a,ns,rfl,cM.of h2,gg,λm m1 m2=>?_⟩;have:=dQ ns gg;have e:m=cO ns:=Int.le_antisymm (this.2 _ m1) (m2 _ this.1);rw[e];exact q _ _ (PR.sc (d:= .int _) rfl)
   ·cases he
  ·cases he
 ·split at he
  ·rename_i i j;obtain⟨g,he⟩:=aC he;cases he;obtain⟨x,y,rfl,h1,h2⟩:=AI hx;rw[Pw] at g;refine Mx.lW pins s σ H _ us Q I r ⟨i,j,by rw[h1.int_inv,h2.int_inv],Py g.1,Py g.2,λp hp=>q _ _ (PR.wD hp λA w=>ak.cons RV.cP (ak.cons RV.cP ak.nil))⟩
  ·cases he
end
structure Fm where
 K:Frag
 H0:Hp
 d0:Option Addr
 Ek:Nat->Prop
 P:Program
 w:World
structure Ow where
 W:Addr->Prop
 A:Addr->Prop
 dr:Option Addr
noncomputable def Ow.wd (o:Ow):Addr->Prop:=λa=>o.W a\/o.dr=some a
noncomputable def Ow.d (o:Ow):Addr->Prop:=λa=>o.dr=some a
noncomputable def OV (Φ:Fm) (o:Ow) (H:Hp) (v:V):Dt->Prop
 | .lst ds=>∃a xs,v= .ref a/\H a=some (.lst xs)/\o.A a/\¬o.W a/\o.dr≠some a/\Φ.H0 a=none/\ak Φ.K o.A H xs ds
 | .fg ks vs=>False
 | d=>RV Φ.K o.A H v d
structure ER (Φ:Fm) (Γ:Gm) (o:Ow) (ρ:ai) (S:Sx) (σ:L2.St) (H:Hp):Prop where
 len:σ.length=ρ.length
 wa:∀a,o.W a->o.A a
 da:∀a,o.dr=some a->o.A a
 al:∀a,o.A a->∃x,H a=some x
 val:∀(i:Nat) (d:Dt),ρ[i]?=some (some d)->∃v,σ[i]?=some (some v)/\(if et Γ i=true then OV Φ o H v d else RV Φ.K o.A H v d)
 dk:∀(i:Nat) (ks vs:List Dt),ρ[i]?=some (some (.fg ks vs))->Γ.κ=some i
 inj:∀(i j:Nat) (a:Addr) (d e:List Dt),et Γ i=true->et Γ j=true->ρ[i]?=some (some (.lst d))->ρ[j]?=some (some (.lst e))->σ[i]?=some (some (.ref a))->σ[j]?=some (some (.ref a))->i=j
 drw:∀a,o.dr=some a->∃ns:List Int,S=some ns/\H a=some (.lst (ns.map V.int))
 drn:o.dr=none->S=none
 drs:∀(i:Nat) (a:Addr),Γ.δ=some i->o.dr=some a->σ[i]?=some (some (.ref a))
 dr0:∀a,o.dr=some a->Φ.d0=some a\/Φ.H0 a=none
 ent:aX (λb=>Φ.d0=some b) Φ.H0 H
section
variable {Φ:Fm} {Γ:Gm} {o:Ow} {ρ:ai} {S S':Sx} {σ:L2.St} {H H':Hp}
noncomputable def nD:Dt->Bool
 | .fg _ _=>false
 | _=>true
theorem OV.val {v:V} {d:Dt} (h:OV Φ o H v d) (nd:nD d=true) (wa:∀a,o.W a->o.A a) (da:∀a,o.dr=some a->o.A a):RV Φ.K o.wd H v d:=by
 have hw:∀b,o.wd b->o.A b:=λb z=>z.elim (wa b) (da b)
 cases d with
 | lst ds=>obtain⟨a,xs,rfl,h1,h2,h3,h4,_,h5⟩:=h;exact RV.c7 h1 (λz=>z.elim h3 h4) (h5.weak hw)
 | fg=>cases nd
 | _=>exact RV.weak h hw
theorem OV.one {v:V} {d:Dt} (h:OV Φ o H v d) (nd:nD d=true):ej Φ.K o.A H v d:=by
 cases d with
 | lst ds=>obtain⟨a,xs,rfl,h1,h2,h3,h4,_,h5⟩:=h;exact⟨a,xs,rfl,h1,h5⟩
 | fg=>cases nd
 | _=>exact h
theorem OV.ext {v:V} {d:Dt} (h:OV Φ o H v d) (da:∀a,o.dr=some a->o.A a) (e:aX o.d H H'):OV Φ o H' v d:=by
 cases d with
 | lst ds=>obtain⟨a,xs,rfl,h1,h2,h3,h4,h6,h5⟩:=h;exact⟨a,xs,rfl,e.kp _ _ h1 h4,h2,h3,h4,h6,h5.mono e da λ_ z=>z⟩
 | fg=>exact h.elim
 | _=>exact RV.mono e da (λ_ z=>z) h
theorem Dk.set {κ:Option Nat} {i:Nat} {d:Dt} (h:∀(i:Nat) (ks vs:List Dt),ρ[i]?=some (some (.fg ks vs))->κ=some i) (nd:nD d=true):∀(j:Nat) (ks vs:List Dt),(ρ.set i (some d))[j]?=some (some (.fg ks vs))->κ=some j:=λj ks vs hj=>by
 by_cases e:j=i
 ·subst e;rw[List.getElem?_set] at hj;simp only[if_true] at hj;split at hj
  ·cases hj;cases nd
  ·cases hj
 ·rw[PZ (Ne.symm e)] at hj;exact h j ks vs hj
theorem RV.nd {K:Frag} {A:Addr->Prop} {v:V} {d:Dt} (h:RV K A H v d):nD d=true:=by
 cases d with
 | fg=>unfold RV at h;exact h.elim
 | _=>rfl
theorem ER.nd (er:ER Φ Γ o ρ S σ H) {i:Nat} {d:Dt} (h:ρ[i]?=some (some d)) (n:Γ.κ≠some i):nD d=true:=by
 cases d with
 | fg ks vs=>exact absurd (er.dk i ks vs h) n
 | _=>rfl
theorem ER.gf (er:ER Φ Γ o ρ S σ H):∀b,o.wd b->o.A b:=λb z=>z.elim (er.wa b) (er.da b)
theorem ER.uO (er:ER Φ Γ o ρ S σ H):∀b,o.wd b->∃x,H b=some x:=λb z=>er.al b (er.gf b z)
theorem aX.al {X:Addr->Prop} (e:aX X H H') {b:Addr} {x:HO} (h:H b=some x) (hx:X b->∃y,H' b=some y):∃y,H' b=some y:=by
 by_cases z:X b
 ·exact hx z
 ·exact⟨x,e.kp _ _ h z⟩
theorem ER.step (er:ER Φ Γ o ρ S σ H) (e:aX o.d H H') (hd:∀a,o.dr=some a->∃ns:List Int,S'=some ns/\H' a=some (.lst (ns.map V.int))) (hn:o.dr=none->S'=none):ER Φ Γ o ρ S' σ H' where
 len:=er.len
 wa:=er.wa
 da:=er.da
 al:=λa ha=>by obtain⟨x,hx⟩:=er.al a ha;exact e.al hx λz=>by obtain⟨ns,_,h⟩:=hd a z;exact⟨_,h⟩
 val:=λi d h=>by
  obtain⟨v,h1,h2⟩:=er.val i d h;refine⟨v,h1,?_⟩;by_cases m:et Γ i=true
  ·rw[if_pos m] at h2 ⊢;exact h2.ext er.da e
  ·rw[if_neg m] at h2 ⊢;exact h2.mono e er.da λ_ z=>z
 dk:=er.dk
 inj:=er.inj
 drw:=hd
 drn:=hn
 drs:=er.drs
 dr0:=er.dr0
 ent:=⟨λb x h n=>by
   refine e.kp _ _ (er.ent.kp b x h n) λz=>?_
   rcases er.dr0 b z with q | q
   ·exact n q
   ·(rw[h] at q;cases q),λb xs h=>e.tp _ _ (er.ent.tp b xs h)⟩
theorem ER.re {Φ':Fm} (e:Φ'={Φ with Ek:=Φ'.Ek}) (er:ER Φ Γ o ρ S σ H):ER Φ' Γ o ρ S σ H:=by
 rw[e];refine⟨er.len,er.wa,er.da,er.al,λi d h=>?_,er.dk,er.inj,er.drw,er.drn,er.drs,er.dr0,er.ent⟩;obtain⟨v,h1,h2⟩:=er.val i d h;refine⟨v,h1,?_⟩;by_cases m:et Γ i=true
 ·rw[if_pos m] at h2 ⊢;cases d <;> exact h2
 ·rw[if_neg m] at h2 ⊢;exact h2
theorem ER.grow (er:ER Φ Γ o ρ S σ H) (s:bj H H'):ER Φ Γ o ρ S σ H':=er.step (aX.of_same s) (λa h=>by
 obtain⟨ns,h1,h2⟩:=er.drw a h;exact⟨ns,h1,s _ _ h2⟩) er.drn
end
noncomputable def mR (Ek:Nat->Prop) {α:Type} (r:R α) (P:α->Prop):Prop:=match r with
 | .ok a=>P a
 | .ex k=>Ek k
 | .bad=>False
section
variable {Ek:Nat->Prop} {α β:Type}
theorem aa {r:R α} {f:α->R β} {P:β->Prop}:mR Ek (r.bind f) P↔mR Ek r λa=>mR Ek (f a) P:=by cases r <;> rfl
theorem ag {r:R α} {P Q:α->Prop} (h:mR Ek r P) (hq:∀a,r= .ok a->P a->Q a):mR Ek r Q:=by
 cases r with
 | ok a=>exact hq a rfl h
 | ex k=>exact h
 | bad=>exact h
theorem aE {b:Bool} {r:R α} {P:α->Prop} (h:mR Ek (ae b r) P):b=true/\mR Ek r P:=by
 cases b with
 | true=>exact⟨rfl,h⟩
 | false=>exact h.elim
end
structure EO (K:Frag) (fr:Nat->Bool) (o:Ow) (c:C) (H:Hp) (d:Dt) (v:V) (H':Hp):Prop where
 ext:aX o.d H H'
 val:RV K o.wd H' v d
 cY:lk c=0->RV K o.A H' v d
 oS:lk c<=1->ej K o.A H' v d
 dY:fresh fr c=true->∀ds,d= .lst ds->∃a xs,v= .ref a/\H a=none/\H' a=some (.lst xs)/\ak K (λb=>o.wd b\/b=a) H' xs ds/\(lk c=0->ak K (λb=>o.A b\/b=a) H' xs ds)
structure MK (K:Frag) (o:Ow) (cs:Cs) (H:Hp) (ds:List Dt) (vs:List V) (H':Hp):Prop where
 ext:aX o.d H H'
 val:ak K o.wd H' vs ds
 cY:ou cs=0->ak K o.A H' vs ds
 oS:ou cs<=1->lN K o.A H' vs ds
section
variable (Φ:Fm) (Γ:Gm) (F:FT) (fr:Nat->Bool)
inductive bK (c:C) (σ:L2.St) (H:Hp) (Q:VK):Prop
 | mk (o:Ow) (ρ:ai) (S:Sx) (e:ER Φ Γ o ρ S σ H) (m:mR Φ.Ek (ev F c ρ S) λp=>∀v H',EO Φ.K fr o c H p.1 v H'->ER Φ Γ o ρ p.2 σ H'->Q v H'):bK c σ H Q
inductive eG (c:C) (σ:L2.St) (H:Hp) (Q:Bool->Hp->Prop):Prop
 | mk (o:Ow) (ρ:ai) (S:Sx) (e:ER Φ Γ o ρ S σ H) (m:mR Φ.Ek (bV F c ρ S) λp=>∀H',aX o.d H H'->ER Φ Γ o ρ p.2 σ H'->Q p.1 H'):eG c σ H Q
inductive kJ (cs:Cs) (σ:L2.St) (H:Hp) (Q:List V->Hp->Prop):Prop
 | mk (o:Ow) (ρ:ai) (S:Sx) (e:ER Φ Γ o ρ S σ H) (m:mR Φ.Ek (fR F cs ρ S) λp=>∀vs H',MK Φ.K o cs H p.1 vs H'->ER Φ Γ o ρ p.2 σ H'->Q vs H'):kJ cs σ H Q
inductive lF (cs:Cs) (σ:L2.St) (H:Hp) (Q:Bool->Hp->Prop):Prop
 | mk (o:Ow) (ρ:ai) (S:Sx) (e:ER Φ Γ o ρ S σ H) (m:mR Φ.Ek (a8 F cs ρ S) λp=>∀H',aX o.d H H'->ER Φ Γ o ρ p.2 σ H'->Q p.1 H'):lF cs σ H Q
end
structure Wk (K:Frag) (A X:Addr->Prop) (J:It) (H:Hp) (ds:List Dt):Prop where
 go:∀(i:Nat) (H1:Hp),i < ds.length->aX X H H1->J.go i H1
 stop:∀(H1:Hp),aX X H H1->J.stop ds.length H1
 yld:∀(i:Nat) (x:V) (H1 H2:Hp),i < ds.length->aX X H H1->J.yld i H1 x H2->bj H1 H2/\∃d,ds[i]?=some d/\∀B:Addr->Prop,(∀b,B b->A b\/H b=none)->RV K B H2 x d
structure IO (K:Frag) (o:Ow) (it:lK) (nl:Bool) (H:Hp) (ds:List Dt) (J:It) (H':Hp):Prop where
 ext:aX o.d H H'
 w1:rN it<=1->Wk K o.A o.d J H' ds
 w0:rN it=0->Wk K o.A o.A J H' ds
 w2:nl=true->Wk K o.A o.A J H' ds
inductive nk (Φ:Fm) (Γ:Gm) (F:FT) (it:lK) (σ:L2.St) (H:Hp) (Q:It->Hp->Prop):Prop
 | mk (o:Ow) (ρ:ai) (S:Sx) (e:ER Φ Γ o ρ S σ H) (m:mR Φ.Ek (dE F it ρ S) λp=>∀J H',IO Φ.K o it (kB F it ρ S) H p.1 J H'->ER Φ Γ o ρ p.2 σ H'->Q J H'):nk Φ Γ F it σ H Q
structure GX (g:G) (Γ:Gm) (X:Cx):Prop where
 N:X.N=Γ.N
 nd:Γ.N.Nodup
 vis:∀x,xV (Γ.names.lookup x)=true->Eu X.env.scope x
 loc:∀x,wA (Γ.names.lookup x)=true->Loc X.env.scope x/\(X.fn x=true\/X.env.scope.names.lookup x=some .local)
 gl:∀x,tF (Γ.names.lookup x)=true->Gl X x
 fre:∀x,(Γ.names.lookup x=some .cell\/Γ.names.lookup x=some .free)->(X.env.scope.names.lookup x=some .cell\/X.env.scope.names.lookup x=some .free)
 calm:X.calm=true
 un:X.A.units + 150 < cLine
 con:∀x d,g.cons.lookup x=some d->∃u,nC d=true/\X.mg x=some u/\RelV (mV d) u
 bl:∀x∈g.bls,X.mg x=none
structure FO (K:Frag) (W:Addr->Prop) (dr:Option Addr) (fr:Bool) (H:Hp) (d:Dt) (S':Sx) (v:V) (H':Hp):Prop where
 ext:aX (λb=>dr=some b) H H'
 val:RV K W H' v d
 drw:∀a,dr=some a->∃ns:List Int,S'=some ns/\H' a=some (.lst (ns.map V.int))
 dY:fr=true->∀ds,d= .lst ds->∃a xs,v= .ref a/\H a=none/\H' a=some (.lst xs)/\ak K (λb=>W b\/b=a) H' xs ds
noncomputable def Mu (K:Frag) (xv:Nat->Value) (F:List Dt->Sx->R (Dt×Sx)) (np:Nat) (fr bf:Bool):Sp:=λvs H Q E=>
 vs.length=np/\∃(W:Addr->Prop) (dr:Option Addr) (args:List Dt) (S:Sx) (uD:List V),
  (if bf=true then∃(a:Addr) (ns:List Int),vs= .ref a::uD/\dr=some a/\W a/\S=some ns/\H a=some (.lst (ns.map V.int)) else vs=uD/\dr=none/\S=none)/\
  ak K W H uD args/\(∀a,W a->∃x,H a=some x)/\
  match F args S with
  | .ok p=>∀v H',FO K W dr fr H p.1 p.2 v H'->Q v H'
  | .ex k=>∀H',aX (λb=>dr=some b) H H'->E (xv k) none H'
  | .bad=>False
noncomputable def iD (Φ:Fm) (xv:Nat->Value):XK:=λv _ H'=>∃k,v=xv k/\Φ.Ek k/\aX (λb=>Φ.d0=some b) Φ.H0 H'
structure FX (g:G) (xv:Nat->Value) (CX:iX) (P:Program) (w:World) (K:Frag) (mg:Str->Option Value) (base:Heap) (n k:Nat) (F:FT):Prop where
 fn:∀x f np eQ bf,pO x g.fns=some (f,np,eQ,bf)->∃(fa:Addr) (fd:FuncData) (ps:List Str),ps.length=np/\mg x=some (.ref fa)/\PySem.W.keepIn K (.ref fa)=true/\
  gW P w K mg base CX k fa fd ps (Mu K xv (F f) np (g.fr f) bf)/\(∀j,j<=eQ.length->∃ds,au ((eQ.drop j).map mV) ds/\Binds K fd ps ds)/\eQ.all nC=true
end Rx
end
section
namespace L2
open PySem PySem.Spec PyProof.Rows
abbrev BY:List Value:=[.type "ValueError",.type "Exception",.type "BaseException",.type "object"]
theorem wH {K:PySem.W.Frag} {h h':Heap} {N:Addr} {m:Str->Option Value} (X:K.In h) (X':K.In h') (ok:PySem.W.nsOkIn K N=true) (G:h.Ns N m):h'.Ns N m:=by
 unfold PySem.W.nsOkIn at ok;split at ok
 ·rename_i lk;obtain⟨ob,es,ep,e1,rest⟩:=G;have e2:=X _ _ lk;rw[e1] at e2;cases e2;exact⟨_,es,ep,X' _ _ lk,rest⟩
 ·cases ok
theorem tw {K:PySem.W.Frag} {C:Addr} {AY:List Value} {newId:String} {h:Heap} (X:K.In h) (q:PySem.W.excIn K C AY newId=true):
  ∃(bm:List Value) (ns:Addr) (nm qn:Str) (bs:List Value) (hd:Bool) (sn:List Str) (sub:List Value) (ab:Bool) (col:Option Bool) (dd:Option Addr) (k0 k1 k2 k3 k5:Option Value) (mN:Str->Option Value),mN "__init__"=none/\
   ∀h':Heap,K.In h'->h'.get? C=some (excClassObj nm qn C ns bs bm hd sn sub ab col dd k0 k1 k2 k3 k5 newId)/\h'.Ns ns mN/\OwnTail h' AY bm:=by
 unfold PySem.W.excIn at q;split at q
 ·rename_i Jp cdt EM Ku;split at q
  ·rename_i D tl s0 s1 s2 s3 idn s5 em es;rw[Pw,Pw,Pw,Pw,Pw] at q;obtain⟨⟨⟨⟨⟨q1,q2⟩,q3⟩,q4⟩,q5⟩,q6⟩:=q;have d1:D=C:=P6 q1;have d2:idn=newId:=P6 q2;have d3:cdt.hasDel=false:=by simpa using q3
   have d6:=P6 q6;subst d1 d2;cases cdt with
   | mk nm bs mro ns qn hd sn sub ab col del=>
    have e1:mro=Value.ref D::tl:=em;have e2:del=false:=d3;subst e1 e2;have e3:EM=#[s0,s1,s2,s3,some (Value.builtin idn),s5]:=by
     cases EM with
     | mk l=>have e:l=_:=es;rw[e]
    subst e3;refine⟨tl,ns,nm,qn,bs,hd,sn,sub,ab,col,Jp,s0,s1,s2,s3,s5,h.nsMap ns,PySem.W.nsMap_none_of_in X q5 d6,λh' X'=>⟨X' _ _ Ku,?_,PySem.W.tail_of_in X' q4⟩⟩;exact wH X X' q5 (Heap.Ns.of_isNs (PySem.W.isNs_of_in X q5))
  ·cases q
 ·cases q
noncomputable def PM (X:Cx) (e:Expr) (p:St->Prop):Prop:=∀(pins:List (Addr×Obj)) (s:Shared) (σ:St) (H:Hp) (Q:Value->Shared->Prop),Inv X pins σ H s->p σ->(∀u s',s'.heap=s.heap->Inv X pins σ H s'->Q u s')->wpAny (model X.prog X.w) X.A (eval e X.env) Q X.xe s
noncomputable def E0 (X:Cx) (e:Expr) (p:St->Prop):Prop:=∀(pins:List (Addr×Obj)) (s:Shared) (σ:St) (H:Hp) (Q:Value->Shared->Prop),Inv X pins σ H s->p σ->(∀(y:Str) t s',y.length<=1000->s'.heap=s.heap->Inv X pins σ H s'->Q (.str y t) s')->wpAny (model X.prog X.w) X.A (eval e X.env) Q X.xe s
noncomputable def E3 (X:Cx) (es:List Expr) (p:St->Prop):Prop:=∀(out:Str) (pins:List (Addr×Obj)) (s:Shared) (σ:St) (H:Hp) (Q:Value->Shared->Prop),Inv X pins σ H s->p σ->out.length + 1000 * es.length<=sizeLine->(∀u s',s'.heap=s.heap->Inv X pins σ H s'->Q u s')->
 wpAny (model X.prog X.w) X.A (joinParts out (evalEach es X.env)) Q X.xe s
theorem oW {X:Cx} {pins:List (Addr×Obj)} {σ:St} {H:Hp} {s:Shared} (I:Inv X pins σ H s) (k:Nat):Inv X pins σ H {s with toks:=k}:=I.tok k
section
variable {X:Cx}
theorem Dz {x:Str} {j pos} {p:St->Prop}:PM X (.Constant (.str x) j pos) p:=λpins s σ H Q I _ q=>Calls.Constant_str (q _ _ rfl (I.tok _))
theorem Ah {x:Str} {j pos} {p:St->Prop} (h:x.length<=1000):E0 X (.Constant (.str x) j pos) p:=λpins s σ H Q I _ q=>Calls.Constant_str (q _ _ _ h rfl (I.tok _))
theorem kb (n:Nat) (h:n < 10 ^ 19):(Str.ofString (toString (n:Int))).length<=1000:=by
 have e:=int_text_length_le10 (a:=(n:Int)) (k:=19) (by decide) (by lia);rw[PySem.ofString_length]
 lia
theorem log2_small {n:Nat} (h:n < 10 ^ 19):((n:Int)).natAbs.log2 < 1920:=by
 have e:((n:Int)).natAbs=n:=rfl;rw[e];by_cases hz:n=0
 ·subst hz;decide
 ·have:=(Nat.log2_lt hz (k:=1920)).mpr (P4 h (by decide +kernel));exact this
theorem Ai {i:Nat} {x:Str} {pos Ce:Pos} (hN:X.N[i]?=some x) (hv:Eu X.env.scope x) (hd:(x==("__debug__":Str))=false) (ux:(x==("__classdict__":Str))=false):E0 X (.FormattedValue (.Name x pos) (-1) none Ce) (λσ=>∃n:Nat,σ[i]?=some (some (.int n))/\n < 10 ^ 19):=by
 intro pins s σ H Q I ⟨n,h1,h2⟩ q;obtain⟨m,hn,hl⟩:=I.loc;obtain⟨u,r,l⟩:=hl i x _ hN h1 hv;obtain⟨t,rfl⟩:=r;have fin:wpAny (model X.prog X.w) X.A (formatField (.int n t) Str.empty) Q X.xe s:=formatField_int_small (log2_small h2) (q _ _ _ (kb n h2) rfl (oW I _));rcases l with ⟨hk,hm⟩ | ⟨hk,c,hc,n0⟩
 ·exact FormattedValue_plain (wpAny_Name (wpAny_loadName_local I.ok.kind hk hn hm fin) hd)
 ·rcases hk with hk | hk
  ·exact FormattedValue_plain (wpAny_Name (wpAny_loadName_cell I.ok.kind hk hc n0 fin) hd)
  ·exact FormattedValue_plain (wpAny_Name (wpAny_loadName_free I.ok.kind hk hc n0 fin ux) hd)
theorem wX {n:Nat} {u:Value} {x:Str} {pos Ce:Pos} {p:St->Prop} (hg:Gl X x) (hm:X.mg x=some u) (r:RelV (.int n) u) (h2:n < 10 ^ 19) (hd:(x==("__debug__":Str))=false):E0 X (.FormattedValue (.Name x pos) (-1) none Ce) p:=by intro pins s σ H Q I _ q;obtain⟨t,rfl⟩:=r;exact FormattedValue_plain (gG I hg hm (formatField_int_small (log2_small h2) (q _ _ _ (kb n h2) rfl (oW I _))) hd)
theorem Aj {p:St->Prop}:E3 X [] p:=λout pins s σ H Q I _ hl q=>joinParts_nil (q _ _ rfl (I.tok _)) (by simpa using hl)
theorem wY {e:Expr} {es:List Expr} {p:St->Prop} (he:E0 X e p) (ht:E3 X es p) (hs:evalEach (e::es) X.env=eval e X.env::evalEach es X.env):E3 X (e::es) p:=by intro out pins s σ H Q I hp hl q;rw[hs];refine joinParts_cons (he pins s σ H _ I hp λy t s' hy hh I'=>?_);have e1:(out++y).length=out.length + y.length:=strLen_append ..;rw[P0] at hl;refine⟨by rw[e1];lia,ht (out++y) pins s' σ H Q I' hp (by rw[e1];lia) λu s'' h2 I2=>q u s'' (h2.trans hh) I2⟩
theorem t7 {e1 e2:Expr} {es:List Expr} {p:St->Prop} {pos:Pos} (h:E3 X (e1::e2::es) p) (hl:(e1::e2::es).length<=100):PM X (.JoinedStr (e1::e2::es) pos) p:=by intro pins s σ H Q I hp q;have hz:Str.empty.length=0:=rfl;have zx:=sizeLine_eq;exact JoinedStr_many (h Str.empty pins s σ H Q I hp (by lia) q)
end
noncomputable def D5 (cls:Value) (E:XK) (p:St->Prop):TS:=λ_ σ H=>p σ/\E cls none H
section
variable {X:Cx} {E:XK} {C:Addr} {c:Str} {arg:Expr} {p:St->Prop} {np df pos:Pos}
theorem zT {N:Nat} {H:Hp} {h h':Heap} {a:Addr} {cls:Value} {args:List Value} (hN:N<=h.objs.size) (fresh:∀b,h.objs.size<=b->H b=none) (dd:Mx.Dd h h') (m:Heap.MadeExcOf h h' a cls args):gj N cls a H h':=by
 obtain⟨t,e1,e2,e3⟩:=m.there;have ge:h.objs.size<=a:=by
  rcases Nat.lt_or_ge a h.objs.size with hl | hl
  ·have:=dd.none a hl m.new;rw[e1] at this;cases this
  ·exact hl
 refine⟨PP hN ge,fresh a ge,⟨_,_,e1,⟨rfl,rfl⟩,rfl,.inl rfl⟩,λT z=>?_⟩;obtain⟨o,vs,z1,z2,z3⟩:=z;rw[e1] at z1;cases z1;cases z2;cases z3
theorem xa (hh:X.A.handled=none) (Bb:X.pn=[]) (hg:Gl X c) (hm:X.mg c=some (.ref C)) (hC:PySem.W.excIn X.K C BY "ValueError.__new__"=true) (hx:∀e s',gV X E e s'->X.xe e s') (he:PM X arg p)
  (jH:starEach [arg] X.env=[(false,eval arg X.env)]) (og:(c==("__debug__":Str))=false):PS X (.Raise (some (.Call (.Name c np) [arg] [] df)) none pos) (D5 (.ref C) E p):=by
 intro pins s σ H D I h;obtain⟨h1,h2⟩:=h;obtain⟨bm,ns,nm,qn,bs,hd,sn,sub,ab,col,dd,k0,k1,k2,k3,k5,mN,N5,F⟩:=tw I.jb hC;have T0:=(F _ I.jb).2.2;have nX:bm.contains (.type "BaseException")=true:=T0.hasType PySem.F.excBase_ValueError.hasBase;have k7:(backTo df (starEach [arg] X.env)).any (·.1)=false:=by rw[jH];rfl
 refine Mx.kL (wpAny_mono (Q:=λ_ _=>False) (E:=λe s'=>X.xe e s'\/∃s2 a args,e= .ref a/\s2.heap=s.heap/\Inv X pins σ H s2/\s'={s2 with heap:=s'.heap}/\Heap.MadeExcOf s2.heap s'.heap a (.ref C) args) ?_ (λ_ _ z=>z.elim) λe s' z hd=>?_)
 ·refine wpAny_Raise_call_subT (C:=C) (nm:=nm) (q:=qn) (N:=ns) (bs:=bs) (bm:=bm) (hdct:=hd) (sn:=sn) (sub:=sub) (ab:=ab) (col:=col) (dd:=dd) (k0:=k0) (k1:=k1) (k2:=k2) (k3:=k3) (k5:=k5) PySem.F.excBase_ValueError nX hh k7 N5 (gG I hg hm ⟨rfl,?_⟩ og);rw[jH];refine Calls.evalArgs_plain ?_;refine Calls.spliced_cons (wpAny_mono (he pins s σ H (λu s'=>s'.heap=s.heap/\Inv X pins σ H s') I h1 λu s' a b=>⟨a,b⟩) (λu s1 ⟨NQ,I1⟩=>?_) λ_ _ z=> .inl z);refine Calls.spliced_nil ⟨rfl,(by show 1<=sizeLine;decide),(F _ I1.jb).1,(F _ I1.jb).2.1,(F _ I1.jb).2.2,λh' e m=> .inr ⟨s1,e,_,rfl,NQ,I1,rfl,m⟩⟩
 ·rcases z with z | ⟨s2,a,args,rfl,NR,I2,hs,m⟩
  ·exact z
  ·rw[hs];refine hx _ _ ⟨σ,H,a,.ref C,rfl,?_,?_,h2⟩
   ·exact(I2.kept (t':=s2.toks) (h':=s'.heap) m.keeps).fq λp hp=>by cases hp
   ·exact zT I2.sz (λb hb=>I2.hok.fresh hb) (by rw[NR];exact hd) m
end
structure uL (K:PySem.W.Frag) (D:Addr):Prop where
 ga:PySem.W.findIn K (.ref D) "__getattribute__"=some (some (.builtin "BaseException.__getattribute__"))
 na:PySem.W.findIn K (.ref D) "__getattr__"=some none
 sb:PySem.W.subIn K (.ref D) (.type "BaseException")=some true
 fi:PySem.W.findIn K (.ref D) "__class__"=some (some (.builtin "object.__class__"))
 sp:PySem.W.specialIn K (.builtin "object.__class__") "__get__"=some (some (.builtin "getset_descriptor.__get__"))
 tk:PySem.W.takesIn K (.builtin "object.__class__")=some true
 mr:PySem.W.mroIn K D (.type "object")=some true
theorem zg {K:PySem.W.Frag} {D:Addr} {AY:List Value} {newId:String} (q:PySem.W.excIn K D AY newId=true):∃c dd cd sl,K.lookup D=some ⟨c,dd,.cls cd,sl⟩:=by
 unfold PySem.W.excIn at q;split at q
 ·rename_i Ku;exact⟨_,_,_,_,Ku⟩
 ·cases q
theorem Fz:(Value.builtin "BaseException.__getattribute__"==Value.builtin "object.__getattribute__")=false:=by decide +kernel
theorem vK {prog:Program} {w:World} {A:Around} {E:Value->Shared->Prop} {s:Shared} {x D:Addr} {rT:Value} {Q:Unit->Shared->Prop} (L:PySem.W.Looks (model prog w) s.heap (isInstance (.ref x) (.type "BaseException")) true) (hq:Q () s):wpAny (model prog w) A (checkBuiltinCall "BaseException.__getattribute__" ⟨[.ref x,rT],[]⟩) Q E s:=by
 have hk:builtinKind "BaseException.__getattribute__"=some .slot:=by decide +kernel
 have CF:splitId "BaseException.__getattribute__"=some ("BaseException","__getattribute__"):=by decide +kernel
 have ha:=F.args_bexc_ga (.ref x) rT;simp only[checkBuiltinCall,hk,CF];refine Pr (L.at ?_);simp only[Bool.not_true,Bool.false_eq_true,if_false];cases hsig:Manifest.signature? "BaseException.__getattribute__" with
 | none=>exact Pv hq
 | some sig=>simp only[argsOk,hsig] at ha;show wpAny _ A (Bind.checkArgs "BaseException.__getattribute__" sig ⟨[.ref x,rT],[]⟩) _ _ s;rw[show Bind.checkArgs "BaseException.__getattribute__" sig ⟨[.ref x,rT],[]⟩=pure () from ha];exact Pv hq
theorem tv {K:PySem.W.Frag} {x D:Addr} {ox:Obj} (k:uL K D) {cd:ClassData} (hc:PySem.W.clsIn K D=some cd) {prog:Program} {w:World} {A:Around} {E:Value->Shared->Prop} {Q:Option Value->Shared->Prop} {s:Shared} (X:K.In s.heap) (I:PySem.W.InstAt s.heap x ox D none) (q:Q (some (.ref D)) {s with toks:=s.toks + 1}):
  wpAny (model prog w) A (getAttr? (.ref x) "__class__") Q E s:=by
 have hf:PySem.W.findObj K D none "__class__"=some (.bind (.builtin "getset_descriptor.__get__") (.builtin "object.__class__")):=by unfold PySem.W.findObj;rw[hc,Option.bind_some,k.fi,Option.bind_some];simp[k.sp,k.tk]
 have L0:=I.type (M:=model prog w);have L1:=PySem.W.looks_findIn (M:=model prog w) X k.ga;have L2:=PySem.W.looks_findIn (M:=model prog w) X k.na;have L3:=PySem.W.looks_find (M:=model prog w) X I hf;have L4:PySem.W.Looks (model prog w) s.heap (isInstance (.ref x) (.type "BaseException")) true:=L0.andThen (PySem.W.looks_subIn (M:=model prog w) X k.sb);obtain⟨hh,g,d,t,os⟩:=s;unfold getAttr? getAttrBy? getAttrBy;refine Pr (wpAny_mkText (Pr (wpAny_attempt (wpAny_holding (Pr (L0.at (Pr (L1.at ?_))))))));simp only[Fz,Bool.and_false,Bool.false_eq_true,if_false];unfold getAttrByItsOwn;refine Pr ?_;show wpAny _ _ (typeLookup (.ref D) "__getattr__") _ _ _;refine L2.at ?_;refine Pr (wpAny_attempt (wpAny_holding ?_));show wpAny _ _ (boundAndCalled _ _ _) _ _ _;unfold boundAndCalled;refine Pr (wpAny_of_eq (F.excAttr_ValueError.ga.bind (.ref x)) ?_);refine wpAny_call (codeAny_call_builtin F.excAttr_ValueError.ga.plain F.entry_bexc_ga (vK (D:=D) L4 ?_));unfold Builtin.«object.__getattribute__»;refine Pr (Pv (Pr (Pv (Pr (L0.at (Pr (L3.at ?_)))))));show wpAny _ _ (holding [.builtin "object.__class__"] (call (.builtin "getset_descriptor.__get__") [.builtin "object.__class__",.ref x,.ref D]) >>=ret) _ _ _;refine Pr (wpAny_holding (wpAny_call (PySem.W.class_get (ox:=ox) (od:=none) X I k.mr ?_)));refine Pv ?_;show wpAny _ _ (handedOut (.ref D)) _ _ _;exact PySem.W.handed_on rfl (Pv q)
theorem wt {K:PySem.W.Frag} {x D:Addr} {ox:Obj} {AY:List Value} {newId:String} (hq:PySem.W.excIn K D AY newId=true) (k:uL K D):PySem.W.KitX K (.ref x) (.ref D) (λh=>PySem.W.InstAt h x ox D none):=by
 obtain⟨c0,O0,cd,Pq,lk⟩:=zg hq;have hc:PySem.W.clsIn K D=some cd:=by unfold PySem.W.clsIn;rw[lk]
 refine⟨λM h _ I=>I.type,λM h X _=>?_,λh tp dd its n sl X htp=>?_,λ {prog w A E Q s} X I q=>tv k hc X I q⟩
 ·intro A' Q' E' s' kk q;unfold isType loadHead;exact Pr (wpAny_loadPart (kk _ _ (X _ _ lk)) (Pv q))
 ·refine Bool.eq_false_iff.mpr λq=>?_
  have e:D=tp:=by have:=P6 q;cases this;rfl
  rw[<-e,X _ _ lk] at htp;cases htp
noncomputable abbrev Cx.hand (X:Cx) (a:Addr) (o:Obj):Cx:={X with A:=X.A.mark (some (.ref a)),calm:=false,pn:=[(a,o)],xe:=λ_ _=>False}
structure lO (X:Cx) (D a:Addr) (o:Obj):Prop where
 cls:o.cls= .ref D
 Jp:o.dict=none
 dat:∃vs,o.data= .fields vs
section
variable {X:Cx} {σ:St} {H:Hp} {s:Shared} {D a:Addr} {o:Obj}
theorem Inv.hand (Bb:X.pn=[]) (I:Inv X [] σ H s) (F:gj X.s₀.heap.objs.size (.ref D) a H s.heap) (ho:s.heap.get? a=some o) (xr:lO X D a o):Inv (X.hand a o) [] σ H s:=by
 obtain⟨vs,hd⟩:=xr.dat;refine⟨⟨I.ok.mod,I.ok.kind,I.ok.glob,I.ok.blt,I.ok.above,I.ok.inj,I.ok.has,I.ok.yi,(λz=>by cases z),I.ok.frames,I.ok.AA,I.ok.A6,I.ok.bs,I.ok.u7,I.ok.kG,I.ok.mq,I.ok.fS,I.ok.zj⟩,I.os,I.bare,I.base,I.loc,I.cell,I.free,I.cm,λp hp=>?_,I.hok,I.len⟩;have e:p=(a,o):=by simpa using hp
 subst e;refine⟨ho,F.nH,λz=>?_,λz=>?_,λv q=>by rw[hd] at q;cases q⟩
 ·obtain⟨m,⟨o',es,ep,h1,h2,_⟩,_⟩:=I.loc;have z:a=X.env.locals:=z;rw[<-z,ho] at h1;cases h1;rw[hd] at h2;cases h2
 ·obtain⟨_,o',pS,Iw⟩:=I.ok.fS.mem z;have:=F.ge;have cJ:=PN pS;exact absurd (P4 cJ this) (Nat.lt_irrefl _)
theorem Inv.Ef (Bb:X.pn=[]) (I:Inv (X.hand a o) [] σ H s) (hc:X.calm=true->X.A.handled=none):Inv X [] σ H s:=
 ⟨⟨I.ok.mod,I.ok.kind,I.ok.glob,I.ok.blt,I.ok.above,I.ok.inj,I.ok.has,I.ok.yi,hc,I.ok.frames,I.ok.AA,I.ok.A6,I.ok.bs,I.ok.u7,I.ok.kG,I.ok.mq,I.ok.fS,I.ok.zj⟩,I.os,I.bare,I.base,I.loc,I.cell,I.free,I.cm,(λp hp=>(by rw[Bb] at hp;cases hp)),I.hok,I.len⟩
theorem rD (I:Inv (X.hand a o) [] σ H s) (xr:lO X D a o):PySem.W.InstAt s.heap a o D none:=by obtain⟨vs,hd⟩:=xr.dat;refine⟨(I.pin (a,o) (by simp)).1,xr.cls,by unfold PySem.W.notCls;rw[hd],?_⟩;rw[xr.Jp];trivial
end
noncomputable def WX (X:Cx) (σ0:St) (XE:Value->Hp->Prop) (e:Value) (s':Shared):Prop:=∃H' a cls,e= .ref a/\Inv X [] σ0 H' s'/\gj X.s₀.heap.objs.size cls a H' s'.heap/\XE cls H'
noncomputable def Ib (X:Cx) (st:Stmt) (t:TS):Prop:=∀(s:Shared) (σ:St) (H:Hp) (D:Ends),Inv X [] σ H s->t D σ H->wpAny (model X.prog X.w) X.A (exec st X.env) (SP X [] D) X.xe s
noncomputable def lL (X:Cx) (st:List Stmt) (t:TS):Prop:=∀(s:Shared) (σ:St) (H:Hp) (D:Ends),Inv X [] σ H s->t D σ H->wpAny (model X.prog X.w) X.A (execs st X.env) (SP X [] D) X.xe s
theorem DB {X:Cx} {st:Stmt} {t:TS} (h:PS X st t):Ib X st t:=λs σ H D=>h [] s σ H D
theorem Am {X:Cx} {st:List Stmt} {t:TS} (h:nF X st t):lL X st t:=λs σ H D=>h [] s σ H D
theorem uc {X:Cx} {st:Stmt} {rest:List Stmt} {t u:TS} (h1:Ib X st t) (h2:lL X rest u):lL X (st::rest) (Hz t u):=by
 intro s σ H D I hq;refine wpAny_execs_cons (bH (h1 s σ H {D with nx:=u D} I hq) λf s1 z=>?_);cases f with
 | next=>obtain⟨σ1,H1,I1,q1⟩:=z;exact h2 s1 σ1 H1 D I1 q1
 | brk=>exact z
 | cont=>exact z
 | ret v=>exact z
section
variable {X:Cx} {σ:St} {H:Hp} {s:Shared}
theorem Inv.uY {h':Heap} {m:Str->Option Value} {tk:Nat} (Bb:X.pn=[]) (I:Inv X [] σ H s) (hn:h'.Ns X.env.locals m) (sb:Heap.SameBut X.env.locals s.heap h'):Inv X [] (List.replicate X.N.length none) H {s with heap:=h',toks:=tk}:=by
 have old:∀b o,X.s₀.heap.get? b=some o->b≠X.env.locals:=λb o e=>Qe (P4 (PN e) I.ok.above)
 have nc:∀y c,X.env.cells.lookup y=some c->c≠X.env.locals:=λy c e z=>by obtain⟨v,o,ho,hd⟩:=I.cell y c e;obtain⟨m',⟨o',es,ep,h1,h2,_⟩,_⟩:=I.loc;rw[z,h1] at ho;cases ho;rw[hd] at h2;cases h2
 refine⟨I.ok,I.os,I.bare,⟨λb o e n hb hx=>(sb.2 b (old b o e)).trans (I.base.keep b o e n hb hx),λb o e n hb hx=>?_,I.base.free,λb o e hx=>?_,I.base.tups,I.base.frzs,I.base.tbls⟩,⟨m,hn,λi x v h1 h2=>?_⟩,λy c e=>?_,I.free,I.cm,λp hp=>?_,?_,List.length_replicate⟩
 ·obtain⟨sl,q⟩:=I.base.slot b o e n hb hx;exact⟨sl,(sb.2 b (old b o e)).trans q⟩
 ·obtain⟨o',q⟩:=I.base.there b o e hx;exact⟨o',(sb.2 b (old b o e)).trans q⟩
 ·rw[List.getElem?_replicate] at h2;split at h2 <;> cases h2
 ·obtain⟨v,o,ho,hd⟩:=I.cell y c e;exact⟨v,o,(sb.2 c (nc y c e)).trans ho,hd⟩
 ·rw[Bb] at hp;cases hp
 ·intro b u e;refine(I.hok b u e).mZ (λc v hc q=>?_) (λ_ q=>q) λ_ _ q=>q
  refine(sb.2 c λz=>?_).trans q;subst z;rcases hc with rfl | hc
  ·rw[I.free] at e;cases e
  ·rw[I.free] at hc;cases hc
theorem KA {a:Addr}:(Value.ref a)≠byPass:=by intro q;cases q
variable {tb:St->(Value->Hp->Prop)->TS} {th:Addr->Addr->Obj->TS} {ok:Addr->Prop} {t:Str} {c:Value} {tp hpos pos:Pos} {body gT:List Stmt} {b0:Stmt}
theorem Eb {XE:Value->Hp->Prop} {D:Ends} {nm:Option Str} {Q:Flow->Shared->Prop} (st:dC X) (hg:Gl X t) (hm:X.mg t=some c) (og:(t==("__debug__":Str))=false)
  (hx:∀C,ok C->PySem.W.exmOne X.K (.ref C) c=some true) (NF:∀cls H',XE cls H'->∃C,cls= .ref C/\ok C)
  (go:∀H' a C s1,XE (.ref C) H'->Inv X [] σ H' s1->gj X.s₀.heap.objs.size (.ref C) a H' s1.heap->(∃T,cN s1.heap a T)->
   codeAny (model X.prog X.w) (X.A.mark (some (.ref a))) (.handlers (.ref a) [.ExceptHandler none nm (b0::gT) hpos] X.env) (λr s₂=>match r with
     | .ok f=>(match nm with
      | none=>Q f s₂
      | some n=>wpAny (model X.prog X.w) X.A (do bindName X.env n .none;unbindBehindTheSuite X.env n hpos) (λ_ s₃=>Q f s₃) X.xe s₂)
     | .error x=>cameBackBy (model X.prog X.w) X.A X.env X.xe x s₂) s1)
  {e:Value} {s1:Shared} (w:WX X σ XE e s1):wpAny (model X.prog X.w) X.A (noteFrame e X.env) (λ_ s₂=>wpAny (model X.prog X.w) X.A (setFlight e none) (λ_ s₃=>wpAny (model X.prog X.w) X.A (handleBy e X.env [.ExceptHandler (some (.Name t tp)) nm (b0::gT) hpos]) Q X.xe s₃) X.xe s₂) X.xe s1:=by
 obtain⟨H',a,cls,rfl,I1,F1,hE⟩:=w;obtain⟨C,rfl,hok⟩:=NF cls H' hE;obtain⟨hp,eR,jX,L,e1,e2,e3⟩:=st;have tL:=I1.ok.frames;have hl:=I1.stack;rw[e1] at tL hl;refine qZ tL hl e2 e3 F1 (λb hb=>I1.hok.fresh hb) λh2 x2 f2 t2=>?_
 rw[<-e1] at x2;have I2:=I1.Es hp F1 x2;refine dG (fs:=dY X.stack) f2 t2 λh3 x3 f3 t3=>?_
 have I3:=I2.Es hp f2 x3;obtain⟨o,vs,ho,⟨JV,nZ⟩,hd,_⟩:=id f3.obj;have xr:lO X C a o:=⟨JV,nZ,vs,hd⟩;have HW:=I3.hand hp f3 ho xr;have ia:=rD HW xr;refine wpAny_handleBy_cons (codeAny_handlers_test (gG (X:=X.hand a o) HW hg hm ?_ og)) KA;exact(PySem.W.exm_one (M:=model X.prog X.w) I3.jb ia.type (hx C hok)).here (go H' a C _ hE I3 f3 t3)
end
section
variable {X:Cx} {E:XK} {tb:TS} {t:Str} {c:Value} {tp hpos pos:Pos} {body gT:List Stmt} {b0:Stmt} {i:Nat} {n:Str} {D:Ends}
theorem AG (st:dC X) (FN:X.calm=true->X.A.handled=none) (hg:Gl X t) (hm:X.mg t=some c) (og:(t==("__debug__":Str))=false)
  (hN:X.N.Nodup) (hi:X.N[i]?=some n) (hl:X.env.scope.names.lookup n=some .local) (hb:nF (X.cg (gV X E)) body tb)
  (hh:∀cls H',E cls none H'->∃C,cls= .ref C/\PySem.W.exmOne X.K (.ref C) c=some true/\∀a o,lO X C a o->∃th,nF (X.hand a o) (b0::gT) th/\∀σ,σ[i]?=some (some (.ref a))->σ.length=X.N.length->th {nx:=λ_ _=>False,rt:=D.rt} σ H')
  {s:Shared} {σ:St} {H:Hp} (I:Inv X [] σ H s) (h:tb D σ H):
  wpAny (model X.prog X.w) X.A (exec (.Try body [.ExceptHandler (some (.Name t tp)) (some n) (b0::gT) hpos] [] [] pos) X.env) (SP X [] D) X.xe s:=by
 refine wpAny_Try_except (wpAny_mono (hb [] s σ H D (I.cg _) h) (λf s1 z=>?_) λe s1 w=>?_)
 ·have z':=z.dB;cases f with
  | next=>exact wpAny_execs_nil z'
  | brk=>exact z'
  | cont=>exact z'
  | ret v=>exact z'
 ·obtain⟨σ1,H1,a1,Jo,e1,I1,F1,E1⟩:=w;refine Eb (X:=X) (σ:=σ1) (ok:=λC=>PySem.W.exmOne X.K (.ref C) c=some true) (XE:=λcls H'=>E cls none H') (nm:=some n) (D:=D) st hg hm og (λC h=>h) (λcls H' z=>?_) (λH' a C s2 hE I2 f2 t2=>?_) ⟨H1,a1,Jo,e1,I1,F1,E1⟩
  ·obtain⟨C,e,k,_⟩:=hh cls H' z;exact⟨C,e,k⟩
  ·obtain⟨C',eC,_,Kd⟩:=hh _ H' hE;cases eC;refine codeAny_handlers_suite_as (dG (fs:=dY X.stack) f2 t2 λh3 x3 f3 t3=>?_);have I3:=I2.Es st.pn f2 x3;obtain⟨o,vs,ho,⟨JV,nZ⟩,hd,_⟩:=id f3.obj;have xr:lO X C a o:=⟨JV,nZ,vs,hd⟩;have HW:=I3.hand st.pn f3 ho xr;refine ka (X:=X.hand a o) (v:= .ref a) HW hN hi (.inl hl) rfl (λs4 I4=>?_) (.inr hl);obtain⟨th,hs,Kd⟩:=Kd a o xr;have hlen:i < σ1.length:=by rw[I1.len];exact(Pz.mp hi).1
   refine wpAny_mono (hs [] _ _ H' _ I4 (Kd _ (by simp[hlen]) (by rw[List.length_set];exact I1.len))) (λf s5 z=>?_) λ_ _ z=>z.elim
   cases f with
   | next=>obtain⟨σ',HU,I',q⟩:=z;exact q.elim
   | brk=>obtain⟨σ',HU,I',q⟩:=z;exact q.elim
   | cont=>obtain⟨σ',HU,I',q⟩:=z;exact q.elim
   | ret u=>obtain⟨v,σ',HU,I',r,q⟩:=z;have I5:=I'.Ef st.pn FN;obtain⟨m5,F8,_⟩:=id I5.loc;have zt:X.env.scope.kind= .function:=I5.ok.kind;refine wpAny_nameGoes hl F8 (by rw[zt];rfl) λh6 m6 hn6 sb6=>⟨v,_,HU,I5.uY st.pn hn6 sb6,r,q⟩
theorem wO {C a:Addr} {o:Obj} {x y:Str} {v:V} {b:Bool} {p p1 p2:Pos} {AY:List Value} {newId:String} (xr:lO X C a o) (hq:PySem.W.excIn X.K C AY newId=true) (k:uL X.K C) (NP:Gl X "isinstance") (NZ:X.mg "isinstance"=none) (hx:PE (X.hand a o) (.Name x p1) (iV i)) (hv:PE (X.hand a o) (.Name y p2) (tC v)) (hr:∀u,RelV v u->u=c) (e:PySem.W.kitOne X.K (.ref C) c=some b):
  PE (X.hand a o) (.Call (.Name "isinstance" p) [.Name x p1,.Name y p2] [] pos) (λσ H Q=>σ[i]?=some (some (.ref a))/\Q (.bl b) H):=by
 have hc:ck (X.hand a o) (.builtin "isinstance") (λxs H Q=>xs=[.ref a,v]/\Q (.bl b) H):=by
  intro pins s σ H xs us Q I r ⟨e1,q⟩;subst e1;obtain⟨u1,u2,rfl,r1,r2⟩:=r.two;cases r1;have:=hr _ r2;subst this;have I0:=I.fq (pins':=[]) λp hp=>by cases hp
  exact PySem.W.kia_one (wt hq k) I.jb (rD I0 xr) e (by intro z;cases z) λtk=>⟨.bl b,H,I.tok tk,rfl,q⟩
 intro pins s σ H Q I ⟨h1,h2⟩;exact jY (X:=X.hand a o) hc NP NZ PyProof.Rows.boot_isinstance (bZ hx (bZ hv eW)) (by decide) (by decide) rfl rfl pins s σ H Q I ⟨_,h1,rfl,h2⟩
end
theorem Cc {CX:iX} {P:Program} {w:World} {K:PySem.W.Frag} {mg:Str->Option Value} {base:Heap} {k:Nat} {f:Addr} {name qual:Str} {params:Arguments} {body:List Stmt} {scope:Scope} {dV kV doc pm eI ct oc:Value} {an od:Option Addr}
  {rY:Array (Option Value)} {N ps:List Str} {sp:Sp} (lk:K.lookup f=some ⟨oc,od,.func (PySem.W.fnOf name qual params body scope dV kV doc pm an eI ct),rY⟩) (ux:PySem.W.codeIn K eI qual=true) (S:dZ N ps scope)
  (len:∀vs H Q E,sp vs H Q E->vs.length=ps.length)
  (FM:∀(A:Around) (outer:List Env) (s:Shared) (H:Hp) (vs:List V) (Q:VK) (E:XK),gk k (A.deeper (envOfC qual scope s.heap.objs.size f eI))->sp vs H Q E->
   ∃t,lL (jy CX P w K mg base N qual scope f eI A outer s H E) body t/\t {nx:=λ_ H'=>Q .aP H',rt:=Q} (start N vs) H):
  gW P w K mg base CX (k + 1) f (PySem.W.fnOf name qual params body scope dV kV doc pm an eI ct) ps sp:=by
 refine⟨len,λA outer s H args us vs Q E hr e0 hb r nz=>?_⟩;have KX:K.In s.heap:=e0.mod.CS.keeps λb o e=>(e0.bs b o e).1
 have F3:∀y∈ps.zip us,scope.names.lookup y.1=some .local\/(scope.names.lookup y.1=some .cell/\((cellsFrom (s.heap.objs.size + 1) scope.names []).lookup y.1).isSome=true):=λ⟨n,v⟩ hy=>by
  rcases S.par n (List.of_mem_zip hy).1 with q | q
  ·exact .inl q
  ·exact .inr ⟨q,PySem.W.cellsFrom_some _ _ _ (.inl q)⟩
 refine codeAny_call_function hr.depth (KX _ _ lk) rfl S.co S.gen rfl (PySem.W.codeRec_of KX ux) (hb _ _ _ _ (wpAny_newFunctionEnv_cells S.kind F3 λenv he s1 x=>?_));subst he;refine⟨(e0.mod.nolimit.keeps λb o e=>(e0.bs b o e).1).keeps x.toInCall.keep,codeAny_func ?_⟩;obtain⟨t,ht,hq⟩:=FM A outer s H vs Q E (hr.deeper _) nz;have I:Inv (jy CX P w K mg base N qual scope f eI A outer s H E) [] (start N vs) H s1:=tP S hr.hd e0 (len _ _ _ _ nz) r x;refine wpAny_mono (ht s1 (start N vs) H _ I hq) (λfl s' hs=>?_) λe s' hs=>hs
 have fin:∀{σ':St} {H':Hp} {v:V} {u:Value},Inv (jy CX P w K mg base N qual scope f eI A outer s H E) [] σ' H' s'->RelV v u->Q v H'->CE outer P w H s Q u s':=
  λ {σ' H' v u} J rv q=>⟨v,H',J.os,J.bare,J.base,J.hok,rv,q⟩
 cases fl with
 | ret u=>obtain⟨v,σ',H',J,rv,q⟩:=hs;exact fin J rv q
 | next=>obtain⟨σ',H',J,q⟩:=hs;exact fin (v:=V.aP) (u:=Value.none) J rfl q
 | brk=>obtain⟨_,_,_,q⟩:=hs;exact q.elim
 | cont=>obtain⟨_,_,_,q⟩:=hs;exact q.elim
end L2
end
section
namespace Rx
open PySem PySem.W PySem.Spec PyProof.Rows L2 PySem.SeqAt
noncomputable def Ew (K:Frag) (mg:Str->Option Value) (C:Addr) (ts:List (Str×Bool)):Prop:=excIn K C BY "ValueError.__new__"=true/\uL K C/\
 ∀t b,ts.lookup t=some b->∃c,(mg t=some c/\(∃D,c= .ref D)\/mg t=none/\t="ValueError"/\c= .type "ValueError")/\kitOne K (.ref C) c=some b/\(b=true->exmOne K (.ref C) c=some true)
structure HX (g:G) (xv:Nat->Value) (CX:iX) (k:Nat) (F:FT) (Φ:Fm) (X:Cx):Prop where
 K:Φ.K=X.K
 P:Φ.P=X.prog
 w:Φ.w=X.w
 fx:∃n,FX g xv CX X.prog X.w X.K X.mg X.base n k F
 room:gk k X.A
 cx:CX=ny X.prog X.w
 st:dC X
 xgx:∀e s',gV X (iD Φ xv) e s'->X.xe e s'
 xk:∀k x ts,g.xs[k]?=some (x,ts)->∃C,xv k= .ref C/\X.mg x=some (.ref C)/\Ew X.K X.mg C ts
theorem HX.pass {g:G} {xv:Nat->Value} {CX:iX} {k:Nat} {F:FT} {Φ:Fm} {X:Cx} (h:HX g xv CX k F Φ X):pj CX X (iD Φ xv):=λpins σ H s e s' I c=>by have hc:=h.cx;subst hc;exact h.xgx e s' (x8 I h.st.pn c)
theorem bp {X:Cx} {e:Expr} {t t':TE} (h:PE X e t) (hi:∀σ H Q,t' σ H Q->t σ H Q):PE X e t':=λpins s σ H Q I q=>h pins s σ H Q I (hi σ H Q q)
theorem qm {X:Cx} {e:Expr} {t t':TT} (h:PT X e t) (hi:∀σ H Q,t' σ H Q->t σ H Q):PT X e t':=λpins s σ H Q I q=>h pins s σ H Q I (hi σ H Q q)
theorem xf {X:Cx} {e:Expr} {t t':TT} (h:PW X e t) (hi:∀σ H Q,t' σ H Q->t σ H Q):PW X e t':=λwh pins s σ H Q I q=>h wh pins s σ H Q I (hi σ H Q q)
theorem wL {X:Cx} {e:List Expr} {t t':TA} (h:PA X e t) (hi:∀σ H Q,t' σ H Q->t σ H Q):PA X e t':=λpos pins s σ H Q I q=>h pos pins s σ H Q I (hi σ H Q q)
theorem qj {X:Cx} {tg e:Expr} {t t':TI} (h:PI X tg e t) (hi:∀σ H Q,t' σ H Q->t σ H Q):PI X tg e t':=λpins s σ H Q I q=>h pins s σ H Q I (hi σ H Q q)
section
variable {Φ:Fm} {Γ:Gm} {F:FT} {fr:Nat->Bool} {o:Ow} {ρ:ai} {S:Sx} {σ:L2.St} {H H':Hp}
theorem EO.sc {c:C} {d:Dt} (h:nC d=true):EO Φ.K fr o c H d (mV d) H:=⟨aX.refl,oN h,λ_=>oN h,λ_=>(oN h).one,λ_ ds e=>by subst e;simp[nC] at h⟩
theorem EO.tx {c:C} {d:Dt} {v:V} {H1:Hp} (e:aX o.d H H1) (h:EO Φ.K fr o c H1 d v H') (hf:fresh fr c=true->∀ds,d= .lst ds->∀a,H1 a=none->H a=none):EO Φ.K fr o c H d v H':=
 ⟨e.trans h.ext,h.val,h.cY,h.oS,λf ds ed=>by
  obtain⟨a,xs,h1,h2,h3⟩:=h.dY f ds ed;exact⟨a,xs,h1,hf f ds ed a h2,h3⟩⟩
theorem vA {X:Addr->Prop} {H1:Hp} (e:aX X H H1) (hx:∀b,X b->∃y,H1 b=some y) {a:Addr} (h:H1 a=none):H a=none:=by
 cases q:H a with
 | none=>rfl
 | some x=>obtain⟨y,z⟩:=e.al q (hx a);rw[h] at z;cases z
theorem ER.dR {S1:Sx} {H1:Hp} (az:ER Φ Γ o ρ S1 σ H1) (e:aX o.d H H1) {a:Addr} (h:H1 a=none):H a=none:=vA e (λb z=>az.al b (az.da b z)) h
theorem EO.keep {c:C} {d:Dt} {v:V} {H1 H2:Hp} (h:EO Φ.K fr o c H d v H1) (e:aX o.d H1 H2) (wa:∀b,o.wd b->o.A b):RV Φ.K o.wd H2 v d/\(lk c=0->RV Φ.K o.A H2 v d)/\(lk c<=1->ej Φ.K o.A H2 v d):=by
 have hd:∀b,o.d b->o.wd b:=λb z=> .inr z
 refine⟨h.val.mono e hd λ_ z=>z,λl=>(h.cY l).mono e (λb z=>wa b (hd b z)) λ_ z=>z,λl=>?_⟩;refine(h.oS l).ext e (λb z=>wa b (hd b z)) λds a ed ev z=>?_
 subst ed ev;obtain⟨b,xs,q,_,n,_⟩:=h.val.lst_inv;cases q;exact n (.inr z)
theorem EO.pr {c:C} {xs:List V} {ds:List Dt} {d:Dt} {v:V} {H1 H2:Hp} {S1:Sx} {f:Bool} (az:ER Φ Γ o ρ S1 σ H1) (e:aX o.d H H1) (hv:ak Φ.K o.wd H1 xs ds) (h1:lk c<=1->lN Φ.K o.A H1 xs ds) (hl:lk c=0\/lk c=2)
  (pr:PR Φ.K f xs ds H1 d v H2) (hf:fresh fr c=true->f=true):EO Φ.K fr o c H d v H2/\ER Φ Γ o ρ S1 σ H2:=by
 have q0:lk c=0->RV Φ.K o.A H2 v d:=λl=>pr.val o.A az.al (h1 (by lia))
 refine⟨⟨e.trans (aX.of_same pr.same),pr.val o.wd az.uO hv.ones,q0,λl=>(q0 (by lia)).one,λfc es ed=>?_⟩,az.grow pr.same⟩;obtain⟨a,ys,k1,k2,k3,k4⟩:=pr.dY (hf fc) es ed;exact⟨a,ys,k1,az.dR e k2,k3,k4 o.wd az.uO hv.ones,λl=>k4 o.A az.al (h1 (by lia))⟩
theorem gL {A:Addr->Prop} {K:Frag} {v:V} {d:Dt} (h:RV K A H v d):RV K N0 H v d:=h.weak λ_ z=>z.elim
theorem C5 {A:Addr->Prop} {K:Frag} {v:List V} {d:List Dt} (h:ak K A H v d):ak K N0 H v d:=h.weak λ_ z=>z.elim
end
section
variable {X:Cx} {Φ:Fm} {Γ:Gm} {F:FT} {fr:Nat->Bool} {g:G}
theorem oO {e:Expr} {d:Dt} (hd:nC d=true) (h:PE X e (tC (mV d))):PE X e (bK Φ Γ F fr (.con d)):=bp h λσ H Q q=>by obtain⟨o,ρ,S,er,q⟩:=q;exact q _ _ (EO.sc hd) er
theorem mz {Ek:Nat->Prop} {ρ:ai} {i:Nat} {P:Dt->Prop} (h:mR Ek (dN ρ i) P):∃d,ρ[i]?=some (some d)/\P d:=by
 unfold dN at h;split at h
 ·exact⟨_,by assumption,h⟩
 ·exact h.elim
theorem Hf {e:Expr} {i:Nat} (h:PE X e (iV i)) (hm:et Γ i=false):PE X e (bK Φ Γ F fr (.var i)):=bp h λσ H Q q=>by obtain⟨o,ρ,S,er,q⟩:=q;unfold ev at q;rw[aa] at q;obtain⟨d,hd,q⟩:=mz q;obtain⟨v,h1,h2⟩:=er.val i d hd;rw[hm,if_neg (by simp)] at h2;exact⟨v,h1,q v H ⟨aX.refl,h2.weak er.gf,λ_=>h2,λ_=>h2.one,λz=>by simp[fresh] at z⟩ er⟩
theorem G9 {e:Expr} {i:Nat} (h:PE X e (iV i)) (hm:et Γ i=true) (hκ:Γ.κ≠some i):PE X e (bK Φ Γ F fr (.mvr i)):=bp h λσ H Q q=>by obtain⟨o,ρ,S,er,q⟩:=q;unfold ev at q;rw[aa] at q;obtain⟨d,hd,q⟩:=mz q;obtain⟨v,h1,h2⟩:=er.val i d hd;rw[hm,if_pos rfl] at h2;exact⟨v,h1,q v H ⟨aX.refl,h2.val (er.nd hd hκ) er.wa er.da,λz=>by simp[lk] at z,λ_=>h2.one (er.nd hd hκ),λz=>by simp[fresh] at z⟩ er⟩
theorem je {Ek:Nat->Prop} {r:R Dt} {P:Dt->Prop} (gg:∀k,r≠ .ex k) (h:mR Ek r P):∃d,r= .ok d/\P d:=by
 cases r with
 | ok a=>exact⟨a,rfl,h⟩
 | ex k=>exact absurd rfl (gg k)
 | bad=>exact h.elim
theorem cH {b:Bool} {α:Type} {r:R α} (h:∀k,r≠ .ex k):∀k,ae b r≠ .ex k:=by
 intro k;cases b
 ·intro z;cases z
 ·exact h k
theorem Da (o:Operator) (d e:Dt):∀k,iK o d e≠ .ex k:=by intro k;unfold iK;split <;> first | (intro z;cases z;done) | (split <;> first | (intro z;cases z;done) | (exact cH (λk z=>by cases z) k))
theorem qQ (o:CmpOp) (d e:Dt):∀k,cU o d e≠ .ex k:=by intro k;unfold cU;split <;> first | (intro z;cases z;done) | (exact cH (λk z=>by cases z) k)
theorem pz (ds:List Dt) (i:Int):∀k,sU ds i≠ .ex k:=by intro k;unfold sU;split <;> (intro z;cases z)
theorem zD (d e:Dt):∀k,dg d e≠ .ex k:=by
 intro k;unfold dg;split
 ·exact pz _ _ k
 ·exact pz _ _ k
 ·exact pz _ _ k
 ·exact cH (λk=>by split <;> (intro z;cases z)) k
 ·intro z;cases z
theorem Az (d:Dt) (lo hi:Option Int):∀k,f9 d lo hi≠ .ex k:=by intro k;unfold f9;split <;> first | (intro z;cases z;done) | (exact cH (λk z=>by cases z) k)
theorem AF (d:Dt):∀k,dh d≠ .ex k:=by intro k;unfold dh;split <;> first | (intro z;cases z;done) | (exact cH (λk z=>by cases z) k)
theorem gK {Ek:Nat->Prop} {r:R Bool} {P:Bool->Prop} (gg:∀k,r≠ .ex k) (h:mR Ek r P):∃d,r= .ok d/\P d:=by
 cases r with
 | ok a=>exact⟨a,rfl,h⟩
 | ex k=>exact absurd rfl (gg k)
 | bad=>exact h.elim
theorem pZ {op:Operator} {a b:C}:(lk (.bin op a b)=0\/lk (.bin op a b)=2)/\(lk (.bin op a b)<=1->lk a<=1/\lk b<=1):=by
 have e:lk (.bin op a b)=if lk a<=1/\lk b<=1 then 0 else 2:=by rw[lk]
 rw[e];split
 ·rename_i h;exact⟨.inl rfl,λ_=>h⟩
 ·exact⟨.inr rfl,λz=>by lia⟩
theorem G4 {a b:Expr} {a' b':C} {op:Operator} {pos:Pos} (hK:Φ.K=X.K) (ha:PE X a (bK Φ Γ F fr a')) (hb:PE X b (bK Φ Γ F fr b')):PE X (.BinOp a op b pos) (bK Φ Γ F fr (.bin op a' b')):=bp (Bl (De op) ha hb) λσ H Q q=>by
 obtain⟨o,ρ,S,er,q⟩:=q;unfold ev at q;rw[aa] at q;refine⟨o,ρ,S,er,ag q λp _ q x H1 bo az=>?_⟩;rw[aa] at q;refine⟨o,ρ,p.2,az,ag q λp2 _ q y H2 eo2 eS=>?_⟩;rw[aa] at q;obtain⟨z,hz,q⟩:=je (Da _ _ _) q;obtain⟨k1,k2,k3⟩:=bo.keep eo2.ext er.gf;refine⟨p.1,p2.1,z,hK▸gL k1,hK▸gL eo2.val,hz,λv H3 pr=>?_⟩;rw[<-hK] at pr;obtain⟨e1,e2⟩:=EO.pr (fr:=fr) (H:=H) (c:= .bin op a' b') eS (bo.ext.trans eo2.ext) (ak.cons k1 (ak.cons eo2.val ak.nil)) (λl=>⟨k3 (pZ.2 l).1,eo2.oS (pZ.2 l).2,trivial⟩) pZ.1 pr λ_=>rfl
 exact q v H3 e1 e2
theorem G5 {a b:Expr} {a' b':C} {op:CmpOp} {pos:Pos} (hK:Φ.K=X.K) (hu:X.A.units + 150 < cLine) (hm:behindInMarks op b=false) (ha:PE X a (bK Φ Γ F fr a')) (hb:PE X b (bK Φ Γ F fr b')):PE X (.Compare a [op] [b] pos) (bK Φ Γ F fr (.cmp op a' b')):=bp (se (qg op hu) ha hb hm) λσ H Q q=>by obtain⟨o,ρ,S,er,q⟩:=q;unfold ev at q;rw[aa] at q;refine⟨o,ρ,S,er,ag q λp _ q x H1 bo az=>?_⟩;rw[aa] at q;refine⟨o,ρ,p.2,az,ag q λp2 _ q y H2 eo2 eS=>?_⟩;rw[aa] at q;obtain⟨z,hz,q⟩:=gK (qQ _ _ _) q;obtain⟨k1,k2,k3⟩:=bo.keep eo2.ext er.gf;refine⟨p.1,p2.1,z,hK▸gL k1,hK▸gL eo2.val,hz,q _ _ ?_ eS⟩;have:=EO.sc (Φ:=Φ) (fr:=fr) (o:=o) (H:=H2) (c:= .cmp op a' b') (d:= .bl z) rfl;exact this.tx (bo.ext.trans eo2.ext) λf=>by simp[fresh] at f
theorem DP {a b:Expr} {a' b':C} {op:CmpOp} {pos:Pos} (hK:Φ.K=X.K) (hu:X.A.units + 150 < cLine) (hm:behindInMarks op b=false) (ha:PE X a (bK Φ Γ F fr a')) (hb:PE X b (bK Φ Γ F fr b')):PT X (.Compare a [op] [b] pos) (eG Φ Γ F (.cmp op a' b')):=qm (Ao (qg op hu) ha hb hm) λσ H Q q=>by obtain⟨o,ρ,S,er,q⟩:=q;unfold bV at q;rw[aa] at q;refine⟨o,ρ,S,er,ag q λp _ q x H1 bo az=>?_⟩;rw[aa] at q;refine⟨o,ρ,p.2,az,ag q λp2 _ q y H2 eo2 eS=>?_⟩;rw[aa] at q;obtain⟨z,hz,q⟩:=gK (qQ _ _ _) q;obtain⟨k1,k2,k3⟩:=bo.keep eo2.ext er.gf;exact⟨p.1,p2.1,z,hK▸gL k1,hK▸gL eo2.val,hz,z,rfl,q _ (bo.ext.trans eo2.ext) eS⟩
end
section
variable {X:Cx} {Φ:Fm} {Γ:Gm} {F:FT} {fr:Nat->Bool} {g:G}
theorem ak.emp {K:Frag} {A:Addr->Prop} {H:Hp} {xs:List V} {ds:List Dt} (h:ak K A H xs ds):ds.isEmpty=xs.isEmpty:=by
 have:=h.length;cases xs with
 | nil=>cases ds with
  | nil=>rfl
  | cons=>simp at this
 | cons=>cases ds with
  | nil=>simp at this
  | cons=>rfl
theorem Ha {a:Expr} {a':C} {pos:Pos} (ha:PE X a (bK Φ Γ F fr a')):PE X (.UnaryOp .USub a pos) (bK Φ Γ F fr (.neg a')):=bp (GT Ed ha) λσ H Q q=>by
 obtain⟨o,ρ,S,er,q⟩:=q;unfold ev at q;rw[aa] at q;refine⟨o,ρ,S,er,ag q λp _ q x H1 bo az=>?_⟩;split at q
 ·rename_i i hi;have:=bo.val;rw[hi] at this;refine⟨i,this.int_inv,q _ _ ?_ az⟩;exact(EO.sc (Φ:=Φ) (fr:=fr) (o:=o) (H:=H1) (c:= .neg a') (d:= .int (-i)) rfl).tx bo.ext λf=>by simp[fresh] at f
 ·exact q.elim
theorem Lc {a:Expr} {a':C} {pos:Pos} (ha:PE X a (bK Φ Γ F fr a')):PE X (.UnaryOp .Not a pos) (bK Φ Γ F fr (.nt a')):=bp (wR ha) λσ H Q q=>by
 obtain⟨o,ρ,S,er,q⟩:=q;unfold ev at q;rw[aa] at q;refine⟨o,ρ,S,er,ag q λp _ q x H1 bo az=>?_⟩;split at q
 ·rename_i i hi;have:=bo.val;rw[hi] at this;refine⟨i,this.aw,q _ _ ?_ az⟩;exact(EO.sc (Φ:=Φ) (fr:=fr) (o:=o) (H:=H1) (c:= .nt a') (d:= .bl (!i)) rfl).tx bo.ext λf=>by simp[fresh] at f
 ·exact q.elim
theorem Hc {a:Expr} {a':C} {pos:Pos} (ha:PT X a (eG Φ Γ F a')):PT X (.UnaryOp .Not a pos) (eG Φ Γ F (.nt a')):=qm (DD ha) λσ H Q q=>by obtain⟨o,ρ,S,er,q⟩:=q;unfold bV at q;rw[aa] at q;exact⟨o,ρ,S,er,ag q λp _ q H1 e1 az=>q _ e1 az⟩
theorem G3 {a b:Expr} {rest:List Expr} {a' b':C} {pos:Pos} (ha:PE X a (bK Φ Γ F fr a')) (hb:PE X (.BoolOp .And (b::rest) pos) (bK Φ Γ F fr b')):PE X (.BoolOp .And (a::b::rest) pos) (bK Φ Γ F fr (.and a' b')):=bp (wN ha hb) λσ H Q q=>by
 obtain⟨o,ρ,S,er,q⟩:=q;unfold ev at q;rw[aa] at q;refine⟨o,ρ,S,er,ag q λp _ q x H1 bo az=>?_⟩;have sc:∀(H3:Hp) (t:Bool),aX o.d H H3->EO Φ.K fr o (.and a' b') H (.bl t) (.bl t) H3:=λH3 t e3=>
  (EO.sc (Φ:=Φ) (fr:=fr) (o:=o) (H:=H3) (c:= .and a' b') (d:= .bl t) rfl).tx e3 λf=>by simp[fresh] at f
 split at q
 ·rename_i hi;have:=bo.val;rw[hi] at this;refine⟨true,this.aw,?_⟩;rw[aa] at q;refine⟨o,ρ,p.2,az,ag q λp2 _ q y H2 eo2 eS=>?_⟩;split at q
  ·rename_i c hc;have h2:=eo2.val;rw[hc] at h2;rw[h2.aw];exact q _ _ (sc H2 c (bo.ext.trans eo2.ext)) eS
  ·exact q.elim
 ·rename_i hi;have:=bo.val;rw[hi] at this;exact⟨false,this.aw,q _ _ (sc H1 false bo.ext) az⟩
 ·exact q.elim
theorem Ld {a b:Expr} {rest:List Expr} {a' b':C} {pos:Pos} (ha:PE X a (bK Φ Γ F fr a')) (hb:PE X (.BoolOp .Or (b::rest) pos) (bK Φ Γ F fr b')):PE X (.BoolOp .Or (a::b::rest) pos) (bK Φ Γ F fr (.or a' b')):=bp (Bm ha hb) λσ H Q q=>by
 obtain⟨o,ρ,S,er,q⟩:=q;unfold ev at q;rw[aa] at q;refine⟨o,ρ,S,er,ag q λp _ q x H1 bo az=>?_⟩;have sc:∀(H3:Hp) (t:Bool),aX o.d H H3->EO Φ.K fr o (.or a' b') H (.bl t) (.bl t) H3:=λH3 t e3=>
  (EO.sc (Φ:=Φ) (fr:=fr) (o:=o) (H:=H3) (c:= .or a' b') (d:= .bl t) rfl).tx e3 λf=>by simp[fresh] at f
 split at q
 ·rename_i hi;have:=bo.val;rw[hi] at this;refine⟨false,this.aw,?_⟩;rw[aa] at q;refine⟨o,ρ,p.2,az,ag q λp2 _ q y H2 eo2 eS=>?_⟩;split at q
  ·rename_i c hc;have h2:=eo2.val;rw[hc] at h2;rw[h2.aw];exact q _ _ (sc H2 c (bo.ext.trans eo2.ext)) eS
  ·exact q.elim
 ·rename_i hi;have:=bo.val;rw[hi] at this;exact⟨true,this.aw,q _ _ (sc H1 true bo.ext) az⟩
 ·exact q.elim
theorem DO {a b:Expr} {rest:List Expr} {a' b':C} {pos:Pos} (ha:PT X a (eG Φ Γ F a')) (hb:PW X (.BoolOp .And (b::rest) pos) (eG Φ Γ F b')):PW X (.BoolOp .And (a::b::rest) pos) (eG Φ Γ F (.and a' b')):=xf (DE ha hb) λσ H Q q=>by
 obtain⟨o,ρ,S,er,q⟩:=q;unfold bV at q;rw[aa] at q;refine⟨o,ρ,S,er,ag q λp _ q H1 e1 az=>?_⟩;cases hp:p.1 with
 | true=>rw[hp] at q;rw[if_pos rfl];exact⟨o,ρ,p.2,az,ag q λp2 _ q H2 e2 eS=>q _ (e1.trans e2) eS⟩
 | false=>rw[hp] at q;rw[if_neg (by simp)];exact q _ e1 az
theorem Hd {a b:Expr} {rest:List Expr} {a' b':C} {pos:Pos} (ha:PT X a (eG Φ Γ F a')) (hb:PW X (.BoolOp .Or (b::rest) pos) (eG Φ Γ F b')):PW X (.BoolOp .Or (a::b::rest) pos) (eG Φ Γ F (.or a' b')):=xf (GY ha hb) λσ H Q q=>by
 obtain⟨o,ρ,S,er,q⟩:=q;unfold bV at q;rw[aa] at q;refine⟨o,ρ,S,er,ag q λp _ q H1 e1 az=>?_⟩;cases hp:p.1 with
 | false=>rw[hp] at q;rw[if_neg (by simp)];exact⟨o,ρ,p.2,az,ag q λp2 _ q H2 e2 eS=>q _ (e1.trans e2) eS⟩
 | true=>rw[hp] at q;rw[if_pos rfl];exact q _ e1 az
theorem wz {a b:C}:(lk (.idx a b)=0\/lk (.idx a b)=2)/\(lk (.idx a b)<=1->lk a<=1):=by
 have e:lk (.idx a b)=if lk a<=1 then 0 else 2:=by rw[lk]
 rw[e];split
 ·rename_i h;exact⟨.inl rfl,λ_=>h⟩
 ·exact⟨.inr rfl,λz=>by lia⟩
theorem G6 {a b:Expr} {a' b':C} {pos:Pos} (hK:Φ.K=X.K) (hs:lM b) (ha:PE X a (bK Φ Γ F fr a')) (hb:PE X b (bK Φ Γ F fr b')):PE X (.Subscript a b pos) (bK Φ Γ F fr (.idx a' b')):=bp (GR CJ ha hb hs) λσ H Q q=>by
 obtain⟨o,ρ,S,er,q⟩:=q;unfold ev at q;rw[aa] at q;refine⟨o,ρ,S,er,ag q λp _ q x H1 bo az=>?_⟩;rw[aa] at q;refine⟨o,ρ,p.2,az,ag q λp2 _ q y H2 eo2 eS=>?_⟩;rw[aa] at q;obtain⟨z,hz,q⟩:=je (zD _ _) q;obtain⟨k1,k2,k3⟩:=bo.keep eo2.ext er.gf;refine⟨p.1,p2.1,z,hK▸gL k1,hK▸gL eo2.val,hz,λv pr=>?_⟩;rw[<-hK] at pr;have Nc:∃i,p2.1= .int i:=by
  cases hd:p2.1 with
  | int i=>exact⟨i,rfl⟩
  | _=>rw[hd] at hz;unfold dg at hz;split at hz <;> first | (rename_i h;cases h;done) | (cases hz;done) | contradiction
 obtain⟨i,hi⟩:=Nc;have v2:∀A:Addr->Prop,ej Φ.K A H2 y p2.1:=λA=>by have:=eo2.val;rw[hi] at this ⊢;rw[this.int_inv];exact(RV.cP (K:=Φ.K) (A:=A)).one
 obtain⟨e1,e2⟩:=EO.pr (fr:=fr) (H:=H) (c:= .idx a' b') eS (bo.ext.trans eo2.ext) (ak.cons k1 (ak.cons eo2.val ak.nil)) (λl=>⟨k3 (wz.2 l),v2 _,trivial⟩) wz.1 pr λz=>by simp[fresh] at z
 exact q v H2 e1 e2
theorem ji {a:Expr} {a':C} (hK:Φ.K=X.K) (ha:PE X a (bK Φ Γ F fr a')) (he:∀whole,isTrue a X.env whole=(do let v<-whole;standAt a.pos;holding [v] (truthy v)))
  (yu:∀ρ S,bV F a' ρ S=(ev F a' ρ S).bind λx=>(dh x.1).bind λb=> .ok (b,x.2)):PT X a (eG Φ Γ F a'):=qm (xc ha he) λσ H Q q=>by
 obtain⟨o,ρ,S,er,q⟩:=q;rw[yu,aa] at q;refine⟨o,ρ,S,er,ag q λp _ q x H1 bo az=>?_⟩;rw[aa] at q;obtain⟨b,hb,q⟩:=gK (AF _) q;refine⟨b,?_,q _ bo.ext az⟩;have hv:=bo.val;rw[hK] at hv;unfold dh at hb;split at hb
 ·rename_i hd;rw[hd] at hv;cases hb;rw[hv.ax];rfl
 ·rename_i hd;rw[hd] at hv;cases hb;rw[hv.aw];rfl
 ·rename_i hd;rw[hd] at hv;cases hb;rw[hv.int_inv];rfl
 ·rename_i hd;rw[hd] at hv;obtain⟨g1,hb⟩:=aC hb;cases hb;rw[hv.str_inv];exact⟨PP (Py g1) bO,rfl⟩
 ·rename_i hd;rw[hd] at hv;cases hb;obtain⟨a,xs,rfl,h1,_,h2⟩:=hv.lst_inv;refine .inl ⟨xs,cM.of h1,?_⟩;rw[h2.emp]
 ·rename_i hd;rw[hd] at hv;cases hb;obtain⟨a,xs,rfl,h1,h2⟩:=hv.af;refine .inr (.inl ⟨xs,d5.of h1,?_⟩);rw[h2.emp]
 ·rename_i hd;rw[hd] at hv;cases hb;obtain⟨a,rfl,h1⟩:=hv.iy;refine .inl ⟨_,h1,?_⟩;simp
 ·cases hb
end
section
variable {X:Cx} {Φ:Fm} {Γ:Gm} {F:FT} {fr:Nat->Bool} {g:G}
theorem CV {a b:C} {c:C} (hc:lk c=if lk a<=1 then 0 else 2):(lk c=0\/lk c=2)/\(lk c<=1->lk a<=1):=by
 rw[hc];split
 ·rename_i h;exact⟨.inl rfl,λ_=>h⟩
 ·exact⟨.inr rfl,λz=>by lia⟩
theorem qY {o:Ow} {ρ:ai} {S:Sx} {σ:L2.St} {H H1 H2:Hp} {a' c:C} {d:Dt} {x:V} {lo hi:Option Int} {Q:VK} (hK:Φ.K=X.K) (hc:lk c=if lk a'<=1 then 0 else 2) (hf:fresh fr c=true->True) (er:ER Φ Γ o ρ S σ H2) (bo:EO Φ.K fr o a' H d x H1) (e:aX o.d H1 H2)
  (q:mR Φ.Ek (f9 d lo hi) λz=>∀v H3,EO Φ.K fr o c H z v H3->ER Φ Γ o ρ S σ H3->Q v H3):rS X.K x lo hi H2 Q:=by
 obtain⟨z,hz,q⟩:=je (Az _ _ _) q;obtain⟨k1,k2,k3⟩:=bo.keep e er.gf;refine⟨d,z,hK▸gL k1,hz,λv H3 pr=>?_⟩;rw[<-hK] at pr;have hl:=CV (b:=c) hc;obtain⟨e1,e2⟩:=EO.pr (fr:=fr) (H:=H) (c:=c) er (bo.ext.trans e) (ak.cons k1 ak.nil) (λl=>⟨k3 (hl.2 l),trivial⟩) hl.1 pr λ_=>rfl
 exact q v H3 e1 e2
theorem DT {a l:Expr} {a' l':C} {p2 pos:Pos} (hK:Φ.K=X.K) (ha:PE X a (bK Φ Γ F fr a')) (hl:PE X l (bK Φ Γ F fr l')):PE X (.Subscript a (.Slice (some l) none none p2) pos) (bK Φ Γ F fr (.sliL a' l')):=bp (oG xy ha (sr hl) sk) λσ H Q q=>by
 obtain⟨o,ρ,S,er,q⟩:=q;unfold ev at q;rw[aa] at q;refine⟨o,ρ,S,er,ag q λp _ q x H1 bo az=>?_⟩;rw[aa] at q;refine⟨o,ρ,p.2,az,ag q λp2 _ q y H2 eo2 eS=>?_⟩;split at q
 ·rename_i i hi;have hv:=eo2.val;rw[hi] at hv;refine⟨i,hv.int_inv,?_⟩;rw[aa] at q;exact qY hK (by rw[lk]) (λ_=>trivial) eS bo eo2.ext (ag q λz _ q v H3 e1 e2=>q v H3 e1 e2)
 ·exact q.elim
theorem DS {a l:Expr} {a' l':C} {p2 pos:Pos} (hK:Φ.K=X.K) (ha:PE X a (bK Φ Γ F fr a')) (hl:PE X l (bK Φ Γ F fr l')):PE X (.Subscript a (.Slice none (some l) none p2) pos) (bK Φ Γ F fr (.sliH a' l')):=bp (oG xy ha sk (sr hl)) λσ H Q q=>by
 obtain⟨o,ρ,S,er,q⟩:=q;unfold ev at q;rw[aa] at q;refine⟨o,ρ,S,er,ag q λp _ q x H1 bo az=>?_⟩;rw[aa] at q;refine⟨o,ρ,p.2,az,ag q λp2 _ q y H2 eo2 eS=>?_⟩;split at q
 ·rename_i i hi;have hv:=eo2.val;rw[hi] at hv;refine⟨i,hv.int_inv,?_⟩;rw[aa] at q;exact qY hK (by rw[lk]) (λ_=>trivial) eS bo eo2.ext (ag q λz _ q v H3 e1 e2=>q v H3 e1 e2)
 ·exact q.elim
theorem Hb:PA X [] (kJ Φ Γ F .nil):=wL eW λσ H Q q=>by obtain⟨o,ρ,S,er,q⟩:=q;exact q _ _ ⟨aX.refl,ak.nil,λ_=>ak.nil,λ_=>trivial⟩ er
theorem DQ {e:Expr} {es:List Expr} {c:C} {cs:Cs} (hs:starEach (e::es) X.env=(false,eval e X.env)::starEach es X.env) (h:PE X e (bK Φ Γ F fr c)) (hr:PA X es (kJ Φ Γ F cs)):PA X (e::es) (kJ Φ Γ F (.cons c cs)):=wL (bZ h hr hs) λσ H Q q=>by
 obtain⟨o,ρ,S,er,q⟩:=q;unfold fR at q;rw[aa] at q;refine⟨o,ρ,S,er,ag q λp _ q x H1 bo az=>?_⟩;rw[aa] at q;refine⟨o,ρ,p.2,az,ag q λp2 _ q xs H2 eo2 eS=>?_⟩;obtain⟨k1,k2,k3⟩:=bo.keep eo2.ext er.gf;have el:ou (.cons c cs)=max (lk c) (ou cs):=by rw[ou]
 exact q _ _ ⟨bo.ext.trans eo2.ext,ak.cons k1 eo2.val,λl=>ak.cons (k2 (by lia)) (eo2.cY (by lia)),λl=>⟨k3 (by lia),eo2.oS (by lia)⟩⟩ eS
theorem Bf {cs:Cs} {c:C} (hc:lk c=if ou cs=0 then 0 else 2):(lk c<=1->lk c=0)/\(lk c=0->ou cs=0):=by
 rw[hc];split
 ·rename_i h;exact⟨λ_=>rfl,λ_=>h⟩
 ·exact⟨λz=>by lia,λz=>by lia⟩
theorem He {es:List Expr} {cs:Cs} {x1:Nat} {pos:Pos} (h:PA X es (kJ Φ Γ F cs)):PE X (.Tuple es x1 pos) (bK Φ Γ F fr (.tup cs)):=bp (Dv h) λσ H Q q=>by
 obtain⟨o,ρ,S,er,q⟩:=q;unfold ev at q;rw[aa] at q;refine⟨o,ρ,S,er,ag q λp _ q xs H1 bo az=>?_⟩;obtain⟨g1,q⟩:=aE q;refine⟨by rw[bo.val.length];exact PP (Py g1) bO,λa ha=>?_⟩;have s:=Mx.b9 ha (.tup xs);have hl:=Bf (cs:=cs) (c:= .tup cs) (by rw[lk]);have q0:lk (.tup cs)=0->RV Φ.K o.A (upd H1 a (.tup xs)) (.ref a) (.tup p.1):=λl=>RV.dw aM ((bo.cY (hl.2 l)).same s)
 exact q _ _ ⟨bo.ext.trans (aX.of_same s),RV.dw aM (bo.val.same s),q0,λl=>(q0 (hl.1 l)).one,λz=>by simp[fresh] at z⟩ (az.grow s)
theorem G8 {es:List Expr} {cs:Cs} {pos:Pos} (h:PA X es (kJ Φ Γ F cs)):PE X (.List es pos) (bK Φ Γ F fr (.lst cs)):=bp (wQ h) λσ H Q q=>by
 obtain⟨o,ρ,S,er,q⟩:=q;unfold ev at q;rw[aa] at q;refine⟨o,ρ,S,er,ag q λp _ q xs H1 bo az=>?_⟩;obtain⟨g1,q⟩:=aE q;refine⟨by rw[bo.val.length];exact PP (Py g1) bO,λa ha=>?_⟩;have s:=Mx.b9 ha (.lst xs);have hl:=Bf (cs:=cs) (c:= .lst cs) (by rw[lk]);have na:¬o.A a:=λz=>by obtain⟨y,hy⟩:=az.al a z;rw[ha] at hy;cases hy
 have q0:lk (.lst cs)=0->RV Φ.K o.A (upd H1 a (.lst xs)) (.ref a) (.lst p.1):=λl=>RV.c7 aM na ((bo.cY (hl.2 l)).same s)
 refine q _ _ ⟨bo.ext.trans (aX.of_same s),RV.c7 aM (λz=>na (az.gf a z)) (bo.val.same s),q0,λl=>(q0 (hl.1 l)).one,λ_ ds e=>?_⟩ (az.grow s);cases e;exact⟨a,xs,rfl,az.dR bo.ext ha,aM,(bo.val.avoid ha).same s,λl=>((bo.cY (hl.2 l)).avoid ha).same s⟩
theorem BP (b:BI) (ds:List Dt):∀k,cL b ds≠ .ex k:=by
 intro k;unfold cL;split <;> split
 all_goals first
  | (intro z;cases z;done)
  | (exact cH (λk z=>by cases z) k)
  | (split <;> first | (intro z;cases z;done) | (exact cH (λk z=>by cases z) k) | (split <;> first | (intro z;cases z;done) | (exact cH (λk z=>by cases z) k)))
  | (rename_i T d;unfold tQ;split <;> (intro z;cases z))
theorem Bg {b:BI} {cs:Cs}:(lk (.bi b cs)=0\/lk (.bi b cs)=2)/\(lk (.bi b cs)<=1->ou cs<=1):=by
 have e:lk (.bi b cs)=if ou cs<=1 then 0 else 2:=by rw[lk]
 rw[e];split
 ·rename_i h;exact⟨.inl rfl,λ_=>h⟩
 ·exact⟨.inr rfl,λz=>by lia⟩
theorem vD {b:BI} {cs:Cs} {σ:L2.St} {H:Hp} {Q:VK} (hK:Φ.K=X.K) (q:bK Φ Γ F fr (.bi b cs) σ H Q):Lk (rP X.K true (cL b)) (kJ Φ Γ F cs) σ H Q:=by
 obtain⟨o,ρ,S,er,q⟩:=q;unfold ev at q;rw[aa] at q;refine⟨o,ρ,S,er,ag q λp _ q xs H1 bo az=>?_⟩;rw[aa] at q;obtain⟨z,hz,q⟩:=je (BP _ _) q;refine⟨p.1,z,hK▸C5 bo.val,hz,λv H3 pr=>?_⟩;rw[<-hK] at pr;obtain⟨e1,e2⟩:=EO.pr (fr:=fr) (H:=H) (c:= .bi b cs) az bo.ext bo.val (λl=>bo.oS (Bg.2 l)) Bg.1 pr λ_=>rfl
 exact q v H3 e1 e2
end
noncomputable def Cs.len:Cs->Nat
 | .nil=>0
 | .cons _ cs=>cs.len + 1
theorem qV {F:FT}:∀{cs:Cs} {ρ:ai} {S:Sx} {p:List Dt×Sx},fR F cs ρ S= .ok p->p.1.length=cs.len
 | .nil,ρ,S,p,h=>by unfold fR at h;cases h;rfl
 | .cons c cs,ρ,S,p,h=>by
  unfold fR at h;cases h1:ev F c ρ S with
  | ok x=>
   rw[h1] at h;simp only[R.ah] at h;cases h2:fR F cs ρ x.2 with
   | ok y=>rw[h2] at h;cases h;simp[Cs.len,qV h2]
   | ex k=>rw[h2] at h;cases h
   | bad=>rw[h2] at h;cases h
  | ex k=>rw[h1] at h;cases h
  | bad=>rw[h1] at h;cases h
section
variable {X:Cx} {Φ:Fm} {Γ:Gm} {F:FT} {g:G} {xv:Nat->Value} {CX:iX} {k:Nat}
theorem nS {H H':Hp} (e:aX (λb=>(none:Option Addr)=some b) H H'):bj H H':=λb o h=>e.kp b o h (by simp)
theorem qp {K:Frag} {A:Addr->Prop} {H:Hp}:∀{ds:List Dt},ds.all nC=true->ak K A H (ds.map mV) ds
 | [],_=>ak.nil
 | d::ds,h=>by rw[List.all_cons,Pw] at h;exact ak.cons (oN h.1) (qp h.2)
theorem s_call {x:Str} {f np j:Nat} {eQ:List Dt} {e:Expr} {es:List Expr} {cs:Cs} {p pos:Pos} (hX:HX g xv CX k F Φ X) (hG:Gl X x) (og:(x==("__debug__":Str))=false) (vX:pO x g.fns=some (f,np,eQ,false)) (hj:j<=eQ.length) (hn:cs.len + (eQ.drop j).length=np)
  (hs:starEach (e::es) X.env=(false,eval e X.env)::starEach es X.env) (k7:(backTo pos (starEach es X.env)).any (·.1)=false) (ha:PA X (e::es) (kJ Φ Γ F cs)):PE X (.Call (.Name x p) (e::es) [] pos) (bK Φ Γ F g.fr (.call f cs (eQ.drop j))):=by
 obtain⟨n,fx⟩:=hX.fx;obtain⟨fa,fd,ps,Pk,hmg,NW,hok,hb,Oc⟩:=fx.fn x f np eQ false vX;obtain⟨tu,kF,NI⟩:=hb j hj;refine bp (Ad hok hX.room hG hmg NW NI kF hX.pass ha og hs k7) λσ H Q q=>?_
 obtain⟨o,ρ,S,er,q⟩:=q;unfold ev at q;rw[aa] at q;refine⟨o,ρ,S,er,ag q λp hp q vs H1 bo az=>?_⟩;have Me:(eQ.drop j).all nC=true:=Qj.mpr λd hd=>Qj.mp Oc d (List.mem_of_mem_drop hd)
 rw[aa] at q;have el:lk (.call f cs (eQ.drop j))=if ou cs=0 then 0 else 2:=by rw[lk]
 refine⟨?_,?_⟩
 ·rw[PY,bo.val.length,PL,qV hp];exact hn
 by_cases hl:ou cs=0
 ·rw[if_pos hl] at el;refine⟨o.A,none,p.1++eQ.drop j,none,vs++(eQ.drop j).map mV,⟨rfl,rfl,rfl⟩,?_,az.al,?_⟩
  ·rw[<-hX.K];exact(bo.cY hl).append (qp Me)
  ·cases hr:F f (p.1++eQ.drop j) none with
   | ok y=>rw[hr] at q;intro v H' fo;rw[<-hX.K] at fo;have sm:=nS fo.ext;refine q v H' ⟨bo.ext.trans (aX.of_same sm),fo.val.weak az.gf,λ_=>fo.val,λ_=>fo.val.one,λfc ds ed=>?_⟩ (az.grow sm);obtain⟨a,xs,h1,h2,h3,h4⟩:=fo.dY fc ds ed;exact⟨a,xs,h1,az.dR bo.ext h2,h3,h4.weak λb z=>z.elim (λz=> .inl (az.gf b z)) .inr,λ_=>h4⟩
   | ex kk=>rw[hr] at q;intro H' e';exact⟨kk,rfl,q,az.ent.trans (e'.mono λb z=>by cases z)⟩
   | bad=>rw[hr] at q;exact q.elim
 ·rw[if_neg hl] at el;refine⟨o.wd,none,p.1++eQ.drop j,none,vs++(eQ.drop j).map mV,⟨rfl,rfl,rfl⟩,?_,az.uO,?_⟩
  ·rw[<-hX.K];exact bo.val.append (qp Me)
  ·cases hr:F f (p.1++eQ.drop j) none with
   | ok y=>rw[hr] at q;intro v H' fo;rw[<-hX.K] at fo;have sm:=nS fo.ext;refine q v H' ⟨bo.ext.trans (aX.of_same sm),fo.val,λz=>by rw[el] at z;lia,λz=>by rw[el] at z;lia,λfc ds ed=>?_⟩ (az.grow sm);obtain⟨a,xs,h1,h2,h3,h4⟩:=fo.dY fc ds ed;exact⟨a,xs,h1,az.dR bo.ext h2,h3,h4,λz=>by rw[el] at z;lia⟩
   | ex kk=>rw[hr] at q;intro H' e';exact⟨kk,rfl,q,az.ent.trans (e'.mono λb z=>by cases z)⟩
   | bad=>rw[hr] at q;exact q.elim
theorem y8 {t:Str} {T:String} (h:qy t=some T):bootBuiltins t=some (.type T):=by
 unfold qy at h;split at h
 ·rename_i e;cases h;rw[P6 e];exact PyProof.Rows.boot_str
 split at h
 ·rename_i e;cases h;rw[P6 e];exact PyProof.Rows.boot_int
 split at h
 ·rename_i e;cases h;rw[P6 e];exact PyProof.Rows.boot_bool
 split at h
 ·rename_i e;cases h;rw[P6 e];exact PyProof.Rows.boot_list
 split at h
 ·rename_i e;cases h;rw[P6 e];exact PyProof.Rows.boot_tuple
 ·cases h
theorem AJ {t:Str} {T:String} (h:qy t=some T):T="str"\/T="int"\/T="bool"\/T="list"\/T="tuple":=by
 unfold qy at h;split at h
 ·cases h;simp
 split at h
 ·cases h;simp
 split at h
 ·cases h;simp
 split at h
 ·cases h;simp
 split at h
 ·cases h;simp
 ·cases h
theorem CI {K:Frag} {A:Addr->Prop} {H:Hp} {x:V} {d:Dt} {T:String} {b:Bool} (hT:T="str"\/T="int"\/T="bool"\/T="list"\/T="tuple") (hx:RV K A H x d) (h:tQ T d= .ok b):∃t,gq K H x t/\PySem.W.kitOne K t (.type T)=some b:=by
 unfold tQ at h;split at h
 ·cases h;rw[hx.str_inv];refine⟨_,.str _,?_⟩;rcases hT with rfl | rfl | rfl | rfl | rfl <;> rfl
 ·cases h;rw[hx.int_inv];refine⟨_,.int _,?_⟩;rcases hT with rfl | rfl | rfl | rfl | rfl <;> rfl
 ·cases h;rw[hx.aw];refine⟨_,.bl _,?_⟩;rcases hT with rfl | rfl | rfl | rfl | rfl <;> rfl
 ·cases h;obtain⟨a,xs,rfl,h1,_⟩:=hx.lst_inv;refine⟨_,.lst h1,?_⟩;rcases hT with rfl | rfl | rfl | rfl | rfl <;> rfl
 ·cases h;obtain⟨a,xs,rfl,h1,_⟩:=hx.af;refine⟨_,.tup h1,?_⟩;rcases hT with rfl | rfl | rfl | rfl | rfl <;> rfl
 ·cases h;rw[hx.ax];refine⟨_,.aP,?_⟩;rcases hT with rfl | rfl | rfl | rfl | rfl <;> rfl
 ·cases h
theorem zG (T:String) (d:Dt):∀k,tQ T d≠ .ex k:=by intro k;unfold tQ;split <;> (intro z;cases z)
theorem G7 {a:Expr} {a':C} {t:Str} {T:String} {p tp pos:Pos} (hK:Φ.K=X.K) (hG:Gl X "isinstance") (hm:X.mg "isinstance"=none) (Nm:Gl X t) (N2:X.mg t=none) (hT:qy t=some T) (hn:t≠"__name__") (og:(t==("__debug__":Str))=false)
  (hs:starEach (a::[.Name t tp]) X.env=(false,eval a X.env)::starEach [.Name t tp] X.env) (ha:PE X a (bK Φ Γ F g.fr a')):PE X (.Call (.Name "isinstance" p) [a,.Name t tp] [] pos) (bK Φ Γ F g.fr (.bi (.isi T) (.cons a' .nil))):=by
 refine bp (jY Mx.vh hG hm PyProof.Rows.boot_isinstance (bZ ha (bZ (r8 (v:= .ty T) Nm N2 (y8 hT) rfl hn og) eW) hs) (by decide) (by decide) hs) λσ H Q q=>?_
 obtain⟨o,ρ,S,er,q⟩:=q;unfold ev fR fR at q;rw[aa,aa] at q;refine⟨o,ρ,S,er,ag q λp hp q x H1 bo az=>?_⟩;simp only[R.ah] at q;have q:mR Φ.Ek ((cL (.isi T) [p.1]).bind λd=>R.ok (d,p.2)) _:=q;unfold cL at q;simp only at q;rw[aa,aa] at q;obtain⟨b,hb,q⟩:=gK (zG _ _) q;obtain⟨ty,k1,k2⟩:=CI (AJ hT) (hK▸bo.val) hb;refine⟨x,T,ty,b,rfl,k1,k2,q _ _ ?_ az⟩;exact(EO.sc (Φ:=Φ) (fr:=g.fr) (o:=o) (H:=H1) (c:= .bi (.isi T) (.cons a' .nil)) (d:= .bl b) rfl).tx bo.ext λf=>by simp[fresh] at f
end
noncomputable def Kn (K:Frag) (tl:TE):TI:=λσ H R=>tl σ H λx H1=>(∃a xs,x= .ref a/\cM K H1 a xs/\R (HY K a) H1)\/(∃a xs,x= .ref a/\d5 K H1 a xs/\R (IW K a) H1)
theorem Dy {X:Cx} {tg l:Expr} {tl:TE} (hl:PE X l tl):PI X tg l (Kn X.K tl):=by
 intro pins s σ H R I h;refine bH (hl pins s σ H _ I h) λv s1 ⟨x,H1,I1,r1,q1⟩=>?_
 rcases q1 with ⟨a,xs,e,hq,q⟩ | ⟨a,xs,e,hq,q⟩
 ·subst e;cases r1;obtain⟨its,rv,p,hz⟩:=I1.list hq;refine wpAny_pyIter_list p.isList ?_;refine⟨s1.heap.objs.size,[s1.heap.objs.size],_,_,H1,rfl,I1.kept (t':=s1.toks) λb o e=>Pu _ e,uo a _,⟨_,PJ _ rfl,rfl,rfl⟩,λb hb=>?_,q⟩;have e:b=s1.heap.objs.size:=by simpa using hb
  subst e;exact I1.tD (PF _) (I1.hok.fresh (PF _))
 ·subst e;cases r1;obtain⟨its,rv,p,hz⟩:=I1.tuple hq;refine wpAny_pyIter_tuple (show s1.heap.IsTuple a its.toArray from p) ?_;refine⟨s1.heap.objs.size,[s1.heap.objs.size],_,_,H1,rfl,I1.kept (t':=s1.toks) λb o e=>Pu _ e,qx a _,⟨_,PJ _ rfl,rfl,rfl⟩,λb hb=>?_,q⟩;have e:b=s1.heap.objs.size:=by simpa using hb
  subst e;exact I1.tD (PF _) (I1.hok.fresh (PF _))
section
variable {X:Cx} {Φ:Fm} {Γ:Gm} {F:FT} {g:G} {xv:Nat->Value} {CX:iX} {k:Nat} {K:Frag}
theorem sT {A Y:Addr->Prop} {a:Addr} {xs:List V} {ds:List Dt} {H:Hp} (ha:H a=some (.lst xs)) (hn:¬Y a) (hY:∀b,Y b->A b) (h:ak K A H xs ds):Wk K A Y (HY K a) H ds where
 go:=λi H1 hi e=>⟨xs,xs[i]'(by rw[h.length];exact hi),cM.of (e.kp _ _ ha hn),by simp⟩
 stop:=λH1 e=>⟨xs,cM.of (e.kp _ _ ha hn),by rw[h.length];exact PF _⟩
 yld:=λi x H1 H2 hi e y=>by obtain⟨rfl,y⟩:=y;obtain⟨d,h1,h2⟩:=h.get (y xs (cM.of (e.kp _ _ ha hn)));exact⟨bj.refl _,d,h1,λB hB=>(h2.bQ (B:=λb=>A b\/B b) λb z=>z.elim .inl (hB b)).mono e (λb z=> .inl (hY b z)) λ_ z=> .inr z⟩
theorem qB {A Y:Addr->Prop} {a:Addr} {xs:List V} {ds:List Dt} {H:Hp} (ha:H a=some (.tup xs)) (hY:∀b,Y b->A b) (h:ak K A H xs ds):Wk K A Y (IW K a) H ds where
 go:=λi H1 hi e=>⟨xs,xs[i]'(by rw[h.length];exact hi),d5.of (e.tp _ _ ha),by simp⟩
 stop:=λH1 e=>⟨xs,d5.of (e.tp _ _ ha),by rw[h.length];exact PF _⟩
 yld:=λi x H1 H2 hi e y=>by obtain⟨rfl,y⟩:=y;obtain⟨d,h1,h2⟩:=h.get (y xs (d5.of (e.tp _ _ ha)));exact⟨bj.refl _,d,h1,λB hB=>(h2.bQ (B:=λb=>A b\/B b) λb z=>z.elim .inl (hB b)).mono e (λb z=> .inl (hY b z)) λ_ z=> .inr z⟩
theorem xX {A Y:Addr->Prop} {a:Addr} {ns:List Int} {H:Hp} (ha:(Rd H a (.lst (ns.map V.int))/\¬Y a)\/KL K a (ns.map V.int)):Wk K A Y (HY K a) H (ns.map Dt.int):=by
 have sq:∀H1,aX Y H H1->cM K H1 a (ns.map V.int):=λH1 e=>by
  rcases ha with ⟨h,n⟩ | h
  ·exact .inl (xi e n h)
  ·exact .inr h
 refine⟨λi H1 hi e=>?_,λH1 e=>⟨_,sq H1 e,by simp⟩,λi x H1 H2 hi e y=>?_⟩
 ·rw[PL] at hi;exact⟨_,.int ns[i],sq H1 e,by simp[hi]⟩
 ·obtain⟨rfl,y⟩:=y;have:=y _ (sq _ e);rw[P1] at this;obtain⟨m,h1,rfl⟩:=PX.mp this;exact⟨bj.refl _,.int m,by simp[h1],λ_ _=>RV.cP⟩
theorem qA {A Y:Addr->Prop} {lo:Int} {n:Nat} {H:Hp}:Wk K A Y (HZ lo n) H (bg lo n) where
 go:=λi H1 hi e=>by unfold bg at hi;simp at hi;exact hi
 stop:=λH1 e=>by unfold bg;simp only[PL,List.length_range];exact PF _
 yld:=λi x H1 H2 hi e y=>by obtain⟨rfl,rfl⟩:=y;unfold bg at hi;simp at hi;exact⟨bj.refl _,.int (lo + i),by unfold bg;simp[hi],λ_ _=>RV.cP⟩
theorem xo {tg a:Expr} {a':C} (hK:Φ.K=X.K) (ha:PE X a (bK Φ Γ F g.fr a')):PI X tg a (nk Φ Γ F (.seq a')):=qj (Dy ha) λσ H Q q=>by
 obtain⟨o,ρ,S,er,q⟩:=q;unfold dE at q;rw[aa] at q;refine⟨o,ρ,S,er,ag q λp he q x H1 bo az=>?_⟩;have yx:rN (.seq a')=lk a':=rfl;cases hd:p.1 with
 | lst ds=>
  rw[hd] at q;have hv:=bo.val;have h0:=bo.cY;have h1:=bo.oS;rw[hd] at hv h0 h1;obtain⟨b,xs,rfl,f1,fn,f2⟩:=hv.lst_inv;refine .inl ⟨b,xs,rfl,cM.of f1,q _ _ ⟨bo.ext,λl=>?_,λl=>?_,λl=>by unfold kB at l;rw[he] at l;simp only[hd,lz] at l;cases l⟩ az⟩
  ·rw[<-hK];exact sT f1 (λz=>fn (.inr z)) az.da (ej.aN (h1 (by rw[yx] at l;exact l)) f1)
  ·rw[<-hK];have:=h0 (by rw[yx] at l;exact l);obtain⟨b',uu,e',g1,gn,g2⟩:=this.lst_inv;cases e';exact sT g1 gn (λ_ z=>z) g2
 | tup ds=>
  rw[hd] at q;have hv:=bo.val;have h0:=bo.cY;have h1:=bo.oS;rw[hd] at hv h0 h1;obtain⟨b,xs,rfl,f1,f2⟩:=hv.af;refine .inr ⟨b,xs,rfl,d5.of f1,q _ _ ⟨bo.ext,λl=>?_,λl=>?_,λl=>?_⟩ az⟩
  ·rw[<-hK];exact qB f1 az.da (ej.ar (h1 (by rw[yx] at l;exact l)) f1)
  ·rw[<-hK];exact qB f1 (λ_ z=>z) (ej.ar (h0 (by rw[yx] at l;exact l)).one f1)
  ·rw[<-hK];unfold kB at l;rw[he] at l;simp only[hd] at l;exact qB f1 (λ_ z=>z) (ej.ar (hv.lz l:RV Φ.K o.A H1 (.ref b) (.tup ds)).one f1)
 | bJ ns=>
  rw[hd] at q;have hv:=bo.val;have h0:=bo.cY;rw[hd] at hv h0;obtain⟨b,rfl,hb⟩:=hv.du;have Oe:cM X.K H1 b (ns.map V.int):=by
   rw[<-hK];rcases hb with hb | hb
   ·exact .inl hb.1
   ·exact .inr hb
  refine .inl ⟨b,_,rfl,Oe,q _ _ ⟨bo.ext,λl=>?_,λl=>?_,λl=>by unfold kB at l;rw[he] at l;simp only[hd,lz] at l;cases l⟩ az⟩
  ·rw[<-hK];exact xX (hb.imp (λz=>⟨z.1,λw=>z.2 (.inr w)⟩) id)
  ·rw[<-hK];obtain⟨b',e',rf⟩:=(h0 (by rw[yx] at l;exact l)).du;cases e';exact xX rf
 | _=>rw[hd] at q;exact q.elim
theorem DR {tg a:Expr} {a':C} {p pos:Pos} (hG:Gl X "range") (hm:X.mg "range"=none) (hs:starEach [a] X.env=[(false,eval a X.env)]) (ha:PE X a (bK Φ Γ F g.fr a')):PI X tg (.Call (.Name "range" p) [a] [] pos) (nk Φ Γ F (.rng1 a')):=
 qj (tZ hG hm (bZ ha eW (by rw[hs];rfl)) hs) λσ H Q q=>by
 obtain⟨o,ρ,S,er,q⟩:=q;unfold dE at q;rw[aa] at q;refine⟨o,ρ,S,er,ag q λp _ q x H1 bo az=>?_⟩;cases hd:p.1 with
 | int j=>rw[hd] at q;obtain⟨g1,q⟩:=aE q;rw[Pw] at g1;have a1:=Py g1.1;have a2:=Py g1.2;have hl:lim=1000000:=rfl;have hv:=bo.val;rw[hd] at hv;exact⟨j,by rw[hv.int_inv],by lia,by lia,q _ _ ⟨bo.ext,λ_=>qA,λ_=>qA,λ_=>qA⟩ az⟩
 | _=>rw[hd] at q;exact q.elim
theorem xY {A Y:Addr->Prop} {b1 b2:Bool} {l1 l2:Addr} {xs ys:List V} {ds es:List Dt} {H:Hp} (h1:H l1=some (Mx.pf b1 xs)) (h2:H l2=some (Mx.pf b2 ys)) (n1:b1=false->¬Y l1) (n2:b2=false->¬Y l2) (hY:∀b,Y b->A b) (g1:ak K A H xs ds) (g2:ak K A H ys es):Wk K A Y (Mx.IV b1 b2 l1 l2) H (cK ds es):=by
 have k1:∀H1,aX Y H H1->H1 l1=some (Mx.pf b1 xs):=λH1 e=>by
  cases b1 with
  | false=>exact e.kp _ _ h1 (n1 rfl)
  | true=>exact e.tp _ _ h1
 have k2:∀H1,aX Y H H1->H1 l2=some (Mx.pf b2 ys):=λH1 e=>by
  cases b2 with
  | false=>exact e.kp _ _ h2 (n2 rfl)
  | true=>exact e.tp _ _ h2
 have hz:(cK ds es).length=min xs.length ys.length:=by unfold cK;rw[List.length_zipWith,g1.length,g2.length]
 refine⟨λi H1 hi e=>?_,λH1 e=>?_,λi x H1 H2 hi e y=>?_⟩
 ·rw[hz] at hi;exact⟨xs,ys,xs[i]'(by lia),ys[i]'(by lia),k1 H1 e,k2 H1 e,by simp,by simp⟩
 ·exact⟨xs,ys,k1 H1 e,k2 H1 e,by lia⟩
 ·obtain⟨p,x1,y1,rfl,hp,rfl,q⟩:=y;obtain⟨q1,q2⟩:=q xs ys (k1 H1 e) (k2 H1 e);obtain⟨d,a1,a2⟩:=g1.get q1;obtain⟨c,c1,c2⟩:=g2.get q2;have s:=Mx.b9 hp (.tup [x1,y1]);refine⟨s,.tup [d,c],by unfold cK;rw[List.getElem?_zipWith,a1,c1],λB hB=>RV.dw aM ?_⟩;have av:∀{v:V} {dd:Dt},RV K A H v dd->RV K B (upd H1 p (.tup [x1,y1])) v dd:=λh=>((h.bQ (B:=λb=>A b\/B b) λb z=>z.elim .inl (hB b)).mono e (λb z=> .inl (hY b z)) λ_ z=> .inr z).same s
  exact ak.cons (av a2) (ak.cons (av c2) ak.nil)
theorem dS {A B:Addr->Prop} {H:Hp} {x:V} {d:Dt} {ds:List Dt} (h:cT d=some ds) (hv:RV K A H x d) (h1:ej K B H x d):∃b l xs,x= .ref l/\H l=some (Mx.pf b xs)/\(b=false->¬A l)/\ak K B H xs ds:=by
 unfold cT at h;split at h
 ·cases h;obtain⟨a,xs,rfl,f1,fn,f2⟩:=hv.lst_inv;exact⟨false,a,xs,rfl,f1,λ_=>fn,ej.aN h1 f1⟩
 ·cases h;obtain⟨a,xs,rfl,f1,f2⟩:=hv.af;exact⟨true,a,xs,rfl,f1,λz=>(by cases z),ej.ar h1 f1⟩
 ·cases h
theorem Hg {es:List Expr} {kk:Nat} {tp:Pos} {a b:Expr} {a' b':C} {p pos:Pos} (hK:Φ.K=X.K) (hG:Gl X "zip") (hm:X.mg "zip"=none) (hs:starEach [a,b] X.env=[(false,eval a X.env),(false,eval b X.env)]) (EJ:starEach [b] X.env=[(false,eval b X.env)]) (ha:PE X a (bK Φ Γ F g.fr a')) (hb:PE X b (bK Φ Γ F g.fr b')):
  PI X (.Tuple es kk tp) (.Call (.Name "zip" p) [a,b] [] pos) (nk Φ Γ F (.zip a' b')):=
 qj (Mx.Ag hG hm (bZ ha (bZ hb eW (by rw[EJ];rfl)) (by rw[hs,EJ])) hs EJ) λσ H Q q=>by
 obtain⟨o,ρ,S,er,q⟩:=q;unfold dE at q;rw[aa] at q;refine⟨o,ρ,S,er,ag q λp _ q x H1 bo az=>?_⟩;rw[aa] at q;refine⟨o,ρ,p.2,az,ag q λp2 _ q y H2 eo2 eS=>?_⟩;have yx:rN (.zip a' b')=max (lk a') (lk b'):=rfl;split at q
 ·rename_i ds es e1 e2;obtain⟨k1,k2,k3⟩:=bo.keep eo2.ext er.gf;obtain⟨c1,l1,xs,rfl,f1,M7,f2⟩:=dS e1 k1 k1.one;obtain⟨c2,l2,ys,rfl,g1,M9,g2⟩:=dS e2 eo2.val eo2.val.one;refine⟨c1,c2,l1,l2,xs,ys,rfl,f1,g1,q _ _ ⟨bo.ext.trans eo2.ext,λl=>?_,λl=>?_,λl=>by unfold kB at l;cases l⟩ eS⟩
  ·rw[yx] at l;obtain⟨Fe,Os,uu,e',Cb,_,Jy⟩:=dS e1 k1 (k3 (by lia));obtain⟨Ff,Oy,IK,EA,Cf,_,JB⟩:=dS e2 eo2.val (eo2.oS (by lia));cases e';cases EA;have i1:c1=Fe/\xs=uu:=by rw[f1] at Cb;cases c1 <;> cases Fe <;> first | (cases Cb;exact⟨rfl,rfl⟩) | cases Cb
   have i2:c2=Ff/\ys=IK:=by rw[g1] at Cf;cases c2 <;> cases Ff <;> first | (cases Cf;exact⟨rfl,rfl⟩) | cases Cf
   obtain⟨rfl,rfl⟩:=i1;obtain⟨rfl,rfl⟩:=i2;exact xY f1 g1 (λz w=>M7 z (.inr w)) (λz w=>M9 z (.inr w)) eS.da Jy JB
  ·rw[yx] at l;obtain⟨Fe,Os,uu,e',Cb,Gz,Jy⟩:=dS e1 (k2 (by lia)) (k2 (by lia)).one;obtain⟨Ff,Oy,IK,EA,Cf,C6,JB⟩:=dS e2 (eo2.cY (by lia)) (eo2.cY (by lia)).one;cases e';cases EA;have i1:c1=Fe/\xs=uu:=by rw[f1] at Cb;cases c1 <;> cases Fe <;> first | (cases Cb;exact⟨rfl,rfl⟩) | cases Cb
   have i2:c2=Ff/\ys=IK:=by rw[g1] at Cf;cases c2 <;> cases Ff <;> first | (cases Cf;exact⟨rfl,rfl⟩) | cases Cf
   obtain⟨rfl,rfl⟩:=i1;obtain⟨rfl,rfl⟩:=i2;exact xY f1 g1 Gz C6 (λ_ z=>z) Jy JB
 ·exact q.elim
end
noncomputable def xQ:List Nat->uK
 | []=>Cg
 | i::is=>vJ (dM i) (xQ is)
noncomputable def AD (K:Frag):Tg->TG
 | .nm i=>dM i
 | .tp is=>Ci K is.length (xQ is)
section
variable {X:Cx} {Φ:Fm} {Γ:Gm} {F:FT} {g:G} {xv:Nat->Value} {CX:iX} {k:Nat} {K:Frag}
theorem eZ {x:Str} {i:Nat} (h:ez Γ x=some i):wA (Γ.names.lookup x)=true/\cw x=true/\Γ.N[i]?=some x:=by
 unfold ez at h;split at h
 ·rename_i c;rw[Pw] at c;exact⟨c.1,c.2,ja h⟩
 ·cases h
theorem jl {x:Str} {i:Nat} (h:slot Γ x=some i):xV (Γ.names.lookup x)=true/\cw x=true/\Γ.N[i]?=some x:=by
 unfold slot at h;split at h
 ·rename_i c;rw[Pw] at c;exact⟨c.1,c.2,ja h⟩
 ·cases h
theorem gO {e:Expr} {i:Nat} (h:oE Γ e=some i):∃x p,e= .Name x p/\ez Γ x=some i/\plainS Γ i=true:=by
 unfold oE at h;split at h
 ·rename_i x p;obtain⟨j,h1,h2⟩:=Pt.mp h;split at h2
  ·cases h2;exact⟨x,p,rfl,h1,by assumption⟩
  ·cases h2
 ·cases h
theorem Br {e:Expr} {i:Nat} (gx:GX g Γ X) (h:oE Γ e=some i):PG X e (dM i):=by obtain⟨x,p,rfl,h1,_⟩:=gO h;obtain⟨a,b,c⟩:=eZ h1;obtain⟨l1,l2⟩:=gx.loc x a;exact Ae (gx.N▸gx.nd) (by rw[gx.N];exact c) l1 l2
theorem Bt (gx:GX g Γ X):∀{es:List Expr} {is:List Nat},fW Γ es=some is->EZ X es (xQ is)/\es.length=is.length/\∀e∈es,∃x p,e= .Name x p
 | [],is,h=>by cases h;exact⟨Af,rfl,λe z=>by cases z⟩
 | e::es,is,h=>by
  unfold fW at h;obtain⟨i,h1,h2⟩:=Pt.mp h;obtain⟨js,h3,rfl⟩:=PX.mp h2;obtain⟨k1,k2,k3⟩:=Bt gx h3;obtain⟨x,p,ex,_⟩:=gO h1;refine⟨wV (Br gx h1) k1 (by subst ex;rfl),by simp[k2],λe' z=>?_⟩;rcases PQ.mp z with rfl | z
  ·exact⟨x,p,ex⟩
  ·exact k3 e' z
theorem jT {env:Env}:∀{es:List Expr},(∀e∈es,∃x p,e=Expr.Name x p)->(assignEach es env).length=es.length/\(assignEach es env).findIdx? (·.1)=none
 | [],_=>⟨rfl,rfl⟩
 | e::es,h=>by
  obtain⟨x,p,rfl⟩:=h e PH;obtain⟨h1,h2⟩:=jT (es:=es) (env:=env) λe' z=>h e' (PC _ z)
  have q:assignEach (Expr.Name x p::es) env=(false,assign (.Name x p) env)::assignEach es env:=rfl;rw[q];refine⟨by simp[h1],?_⟩;rw[List.findIdx?_cons];simp[h2]
theorem oP {e:Expr} {t:Tg} (gx:GX g Γ X) (h:nP Γ e=some t):PG X e (AD X.K t):=by
 unfold nP at h;split at h
 ·obtain⟨i,h1,rfl⟩:=PX.mp h;exact Br gx h1
 ·obtain⟨is,h1,rfl⟩:=PX.mp h;obtain⟨k1,k2,k3⟩:=Bt gx h1;obtain⟨n1,n2⟩:=jT (env:=X.env) k3;exact Dx gx.calm k1 (by rw[n1,k2]) n2
 ·cases h
theorem dX {e:Expr} {t:Tg} (h:nP Γ e=some t):∀i∈aU t,plainS Γ i=true/\∃x,ez Γ x=some i:=by
 have many:∀{es:List Expr} {is:List Nat},fW Γ es=some is->∀i∈is,plainS Γ i=true/\∃x,ez Γ x=some i:=by
  intro es
  induction es with
  | nil=>intro is h i hi;cases h;cases hi
  | cons e es ih=>
   intro is h i hi;unfold fW at h;obtain⟨j,h1,h2⟩:=Pt.mp h;obtain⟨js,h3,rfl⟩:=PX.mp h2;rcases PQ.mp hi with rfl | hi
   ·obtain⟨x,p,_,k1,k2⟩:=gO h1;exact⟨k2,x,k1⟩
   ·exact ih h3 i hi
 unfold nP at h;split at h
 ·obtain⟨j,h1,rfl⟩:=PX.mp h;intro i hi;have:i=j:=by simpa [aU] using hi
  subst this;obtain⟨x,p,_,k1,k2⟩:=gO h1;exact⟨k2,x,k1⟩
 ·obtain⟨is,h1,rfl⟩:=PX.mp h;exact many h1
 ·cases h
theorem gP {i:Nat} (h:plainS Γ i=true):et Γ i=false/\Γ.δ≠some i:=by unfold plainS at h;rw[Pw] at h;refine⟨by simpa using h.1,λe=>?_⟩;rw[e] at h;simp at h
theorem ER.set {o:Ow} {ρ:ai} {S:Sx} {σ:L2.St} {H:Hp} {i:Nat} {v:V} {d:Dt} (er:ER Φ Γ o ρ S σ H) (hp:plainS Γ i=true) (h:RV Φ.K o.A H v d):ER Φ Γ o (ρ.set i (some d)) S (σ.set i (some v)) H where
 len:=by rw[List.length_set,List.length_set];exact er.len
 wa:=er.wa
 da:=er.da
 al:=er.al
 val:=λj e he=>by
  by_cases hj:j=i
  ·subst hj;rw[List.getElem?_set] at he;simp only[if_true] at he;split at he
   ·rename_i cJ;cases he;refine⟨v,by rw[Qt (by rw[er.len];exact cJ)],?_⟩;rw[(gP hp).1,if_neg (by simp)];exact h
   ·cases he
  ·rw[PZ (Ne.symm hj)] at he;obtain⟨w,h1,h2⟩:=er.val j e he;exact⟨w,by rw[PZ (Ne.symm hj)];exact h1,h2⟩
 inj:=λa b c e f ha hb h1 h2 h3 h4=>by
  have na:a≠i:=λz=>by rw[z,(gP hp).1] at ha;cases ha
  have nb:b≠i:=λz=>by rw[z,(gP hp).1] at hb;cases hb
  rw[PZ (Ne.symm na)] at h1 h3;rw[PZ (Ne.symm nb)] at h2 h4;exact er.inj a b c e f ha hb h1 h2 h3 h4
 dk:=Dk.set er.dk h.nd
 drw:=er.drw
 drn:=er.drn
 drs:=λj a hj ha=>by rw[PZ (λz=>(gP hp).2 (by rw[z];exact hj))];exact er.drs j a hj ha
 dr0:=er.dr0
 ent:=er.ent
theorem sP {o:Ow} {S:Sx} {H:Hp} {Q:L2.St->Hp->Prop}:∀{is:List Nat} {ds:List Dt} {xs:List V} {ρ ρ1:ai} {σ:L2.St},ER Φ Γ o ρ S σ H->(∀i∈is,plainS Γ i=true)->ak Φ.K o.A H xs ds->iM is ds ρ= .ok ρ1->(∀σ1,ER Φ Γ o ρ1 S σ1 H->(∀k,k∉is->σ1[k]?=σ[k]?/\ρ1[k]?=ρ[k]?)->Q σ1 H)->xQ is xs σ H Q/\xs.length=is.length
 | [],ds,xs,ρ,ρ1,σ,er,_,hx,h,q=>by
  cases ds with
  | nil=>cases h;rw[hx.nil_inv];exact⟨⟨rfl,q σ er λ_ _=>⟨rfl,rfl⟩⟩,rfl⟩
  | cons=>cases h
 | i::is,ds,xs,ρ,ρ1,σ,er,hp,hx,h,q=>by
  cases ds with
  | nil=>cases h
  | cons d ds=>
   obtain⟨x,r,rfl,h1,h2⟩:=hx.cons_inv;obtain⟨k1,k2⟩:=sP (er.set (hp i PH) h1) (λj hj=>hp j (PC _ hj)) h2 h λσ1 az hk=>q σ1 az λk vZ=>by
    have n1:k≠i:=λz=>vZ (by rw[z];exact PH)
    obtain⟨a1,a2⟩:=hk k λz=>vZ (PC _ z)
    rw[PZ (Ne.symm n1)] at a1 a2;exact⟨a1,a2⟩
   exact⟨⟨x,r,rfl,k1⟩,by simp[k2]⟩
theorem qu {o:Ow} {S:Sx} {H:Hp} {Q:L2.St->Hp->Prop} {t:Tg} {d:Dt} {x:V} {ρ ρ1:ai} {σ:L2.St} (er:ER Φ Γ o ρ S σ H) (hp:∀i∈aU t,plainS Γ i=true) (hx:RV Φ.K o.A H x d) (h:dU t d ρ= .ok ρ1) (q:∀σ1,ER Φ Γ o ρ1 S σ1 H->(∀k,k∉aU t->σ1[k]?=σ[k]?/\ρ1[k]?=ρ[k]?)->Q σ1 H):AD Φ.K t x σ H Q:=by
 cases t with
 | nm i=>
  cases h;exact q _ (er.set (hp i (by simp[aU])) hx) λk hk=>by
   have n1:k≠i:=λz=>hk (by simp[aU,z])
   rw[PZ (Ne.symm n1),PZ (Ne.symm n1)];exact⟨rfl,rfl⟩
 | tp is=>
  unfold dU at h;cases d with
  | tup ds=>obtain⟨a,xs,rfl,h1,h2⟩:=hx.af;obtain⟨k1,k2⟩:=sP er hp h2 h q;exact⟨a,xs,rfl,d5.of h1,k2,k1⟩
  | _=>cases h
theorem oQ:∀(is:List Nat) (ds:List Dt) (ρ:ai) (k:Nat),iM is ds ρ≠ .ex k
 | [],[],_,_=>λz=>by cases z
 | [],_::_,_,_=>λz=>by cases z
 | _::_,[],_,_=>λz=>by cases z
 | _::is,_::ds,ρ,k=>oQ is ds _ k
theorem j6 (t:Tg) (d:Dt) (ρ:ai):∀k,dU t d ρ≠ .ex k:=by
 intro k;cases t with
 | nm i=>intro z;cases z
 | tp is=>
  cases d with
  | tup ds=>exact oQ is ds ρ k
  | _=>intro z;cases z
theorem jP {Ek:Nat->Prop} {α:Type} {r:R α} {P:α->Prop} (gg:∀k,r≠ .ex k) (h:mR Ek r P):∃d,r= .ok d/\P d:=by
 cases r with
 | ok a=>exact⟨a,rfl,h⟩
 | ex k=>exact absurd rfl (gg k)
 | bad=>exact h.elim
theorem pF {sc:Scope} (gx:GX g Γ X) (hk:sc.kind= .function) (hb:u5 sc.names Γ.names (aY Γ sc).1.N Γ.N (aY Γ sc).2=true):eB X sc (aY Γ sc).1.N (aY Γ sc).2:=by
 unfold u5 at hb;rw[Pw,Pw] at hb;obtain⟨⟨h1,h2⟩,h3⟩:=hb;rw[Qj] at h1 h3;refine⟨hk,λy hy=>?_,λy hy e=>?_,λj i hj=>?_,by simpa using h2⟩
 ·have:=h1 y hy;rw[Pw] at this;exact P6 this.1
 ·have:=h1 y hy;rw[Pw,e] at this;have h:=this.2;simp at h;exact gx.fre y.1 h
 ·have cJ:j < (aY Γ sc).2.length:=(Pz.mp hj).1;have:=h3 j (Qu.mpr cJ);rw[hj] at this;simp only at this;cases hx:(aY Γ sc).1.N[j]? with
  | none=>rw[hx] at this;cases this
  | some x=>rw[hx] at this;simp only[Pw] at this;exact⟨x,rfl,by rw[gx.N];exact P6 this.1,P6 this.2⟩
theorem d8 {sc:Scope} {C:Addr} {s:Shared} {H:Hp} {fp:List Addr} {xe:Value->Shared->Prop} (gx:GX g Γ X) (B:eB X sc (aY Γ sc).1.N (aY Γ sc).2) (iI:(aY Γ sc).1.N.Nodup):GX g (aY Γ sc).1 (eJ X sc (aY Γ sc).1.N C s H fp xe) where
 N:=rfl
 nd:=iI
 vis:=λx h=>by
  have hn:(aY Γ sc).1.names=sc.names:=rfl;rw[hn] at h;cases hl:sc.names.lookup x with
  | none=>rw[hl] at h;cases h
  | some kk=>
   have q:=aV (env:=X.env) hl;have q':(eJ X sc (aY Γ sc).1.N C s H fp xe).env.scope.names.lookup x=_:=q;by_cases hc:(kk==NameKind.free&&X.env.scope.kind== .function&&X.env.kindOf x==some .cell)=true
   ·rw[if_pos hc] at q';exact .inr (.inl q')
   ·rw[if_neg hc] at q';rw[hl] at h;cases kk with
    | «local»=>exact .inl q'
    | cell=>exact .inr (.inl q')
    | free=>exact .inr (.inr q')
    | globalExplicit=>cases h
    | globalImplicit=>cases h
 loc:=λx h=>by
  have hn:(aY Γ sc).1.names=sc.names:=rfl;rw[hn] at h;cases hl:sc.names.lookup x with
  | none=>rw[hl] at h;cases h
  | some kk=>
   have q:=aV (env:=X.env) hl;have q':(eJ X sc (aY Γ sc).1.N C s H fp xe).env.scope.names.lookup x=_:=q;rw[hl] at h;cases kk with
   | «local»=>rw[if_neg (by simp)] at q';exact⟨.inl q',.inr q'⟩
   | cell=>rw[if_neg (by simp)] at q';exact⟨.inr q',.inl (by show (sc.names.lookup x==some .cell)=true;rw[hl];rfl)⟩
   | free=>cases h
   | globalExplicit=>cases h
   | globalImplicit=>cases h
 gl:=λx h=>by
  have hn:(aY Γ sc).1.names=sc.names:=rfl;rw[hn] at h;cases hl:sc.names.lookup x with
  | none=>rw[hl] at h;cases h
  | some kk=>
   have q:=aV (env:=X.env) hl;have q':(eJ X sc (aY Γ sc).1.N C s H fp xe).env.scope.names.lookup x=_:=q;rw[hl] at h;cases kk with
   | globalImplicit=>rw[if_neg (by simp)] at q';exact q'
   | «local»=>cases h
   | cell=>cases h
   | free=>cases h
   | globalExplicit=>cases h
 fre:=λx h=>by
  have hn:(aY Γ sc).1.names=sc.names:=rfl;rw[hn] at h;rcases h with hl | hl
  ·have q:=aV (env:=X.env) hl;have q':(eJ X sc (aY Γ sc).1.N C s H fp xe).env.scope.names.lookup x=_:=q;rw[if_neg (by simp)] at q';exact .inl q'
  ·have q:=aV (env:=X.env) hl;have q':(eJ X sc (aY Γ sc).1.N C s H fp xe).env.scope.names.lookup x=_:=q;by_cases hc:(NameKind.free==NameKind.free&&X.env.scope.kind== .function&&X.env.kindOf x==some .cell)=true
   ·rw[if_pos hc] at q';exact .inl q'
   ·rw[if_neg hc] at q';exact .inr q'
 calm:=gx.calm
 un:=gx.un
 con:=gx.con
 bl:=gx.bl
end
theorem join_some {α:Type} {o:Option (Option α)} {a:α} (h:o.join=some a):o=some (some a):=by
 cases o with
 | none=>cases h
 | some x=>cases x with
  | none=>cases h
  | some y=>simp at h;rw[h]
theorem eN {cap:List (Option Nat)} {ρ:ai} {j:Nat} {d:Dt} (h:(iQ cap ρ)[j]?=some (some d)):∃i,cap[j]?=some (some i)/\ρ[i]?=some (some d):=by
 unfold iQ at h;rw[P1] at h;cases hc:cap[j]? with
 | none=>rw[hc] at h;cases h
 | some o=>
  rw[hc] at h;cases o with
  | none=>cases h
  | some i=>refine⟨i,rfl,join_some ?_⟩;simpa using h
theorem dD {cap:List (Option Nat)} {σ:L2.St} {i j:Nat} {v:V} (hc:cap[j]?=some (some i)) (h:σ[i]?=some (some v)):(cF cap σ)[j]?=some (some v):=by unfold cF;rw[P1,hc];simp[h]
theorem rH {δ:Option Nat}:∀{cap:List (Option Nat)} {j:Nat},yz δ cap=some j->∃i,δ=some i/\cap[j]?=some (some i)
 | [],j,h=>by simp[yz] at h
 | o::r,j,h=>by
  unfold yz at h;split at h
  ·rename_i c;rw[Pw] at c;cases h;cases δ with
   | none=>simp at c
   | some i=>exact⟨i,rfl,by simp[P6 c.2]⟩
  ·obtain⟨k,h1,rfl⟩:=PX.mp h;obtain⟨i,h2,h3⟩:=rH h1;exact⟨i,h2,by simpa using h3⟩
section
variable {X:Cx} {Φ:Fm} {Γ:Gm} {F:FT} {g:G} {xv:Nat->Value} {CX:iX} {k:Nat} {K:Frag}
noncomputable def Ow.plus (o:Ow) (D:Addr):Ow:=⟨o.W,λb=>o.A b\/b=D,o.dr⟩
theorem i8 {sc:Scope} {i j:Nat} (hc:(aY Γ sc).2[j]?=some (some i)):et (aY Γ sc).1 j=et Γ i:=by have e:(aY Γ sc).1.M=BX (aY Γ sc).2 Γ.M:=rfl;unfold et;rw[e];unfold BX;rw[P1,hc];simp
theorem oq {i:Nat}:∀{cap:List (Option Nat)} {j:Nat},cap[j]?=some (some i)->∃j',yz (some i) cap=some j'/\cap[j']?=some (some i)
 | [],j,h=>by cases h
 | o::r,j,h=>by
  unfold yz;by_cases e:o=some i
  ·refine⟨0,?_,by rw[e];rfl⟩;rw[e];simp
  ·rw[if_neg (by simp[e])];cases j with
   | zero=>cases h;exact absurd rfl e
   | succ j=>obtain⟨j',h1,h2⟩:=oq (cap:=r) (j:=j) h;exact⟨j' + 1,by rw[h1];rfl,h2⟩
theorem ER.aY {sc:Scope} {o:Ow} {ρ:ai} {S:Sx} {σ:L2.St} {H:Hp} {D:Addr} (er:ER Φ Γ o ρ S σ H) (B:eB X sc (aY Γ sc).1.N (aY Γ sc).2) (iI:(Rx.aY Γ sc).1.N.Nodup) (hD:H D=none):
  ER Φ (Rx.aY Γ sc).1 (o.plus D) (iQ (Rx.aY Γ sc).2 ρ) S (cF (Rx.aY Γ sc).2 σ) (upd H D (.lst [])):=by
 have s:=Mx.b9 hD (.lst []);have av:∀b,(o.A b\/b=D)->o.A b\/H b=none:=λb z=>z.elim .inl λe=> .inr (by rw[e];exact hD)
 refine⟨?_,λa h=> .inl (er.wa a h),λa h=> .inl (er.da a h),λa h=>?_,λj d h=>?_,λj ks vs h=>?_,λj j' a d e hm F4 h1 h2 h3 h4=>?_,λa h=>?_,er.drn,λj a hj ha=>?_,er.dr0,er.ent.trans (aX.of_same s)⟩
 ·unfold cF iQ;rw[PL,PL]
 ·rcases h with h | h
  ·obtain⟨x,hx⟩:=er.al a h;exact⟨x,s _ _ hx⟩
  ·subst h;exact⟨_,aM⟩
 ·obtain⟨i,hc,hr⟩:=eN h;obtain⟨v,h1,h2⟩:=er.val i d hr;refine⟨v,dD hc h1,?_⟩;rw[i8 hc];by_cases hm:et Γ i=true
  ·rw[if_pos hm] at h2 ⊢;cases d with
   | lst ds=>obtain⟨a,xs,e1,e2,e3,e4,e5,e6,e7⟩:=h2;exact⟨a,xs,e1,s _ _ e2,.inl e3,e4,e5,e6,(e7.bQ av).same s⟩
   | fg=>exact h2.elim
   | _=>exact RV.same (RV.bQ av h2) s
  ·rw[if_neg hm] at h2 ⊢;exact(h2.bQ av).same s
 ·obtain⟨i,hc,hr⟩:=eN h;have hk:=er.dk i ks vs hr;obtain⟨j',k1,k2⟩:=oq hc;obtain⟨x,n1,n2,_⟩:=B.td j i hc;obtain⟨x',Gz,C6,_⟩:=B.td j' i k2;rw[n2] at C6;cases C6;show yz Γ.κ (Rx.aY Γ sc).2=some j;rw[hk,k1,gM iI n1 Gz]
 ·obtain⟨i,hc,hr⟩:=eN h1;obtain⟨i',kD,gh⟩:=eN h2;rw[i8 hc] at hm;rw[i8 kD] at F4;obtain⟨v,k1,_⟩:=er.val i _ hr;obtain⟨v',Mh,_⟩:=er.val i' _ gh;rw[dD hc k1] at h3;rw[dD kD Mh] at h4;cases h3;cases h4;have:=er.inj i i' a d e hm F4 hr gh k1 Mh;subst this;obtain⟨x,n1,n2,_⟩:=B.td j i hc;obtain⟨x',Gz,C6,_⟩:=B.td j' i kD;rw[n2] at C6;cases C6;exact gM iI n1 Gz
 ·obtain⟨ns,e1,e2⟩:=er.drw a h;exact⟨ns,e1,s _ _ e2⟩
 ·obtain⟨i,h1,h2⟩:=rH (show yz Γ.δ (Rx.aY Γ sc).2=some j from hj);exact dD h2 (er.drs i a h1 ha)
theorem vj {sc:Scope} {x:Str} {i:Nat} (B:eB X sc (aY Γ sc).1.N (aY Γ sc).2) (h:ez (aY Γ sc).1 x=some i):(aY Γ sc).2[i]?=some none:=by
 obtain⟨a,b,c⟩:=eZ h;have cJ:i < (aY Γ sc).2.length:=by rw[B.len];exact(Pz.mp c).1
 cases hc:(aY Γ sc).2[i]? with
 | none=>rw[List.getElem?_eq_none_iff] at hc;lia
 | some o=>
  cases o with
  | none=>rfl
  | some j=>obtain⟨y,n1,_,n3⟩:=B.td i j hc;rw[c] at n1;cases n1;have hn:(aY Γ sc).1.names=sc.names:=rfl;rw[hn,n3] at a;cases a
theorem pG {cap:List (Option Nat)} {σ:L2.St} {i:Nat} (h:cap[i]?=some none):(cF cap σ)[i]?=some none:=by unfold cF;rw[P1,h];rfl
theorem jG {σ0:L2.St} {t:Tg} {K:Frag} (h:∀i∈aU t,σ0[i]?=some none):GL σ0 (AD K t):=by
 have many:∀{is:List Nat},(∀i∈is,σ0[i]?=some none)->EV σ0 (xQ is):=by
  intro is
  induction is with
  | nil=>intro _;exact zl
  | cons i is ih=>intro hs;exact vQ (hs i PH) (ih λj hj=>hs j (PC _ hj))
 cases t with
 | nm i=>exact zk (h i (by simp[aU]))
 | tp is=>exact Ck (many h)
theorem nq {sc:Scope} {e:Expr} {t:Tg} {σ:L2.St} (B:eB X sc (aY Γ sc).1.N (aY Γ sc).2) (h:nP (aY Γ sc).1 e=some t):∀i∈aU t,(cF (aY Γ sc).2 σ)[i]?=some none:=λi hi=>by obtain⟨_,x,hx⟩:=dX h i hi;exact pG (vj B hx)
noncomputable def BD (Γ:Gm) (ρ:ai) (σ:L2.St) (D:Addr):Prop:=∀(j:Nat) (d:List Dt),et Γ j=true->ρ[j]?=some (some (.lst d))->σ[j]?≠some (some (.ref D))
theorem sS {H:Hp} {D:Addr} {acc fy:List V} (hD:H D=some (.lst acc)):aX (λb=>b=D) H (upd H D (.lst fy)):=⟨λb o h n=>by rw[aF n];exact h,Mx.kh hD⟩
theorem ER.emit {o:Ow} {ρ:ai} {S:Sx} {σ:L2.St} {H:Hp} {D:Addr} {acc fy:List V} (er:ER Φ Γ o ρ S σ H) (hD:H D=some (.lst acc)) (hn:BD Γ ρ σ D) (oD:o.A D) (nd:o.dr≠some D) (h0:∀x,Φ.H0 D=some x->Φ.d0=some D):ER Φ Γ o ρ S σ (upd H D (.lst fy)):=by
 have up:aX (λb=>b=D) H (upd H D (.lst fy)):=sS hD;have uA:∀b,b=D->o.A b:=λb z=>by rw[z];exact oD
 refine⟨er.len,er.wa,er.da,λa ha=>?_,λj dd h=>?_,er.dk,er.inj,λa ha=>?_,er.drn,er.drs,er.dr0,?_⟩
 ·obtain⟨x,hx⟩:=er.al a ha;exact up.al hx λz=>⟨_,by rw[z];exact aM⟩
 ·obtain⟨w,h1,h2⟩:=er.val j dd h;refine⟨w,h1,?_⟩;by_cases hm:et Γ j=true
  ·rw[if_pos hm] at h2 ⊢;cases dd with
   | lst ds=>
    obtain⟨a,xs,e1,e2,e3,e4,e5,e6,e7⟩:=h2;have aD:a≠D:=λz=>hn j ds hm h (by rw[h1,e1,z])
    exact⟨a,xs,e1,up.kp _ _ e2 aD,e3,e4,e5,e6,e7.mono up uA λ_ z=>z⟩
   | fg=>exact h2.elim
   | _=>exact RV.mono up uA (λ_ z=>z) h2
  ·rw[if_neg hm] at h2 ⊢;exact h2.mono up uA λ_ z=>z
 ·obtain⟨ns,e1,e2⟩:=er.drw a ha;exact⟨ns,e1,up.kp _ _ e2 (λz=>nd (by rw[<-z];exact ha))⟩
 ·refine⟨λb x h n=>up.kp _ _ (er.ent.kp b x h n) λz=>?_,λb xs h=>up.tp _ _ (er.ent.tp b xs h)⟩;subst z;exact n (h0 x h)
theorem Wk.less {A Y Y':Addr->Prop} {J:It} {H:Hp} {ds:List Dt} (w:Wk K A Y J H ds) (h:∀b,Y' b->Y b):Wk K A Y' J H ds:=⟨λi H1 hi e=>w.go i H1 hi (e.mono h),λH1 e=>w.stop H1 (e.mono h),λi x H1 H2 hi e y=>w.yld i x H1 H2 hi (e.mono h) y⟩
theorem IO.MF {Φ:Fm} {Γ:Gm} {o:Ow} {ρ:ai} {S:Sx} {σ:L2.St} {it:lK} {nl:Bool} {H H1:Hp} {ds:List Dt} {J:It} (io:IO Φ.K o it nl H ds J H1) (er:ER Φ Γ o ρ S σ H1) (h:(decide (rN it<=1)||nl)=true):Wk Φ.K o.A o.d J H1 ds:=by
 rcases Bool.or_eq_true_iff.mp h with h | h
 ·exact io.w1 (Py h)
 ·exact(io.w2 h).less er.da
theorem Wk.plus {A Y:Addr->Prop} {J:It} {H:Hp} {ds:List Dt} {D:Addr} (w:Wk K A Y J H ds) (hD:H D=none):Wk K (λb=>A b\/b=D) (λb=>Y b\/b=D) J (upd H D (.lst [])) ds:=by
 have ex:∀H1,aX (λb=>Y b\/b=D) (upd H D (.lst [])) H1->aX Y H H1:=λH1 e=>⟨λb o h n=>by
   have nb:b≠D:=λz=>by rw[z,hD] at h;cases h
   exact e.kp b o (by rw[aF nb];exact h) λz=>z.elim n nb,λb xs h=>by
   have nb:b≠D:=λz=>by rw[z,hD] at h;cases h
   exact e.tp b xs (by rw[aF nb];exact h)⟩
 refine⟨λi H1 hi e=>w.go i H1 hi (ex H1 e),λH1 e=>w.stop H1 (ex H1 e),λi x H1 H2 hi e y=>?_⟩;obtain⟨s,d,hd,hv⟩:=w.yld i x H1 H2 hi (ex H1 e) y;refine⟨s,d,hd,λB hB=>hv B λb hb=>?_⟩;rcases hB b hb with (z | z) | z
 ·exact .inl z
 ·exact .inr (by rw[z];exact hD)
 ·by_cases nb:b=D
  ·exact .inr (by rw[nb];exact hD)
  ·rw[aF nb] at z;exact .inr z
structure yE (Φ:Fm) (Γ:Gm) (o:Ow) (D:Addr) (ρ:ai) (σ:L2.St) (S:Sx) (acc:List V) (es:List Dt) (H:Hp):Prop where
 at':H D=some (.lst acc)
 rv:ak Φ.K o.A H acc es
 er:ER Φ Γ o ρ S σ H
structure HS (Φ:Fm) (o:Ow) (D:Addr):Prop where
 oD:o.A D
 nd:o.dr≠some D
 h0:∀x,Φ.H0 D=some x->Φ.d0=some D
noncomputable def Yd (o:Ow) (D:Addr):Addr->Prop:=λb=>o.d b\/b=D
theorem ER.back {o:Ow} {ρ ρ':ai} {S S':Sx} {σ σ':L2.St} {H H':Hp} {D:Addr} (fx:HS Φ o D) (hn:BD Γ ρ σ D) (er:ER Φ Γ o ρ S σ H) (B9:ER Φ Γ o ρ' S' σ' H') (e:aX (Yd o D) H H') (O8:∃acc,H D=some (.lst acc)):ER Φ Γ o ρ S' σ H':=by
 have uA:∀b,Yd o D b->o.A b:=λb z=>z.elim (er.da b) λq=>by rw[q];exact fx.oD
 refine⟨er.len,er.wa,er.da,B9.al,λj dd h=>?_,er.dk,er.inj,B9.drw,B9.drn,er.drs,er.dr0,B9.ent⟩;obtain⟨w,h1,h2⟩:=er.val j dd h;refine⟨w,h1,?_⟩;by_cases hm:et Γ j=true
 ·rw[if_pos hm] at h2 ⊢;cases dd with
  | lst ds=>
   obtain⟨a,xs,e1,e2,e3,e4,e5,e6,e7⟩:=h2;have aD:a≠D:=λz=>hn j ds hm h (by rw[h1,e1,z])
   exact⟨a,xs,e1,e.kp _ _ e2 (λz=>z.elim e5 aD),e3,e4,e5,e6,e7.mono e uA λ_ z=>z⟩
  | fg=>exact h2.elim
  | _=>exact RV.mono e uA (λ_ z=>z) h2
 ·rw[if_neg hm] at h2 ⊢;exact h2.mono e uA λ_ z=>z
theorem qz {tg:Tg} {ts:Cs} {o:Ow} {D:Addr} {ρ:ai} {σ:L2.St} {J:It} {ds:List Dt} {H1:Hp} {tb:TB} {fb:ai->Sx->R (List Dt×Sx)} {m a0:Nat} (fx:HS Φ o D) (hp:∀i∈aU tg,plainS Γ i=true) (wk:Wk Φ.K o.A (Yd o D) J H1 ds) (hn:BD Γ ρ σ D)
  (hb:∀(ρ1:ai) (σ1:L2.St) (S:Sx) (acc:List V) (es:List Dt) (H2:Hp) (P:List Dt×Sx->Prop),BD Γ ρ1 σ1 D->(∀k,k∉aU tg->σ1[k]?=σ[k]?/\ρ1[k]?=ρ[k]?)->yE Φ Γ o D ρ1 σ1 S acc es H2->aX (Yd o D) H1 H2->acc.length + m<=a0 + ds.length * m->0 < ds.length->mR Φ.Ek (fb ρ1 S) P->
   ∀Q:Hp->Prop,(∀H5 r gr,P r->yE Φ Γ o D ρ1 σ1 r.2 gr (es++r.1) H5->aX (Yd o D) H2 H5->gr.length<=acc.length + m->Q H5)->tb σ1 H2 Q)
  {S:Sx} {acc:List V} {es:List Dt} {P:List Dt×Sx->Prop} (c:yE Φ Γ o D ρ σ S acc es H1) (ha:acc.length<=a0) (q:mR Φ.Ek (aG (aJ tg (a8 F ts) fb ρ) ds S) P) {Fn:Hp->Prop}
  (fin:∀H5 r gr,P r->yE Φ Γ o D ρ σ r.2 gr (es++r.1) H5->aX (Yd o D) H1 H5->gr.length<=a0 + ds.length * m->Fn H5):nG J (AD Φ.K tg) (lF Φ Γ F ts) tb σ Fn H1:=by
 refine⟨λi mm H2=>mm=ds.length - i/\i<=ds.length/\∃S2 lP vz,yE Φ Γ o D ρ σ S2 lP (es++vz) H2/\aX (Yd o D) H1 H2/\lP.length<=a0 + i * m/\mR Φ.Ek (aG (aJ tg (a8 F ts) fb ρ) (ds.drop i) S2) λr=>P (vz++r.1,r.2),
  ⟨_,rfl,Nat.zero_le _,S,acc,[],by rw[Qn];exact c,aX.refl,by lia,q⟩,?_⟩
 rintro i mm H2 ⟨rfl,hi,S2,lP,vz,c2,ym,d9,q⟩;by_cases cJ:i < ds.length
 ·refine .inr ⟨wk.go i H2 cJ ym,λx H3 y=>?_⟩;obtain⟨s3,d,hd,hx⟩:=wk.yld i x H2 H3 cJ ym y;have wg:=hx o.A λb z=> .inl z
  have Fw:=c2.er.grow s3;have Jt:ds.drop i=d::ds.drop (i + 1):=by rw[List.drop_eq_getElem_cons cJ];congr 1;exact(Pz.mp hd).2
  rw[Jt] at q;unfold aG at q;rw[aa] at q;unfold aJ at q;rw[aa] at q;obtain⟨ρ1,hρ,q⟩:=jP (j6 _ _ _) q;refine qu Fw hp wg hρ λσ1 Jx hk=>?_
  rw[aa] at q;refine⟨o,ρ1,S2,Jx,ag q λb _ q H4 e4 Ij=>?_⟩;have LF:aX (Yd o D) H3 H4:=e4.mono λb z=> .inl z
  have OD:BD Γ ρ1 σ1 D:=λj dd hm h1 h2=>by
   have nj:j∉aU tg:=λz=>by rw[(gP (hp j z)).1] at hm;cases hm
   obtain⟨k1,k2⟩:=hk j nj;rw[k1] at h2;rw[k2] at h1;exact hn j dd hm h1 h2
  have uA:∀b,Yd o D b->o.A b:=λb z=>z.elim (Fw.da b) λq=>by rw[q];exact fx.oD
  have FD:H4 D=some (.lst lP):=e4.kp _ _ (s3 _ _ c2.at') fx.nd;have Md:ak Φ.K o.A H4 lP (es++vz):=(c2.rv.same s3).mono LF uA λ_ z=>z
  have Fx:aX (Yd o D) H2 H4:=(aX.of_same s3).trans LF;have hmul:ds.length * m=(ds.length - (i + 1)) * m + (i * m + m):=by
   rw[<-Nat.succ_mul i m,<-Nat.add_mul];congr 1
   lia
  have L8:(i + 1) * m=i * m + m:=Nat.succ_mul i m;have hz:0<=(ds.length - (i + 1)) * m:=Nat.zero_le _;cases rf:b.1 with
  | false=>rw[rf] at q;refine Gi ?_;refine⟨ds.length - (i + 1),by lia,rfl,cJ,b.2,lP,vz,⟨FD,Md,c2.er.back fx hn Ij Fx ⟨_,c2.at'⟩⟩,ym.trans Fx,by lia,?_⟩;simp only[Bool.false_eq_true,if_false] at q;have q:mR Φ.Ek ((aG (aJ tg (a8 F ts) fb ρ) (ds.drop (i + 1)) b.2).bind λq=>R.ok (([]:List Dt)++q.1,q.2)) _:=q;rw[aa] at q;exact ag q λr _ q=>q
  | true=>
   rw[rf] at q;refine Gj ?_;simp only[if_true] at q;refine hb ρ1 σ1 b.2 lP (es++vz) H4 _ OD hk ⟨FD,Md,Ij⟩ (ym.trans Fx) (by lia) (by lia) q _ λH5 r gr q c5 e5 l5=>?_
   rw[aa] at q;refine⟨ds.length - (i + 1),by lia,rfl,cJ,r.2,gr,vz++r.1,⟨c5.at',by rw[<-PV];exact c5.rv,c2.er.back fx hn c5.er (Fx.trans e5) ⟨_,c2.at'⟩⟩,(ym.trans Fx).trans e5,by lia,ag q λr' _ q=>?_⟩;have q:P (vz++(r.1++r'.1),r'.2):=q;rw[PV];exact q
 ·have e:i=ds.length:=by lia
  subst e;refine .inl ⟨wk.stop H2 ym,?_⟩;rw[List.drop_length] at q;have q:P (vz++[],S2):=q;rw[Qn] at q;exact fin H2 (vz,S2) lP q c2 ym d9
theorem vt {o:Ow} {D:Addr} {c:C} {ρ:ai} {σ:L2.St} {S:Sx} {acc:List V} {es:List Dt} {H:Hp} {P:List Dt×Sx->Prop} (fx:HS Φ o D) (hn:BD Γ ρ σ D) (cs:yE Φ Γ o D ρ σ S acc es H) (hl:acc.length < sizeLine)
  (q:mR Φ.Ek ((ev F c ρ S).bind λy=>ae (bu c y.1) (.ok ([y.1],y.2))) P) (Q:Hp->Prop) (fin:∀H5 r gr,P r->yE Φ Γ o D ρ σ r.2 gr (es++r.1) H5->aX (Yd o D) H H5->gr.length<=acc.length + 1->Q H5):sO D (bK Φ Γ F g.fr c) σ H Q:=by
 rw[aa] at q;refine⟨o,ρ,S,cs.er,ag q λy _ q v H5 eo5 er6=>?_⟩;obtain⟨gs,q⟩:=aE q;have e5:aX (Yd o D) H H5:=eo5.ext.mono λb z=> .inl z
 have JJ:H5 D=some (.lst acc):=eo5.ext.kp _ _ cs.at' fx.nd;have uA:∀b,Yd o D b->o.A b:=λb z=>z.elim (cs.er.da b) λq=>by rw[q];exact fx.oD
 have hv:RV Φ.K o.A H5 v y.1:=by
  unfold bu at gs;rw[Qo] at gs;rcases gs with gs | gs
  ·exact eo5.cY (Py gs)
  ·exact eo5.val.lz gs
 have up:aX (λb=>b=D) H5 (upd H5 D (.lst (acc++[v]))):=sS JJ;refine⟨acc,JJ,hl,fin _ ([y.1],y.2) (acc++[v]) q ⟨aM,?_,er6.emit JJ hn fx.oD fx.nd fx.h0⟩ (e5.trans (up.mono λb z=> .inr z)) (by simp)⟩;exact((cs.rv.mono e5 uA λ_ z=>z).append (ak.cons hv ak.nil)).mono up (λb z=>by rw[z];exact fx.oD) λ_ z=>z
theorem sQ:2 * lim < sizeLine:=by rw[sizeLine_eq];decide
theorem kR {sc:Scope} {o:Ow} {ρ:ai} {S:Sx} {σ:L2.St} {H:Hp} {D:Addr} (er:ER Φ Γ o ρ S σ H) (B:eB X sc (aY Γ sc).1.N (aY Γ sc).2) (iI:(Rx.aY Γ sc).1.N.Nodup) (hD:H D=none):
  HS Φ (o.plus D) D/\BD (aY Γ sc).1 (iQ (aY Γ sc).2 ρ) (cF (aY Γ sc).2 σ) D/\yE Φ (aY Γ sc).1 (o.plus D) D (iQ (aY Γ sc).2 ρ) (cF (aY Γ sc).2 σ) S [] [] (upd H D (.lst [])):=by
 refine⟨⟨.inr rfl,λz=>?_,λx hx=>?_⟩,λj d hm h1 h2=>?_,⟨aM,ak.nil,er.aY B iI hD⟩⟩
 ·obtain⟨y,hy⟩:=er.al D (er.da D z);rw[hD] at hy;cases hy
 ·by_cases hz:Φ.d0=some D
  ·exact hz
  ·have:=er.ent.kp D x hx hz;rw[hD] at this;cases this
 ·obtain⟨ii,hc,N8⟩:=eN h1;obtain⟨w',k1,k2⟩:=er.val ii _ N8;rw[<-i8 hc,if_pos hm] at k2;obtain⟨a',uu,Js,EA,_⟩:=k2;rw[dD hc k1] at h2;cases h2;cases Js;rw[hD] at EA;cases EA
theorem qK {sc:Scope} {o:Ow} {ρ:ai} {S S2:Sx} {σ:L2.St} {H H1 H2:Hp} {D:Addr} {acc:List V} {ds:List Dt} {c:C} (hc:lk c=0) (io:aX o.d H H1) (az:ER Φ Γ o ρ S σ H1) (hD:H1 D=none) {ρ2:ai} {σ2:L2.St} (cs:yE Φ (aY Γ sc).1 (o.plus D) D ρ2 σ2 S2 acc ds H2) (ex:aX (Yd (o.plus D) D) (upd H1 D (.lst [])) H2):
  EO Φ.K g.fr o c H (.lst ds) (.ref D) H2/\ER Φ Γ o ρ S2 σ H2:=by
 have ym:aX o.d H1 H2:=⟨λb x h n=>by
   have nb:b≠D:=λz=>by rw[z,hD] at h;cases h
   exact ex.kp b x (by rw[aF nb];exact h) λz=>z.elim n nb,λb xs h=>by
   have nb:b≠D:=λz=>by rw[z,hD] at h;cases h
   exact ex.tp b xs (by rw[aF nb];exact h)⟩
 have nA:¬o.A D:=λz=>by obtain⟨y,hy⟩:=az.al D z;rw[hD] at hy;cases hy
 have dn:H D=none:=az.dR io hD;have v0:RV Φ.K o.A H2 (.ref D) (.lst ds):=RV.c7 cs.at' nA (cs.rv.weak λb z=> .inl z);refine⟨⟨io.trans ym,v0.weak az.gf,λ_=>v0,λ_=>v0.one,λ_ tq ed=>?_⟩,az.step ym (λa ha=>cs.er.drw a ha) cs.er.drn⟩;cases ed;exact⟨D,acc,rfl,dn,cs.at',cs.rv.weak λb z=>z.elim (λz=> .inl (az.gf b z)) .inr,λ_=>cs.rv⟩
theorem xm {sc:Scope} {tg:Expr} {it:lK} {t:Tg} {ts:Cs} {c:C} (hK:Φ.K=X.K) (B:eB X sc (aY Γ sc).1.N (aY Γ sc).2) (iI:(aY Γ sc).1.N.Nodup) (Bc:nP (aY Γ sc).1 tg=some t) {σ:L2.St} {H:Hp} {Q:VK}
  (q:bK Φ Γ F g.fr (.comp (aY Γ sc).2 it t ts c) σ H Q):ni (aY Γ sc).2 (nk Φ Γ F it) (AD X.K t) (lF Φ (aY Γ sc).1 F ts) (λD=>sO D (bK Φ (aY Γ sc).1 F g.fr c)) σ H Q:=by
 obtain⟨o,ρ,S,er,q⟩:=q;unfold ev at q;rw[aa] at q;refine⟨o,ρ,S,er,ag q λp _ q J H1 io az D hD=>⟨jG (nq B Bc),?_⟩⟩;obtain⟨g1,q⟩:=aE q;rw[Pw] at g1;have cW:=Py g1.1;have wk:=(io.MF az g1.2).plus hD;rw[aa] at q;have fU:=sQ;obtain⟨fx,hn,cs⟩:=kR (X:=X) az B iI hD;rw[<-hK];refine qz (m:=1) (a0:=0) fx (λi hi=>(dX Bc i hi).1) wk hn (λρ1 σ1 S1 acc es H2 P n1 hk c1 e1 hl _ q Q fin=>vt fx n1 c1 (by lia) q Q fin) cs (Nat.zero_le _) q λH5 r gr q c5 e5 l5=>?_
 obtain⟨k1,k2⟩:=qK (g:=g) (c:= .comp (aY Γ sc).2 it t ts c) rfl io.ext az hD c5 e5;exact q _ _ k1 k2
theorem sI {sc:Scope} {tg iB:Expr} {it fL:lK} {t t2:Tg} {ts ES:Cs} {c:C} (hK:Φ.K=X.K) (B:eB X sc (aY Γ sc).1.N (aY Γ sc).2) (iI:(aY Γ sc).1.N.Nodup) (Bc:nP (aY Γ sc).1 tg=some t) (Ga:nP (aY Γ sc).1 iB=some t2) (FV:∀i∈aU t2,i∉aU t) {σ:L2.St} {H:Hp} {Q:VK}
  (q:bK Φ Γ F g.fr (.fH (aY Γ sc).2 it t ts fL t2 ES c) σ H Q):ni (aY Γ sc).2 (nk Φ Γ F it) (AD X.K t) (lF Φ (aY Γ sc).1 F ts) (λD=>Hx (nk Φ (aY Γ sc).1 F fL) (AD X.K t2) (lF Φ (aY Γ sc).1 F ES) (sO D (bK Φ (aY Γ sc).1 F g.fr c))) σ H Q:=by
 obtain⟨o,ρ,S,er,q⟩:=q;unfold ev at q;rw[aa] at q;refine⟨o,ρ,S,er,ag q λp _ q J H1 io az D hD=>⟨jG (nq B Bc),?_⟩⟩;obtain⟨g1,q⟩:=aE q;rw[Pw] at g1;have cW:=Py g1.1;have wk:=(io.MF az g1.2).plus hD;rw[aa] at q;have fU:=sQ;obtain⟨fx,hn,cs⟩:=kR (X:=X) az B iI hD;rw[<-hK];have hdiv:p.1.length * (lim / p.1.length)<=lim:=Nat.mul_div_le _ _;refine qz (m:=lim / p.1.length) (a0:=0) fx (λi hi=>(dX Bc i hi).1) wk hn (λρ1 σ1 S1 acc es H2 P n1 hk c1 e1 hl hp0 q Q fin=>?_) cs (Nat.zero_le _) q λH5 r gr q c5 e5 l5=>?_
 ·refine⟨jG λi hi=>?_,?_⟩
  ·rw[(hk i (FV i hi)).1];exact nq B Ga i hi
  ·rw[aa] at q;refine⟨o.plus D,ρ1,S1,c1.er,ag q λx2 _ q J2 H3 io2 Fw=>?_⟩;obtain⟨g2,q⟩:=aE q;rw[Pw] at g2;have d9:=Py g2.1;have uA:∀b,Yd (o.plus D) D b->(o.plus D).A b:=λb z=>z.elim (Fw.da b) λq=> .inr q
   have OU:=(io2.w0 (Py g2.2)).less uA;have e3:aX (Yd (o.plus D) D) H2 H3:=io2.ext.mono λb z=> .inl z
   have Pg:x2.1.length<=lim / p.1.length:=(Nat.le_div_iff_mul_le hp0).mpr (by rw[Nat.mul_comm];exact d9);refine qz (m:=1) (a0:=acc.length) fx (λi hi=>(dX Ga i hi).1) OU n1 (λρ2 σ2 S2 lP vz H4 P2 n2 hk2 c2 e2 hl _ q Q fin=>vt fx n2 c2 (by lia) q Q fin) ⟨io2.ext.kp _ _ c1.at' fx.nd,c1.rv.mono e3 uA λ_ z=>z,Fw⟩ (PF _) q λH5 r gr q c5 e5 l5=>?_
   exact fin H5 r gr q c5 (e3.trans e5) (by lia)
 ·obtain⟨k1,k2⟩:=qK (g:=g) (c:= .fH (aY Γ sc).2 it t ts fL t2 ES c) rfl io.ext az hD c5 e5;exact q _ _ k1 k2
end
noncomputable def rg:Expr->Bool
 | .Starred ..=>false
 | .Slice ..=>false
 | .Set ..=>false
 | .Call (.Name _ _) [] _ _=>false
 | _=>true
theorem cA {e:Expr} (h:rg e=true) (es:List Expr) (env:Env):starEach (e::es) env=(false,eval e env)::starEach es env:=by cases e <;> first | rfl | (simp[rg] at h)
theorem FS {e:Expr} (h:rg e=true):lM e:=by intro o i;cases e <;> first | rfl | (simp[rg] at h)
theorem zo {e:Expr} (h:rg e=true) (op:CmpOp):behindInMarks op e=false:=by cases e <;> first | rfl | (simp[rg] at h)
theorem fT {e:Expr} (h:rg e=true) (env:Env):∀x,foldedSetIterable e env x=pure x:=by intro x;cases e <;> first | rfl | (simp[rg] at h)
theorem cy {X:Cx} {Φ:Fm} {Γ:Gm} {F:FT} {e:Expr} {c:C} (h:∀ρ S,bV F c ρ S= .bad):PT X e (eG Φ Γ F c):=λpins s σ H Q I q=>by obtain⟨o,ρ,S,er,q⟩:=q;rw[h] at q;exact q.elim
section
variable {g:G} {xv:Nat->Value} {CX:iX} {k:Nat} {F:FT}
structure MS (g:G) (F:FT) (n:Nat) (Γ:Gm) (X:Cx) (Φ:Fm):Prop where
 e:∀e c,cE n g Γ e=some c->PE X e (bK Φ Γ F g.fr c)/\PT X e (eG Φ Γ F c)/\rg e=true
 es:∀es cs,u9 n g Γ es=some cs->PA X es (kJ Φ Γ F cs)/\cs.len=es.length/\∀e∈es,rg e=true
 ts:∀es cs,za n g Γ es=some cs->AN X es (lF Φ Γ F cs)
 b:∀o es c pos,cB n g Γ o es=some c->PE X (.BoolOp o es pos) (bK Φ Γ F g.fr c)/\PW X (.BoolOp o es pos) (eG Φ Γ F c)
 i:∀tg e it,cI n g Γ tg e=some it->PI X tg e (nk Φ Γ F it)/\rg e=true
 c:∀f a as c p pos,qM n g Γ f a as=some c->PE X (.Call (.Name f p) (a::as) [] pos) (bK Φ Γ F g.fr c)/\PT X (.Call (.Name f p) (a::as) [] pos) (eG Φ Γ F c)
theorem nI {es:List Expr} {env:Env} {pos:Pos} (h:∀e∈es,rg e=true):(backTo pos (starEach es env)).any (·.1)=false:=by
 induction es with
 | nil=>rfl
 | cons e es ih=>rw[cA (h e PH)];show (false||(backTo pos (starEach es env)).any (·.1))=false;rw[ih λe' z=>h e' (PC _ z)];rfl
theorem jU {x y:Str} (h:(x==y)=false):x≠y:=λe=>by subst e;rw[beq_self_eq_true] at h;cases h
theorem bx {x:Str} (h:cw x=true):(x==("__debug__":Str))=false/\(x==("__classdict__":Str))=false/\x≠"__name__":=by unfold cw at h;rw[Pw,Pw] at h;have h1:=h.1.1;have h2:=h.1.2;have h3:=h.2;rw[Bool.not_eq_true'] at h1 h2 h3;exact⟨h1,h2,jU h3⟩
noncomputable def Ls:C->Bool
 | .nt _ | .and .. | .or .. | .cmp .. | .ch .. | .var _ | .mvr _ | .call .. | .callD .. | .bi .. | .idx ..=>true
 | _=>false
theorem bD {F:FT} {c:C} {ρ:ai} {S:Sx} (h:Ls c=false):bV F c ρ S= .bad:=by cases c <;> first | rfl | cases h
theorem boot_divmod:bootBuiltins "divmod"=some (.builtin "divmod"):=by decide +kernel
theorem u4:∀t∈u3,DI t.2.2=true/\bootBuiltins t.1=some (Ez t.2.2):=by
 intro t ht;simp only[u3,PQ,PU,or_false] at ht;rcases ht with rfl | rfl | rfl | rfl | rfl | rfl | rfl | rfl | rfl | rfl | rfl | rfl
 ·exact⟨rfl,PySem.boot_len⟩
 ·exact⟨rfl,PyProof.Rows.boot_abs⟩
 ·exact⟨rfl,PyProof.Rows.boot_sum⟩
 ·exact⟨rfl,PyProof.Rows.boot_any⟩
 ·exact⟨rfl,PyProof.Rows.boot_all⟩
 ·exact⟨rfl,PyProof.Rows.boot_min⟩
 ·exact⟨rfl,PyProof.Rows.boot_max⟩
 ·exact⟨rfl,PyProof.Rows.boot_sorted⟩
 ·exact⟨rfl,PyProof.Rows.boot_tuple⟩
 ·exact⟨rfl,PyProof.Rows.boot_list⟩
 ·exact⟨rfl,PyProof.Rows.boot_int⟩
 ·exact⟨rfl,boot_divmod⟩
theorem yU {x:Str} {n:Nat} {b:BI} (h:pC x n=some b):DI b=true/\bootBuiltins x=some (Ez b):=by unfold pC at h;obtain⟨t,h1,rfl⟩:=PX.mp h;have hm:=List.mem_of_find?_eq_some h1;have hp:=List.find?_some h1;rw[Pw] at hp;rw[<-P6 hp.1];exact u4 t hm
theorem BS {b:BI} (h:DI b=true):(∃id,Ez b= .builtin id)\/∃T,Ez b= .type T:=by cases b <;> first | exact .inl ⟨_,rfl⟩ | exact .inr ⟨_,rfl⟩ | cases h
theorem gY {x:Str} (h:g.bls.contains x=true):x∈g.bls:=by simpa using h
theorem Lb {X:Cx} {Φ:Fm} {Γ:Gm} {x:Str} {n:Nat} {b:BI} {a:Expr} {as:List Expr} {cs:Cs} {p pos:Pos} (hK:Φ.K=X.K) (gx:GX g Γ X) (hG:Gl X x) (hm:X.mg x=none) (hx:cw x=true) (hb:pC x n=some b) (hs:starEach (a::as) X.env=(false,eval a X.env)::starEach as X.env) (k7:(backTo pos (starEach as X.env)).any (·.1)=false)
  (ha:PA X (a::as) (kJ Φ Γ F cs)):PE X (.Call (.Name x p) (a::as) [] pos) (bK Φ Γ F g.fr (.bi b cs)):=by
 obtain⟨h1,h2⟩:=yU hb;obtain⟨n1,n2,n3⟩:=bx hx;have hc:=yV (X:=X) b h1 gx.calm gx.un;rcases BS h1 with ⟨id,e⟩ | ⟨T,e⟩
 ·rw[e] at h2 hc;exact bp (jY hc hG hm h2 ha n3 n1 hs k7) λσ H Q q=>vD hK q
 ·rw[e] at h2 hc;exact bp (tY hc hG hm h2 ha n3 n1 hs k7) λσ H Q q=>vD hK q
theorem pT {X:Cx} {Φ:Fm} {sc:Scope} {N':List Str} {C:Addr} {s:Shared} {H:Hp} {fp:List Addr} (hX:HX g xv CX k F Φ X):HX g xv CX k F Φ (eJ X sc N' C s H fp (qC X sc N' (iD Φ xv) C s H fp)) where
 K:=hX.K
 P:=hX.P
 w:=hX.w
 fx:=hX.fx
 room:=hX.room
 cx:=hX.cx
 st:=ng hX.st
 xgx:=λe s' h=>xZ h
 xk:=hX.xk
theorem gS (n:Nat):∀(Γ:Gm) (X:Cx) (Φ:Fm),GX g Γ X->HX g xv CX k F Φ X->MS g F n Γ X Φ:=by
 induction n with
 | zero=>intro Γ X Φ gx hX;exact⟨λe c h=>by simp[cE] at h,λe c h=>by simp[u9] at h,λe c h=>by simp[za] at h,λo e c p h=>by simp[cB] at h,λo e c h=>by simp[cI] at h,λf a as c p q h=>by simp[qM] at h⟩
 | succ n ih=>
  intro Γ X Φ gx hX;have I:=ih Γ X Φ gx hX;have hK:=hX.K;have hu:=gx.un;refine⟨λe c h=>?_,λes cs h=>?_,λes cs h=>?_,λo es c pos h=>?_,λtg e it h=>?_,λf a as c p pos h=>?_⟩
  ·
   unfold cE at h;split at h
   ·split at h
    ·cases h;exact⟨oO rfl Dr,cy λρ S=>bD rfl,rfl⟩
    ·cases h;exact⟨oO rfl Du,cy λρ S=>bD rfl,rfl⟩
    ·cases h;exact⟨oO rfl Bj,cy λρ S=>bD rfl,rfl⟩
    ·cases h;exact⟨oO rfl Ds,cy λρ S=>bD rfl,rfl⟩
    ·cases h
   ·
    rename_i x p;split at h
    ·rename_i i hi;obtain⟨v1,v2,v3⟩:=jl hi;obtain⟨n1,n2,n3⟩:=bx v2;have hv:PE X (.Name x p) (iV i):=qi (by rw[gx.N];exact v3) (gx.vis x v1) n1 n2;split at h
     ·cases h
     rename_i hδκ;split at h
     ·rename_i hm;cases h;have:=G9 (Φ:=Φ) (F:=F) (fr:=g.fr) hv hm λz=>hδκ (by simp[z])
      exact⟨this,ji hK this (λ_=>rfl) (λρ S=>by rw[bV,ev];cases dN ρ i <;> rfl),rfl⟩
     ·rename_i hm;cases h;have:=Hf (Φ:=Φ) (F:=F) (fr:=g.fr) hv (by simpa using hm);exact⟨this,ji hK this (λ_=>rfl) (λρ S=>by rw[bV,ev];cases dN ρ i <;> rfl),rfl⟩
    ·split at h
     ·rename_i hg;rw[Pw] at hg;obtain⟨d,h1,rfl⟩:=PX.mp h;obtain⟨u,k1,k2,k3⟩:=gx.con x d h1;exact⟨oO k1 (sf (gx.gl x hg.1) k2 k3 (bx hg.2).1),cy λρ S=>bD rfl,rfl⟩
     ·cases h
   ·obtain⟨a',h1,h⟩:=Pt.mp h;obtain⟨b',h2,h⟩:=Pt.mp h;cases h;exact⟨G4 hK (I.e _ _ h1).1 (I.e _ _ h2).1,cy λρ S=>bD rfl,rfl⟩
   ·obtain⟨a',h1,h9⟩:=Pt.mp h;clear h;split at h9
    ·cases h9;exact⟨Ha (I.e _ _ h1).1,cy λρ S=>bD rfl,rfl⟩
    ·cases h9;exact⟨Lc (I.e _ _ h1).1,Hc (I.e _ _ h1).2.1,rfl⟩
    ·cases h9
   ·obtain⟨k1,k2⟩:=I.b _ _ _ _ h;exact⟨k1,k2.pt,rfl⟩
   ·split at h
    ·obtain⟨a',h1,h⟩:=Pt.mp h;obtain⟨b',h2,h⟩:=Pt.mp h;cases h;have hm:=zo (I.e _ _ h2).2.2;exact⟨G5 hK hu (hm _) (I.e _ _ h1).1 (I.e _ _ h2).1,DP hK hu (hm _) (I.e _ _ h1).1 (I.e _ _ h2).1,rfl⟩
    ·cases h
   ·split at h
    ·obtain⟨a',h1,h⟩:=Pt.mp h;obtain⟨b',h2,h⟩:=Pt.mp h;cases h;exact⟨DT hK (I.e _ _ h1).1 (I.e _ _ h2).1,cy λρ S=>bD rfl,rfl⟩
    ·obtain⟨a',h1,h⟩:=Pt.mp h;obtain⟨b',h2,h⟩:=Pt.mp h;cases h;exact⟨DS hK (I.e _ _ h1).1 (I.e _ _ h2).1,cy λρ S=>bD rfl,rfl⟩
    ·obtain⟨a',h1,h⟩:=Pt.mp h;obtain⟨b',h2,h⟩:=Pt.mp h;cases h;have k1:=λpos=>G6 (pos:=pos) hK (FS (I.e _ _ h2).2.2) (I.e _ _ h1).1 (I.e _ _ h2).1
     refine⟨k1 _,ji hK (k1 _) (λ_=>rfl) (λρ S=>?_),rfl⟩;rw[bV,ev];cases ev F a' ρ S with
     | ok x=>
      simp only[R.ah];cases ev F b' ρ x.2 with
      | ok y=>simp only[R.ah];cases dg x.1 y.1 <;> rfl
      | ex k=>rfl
      | bad=>rfl
     | ex k=>rfl
     | bad=>rfl
   ·obtain⟨fJ,h1,h⟩:=Pt.mp h;cases h;exact⟨He (I.es _ _ h1).1,cy λρ S=>bD rfl,rfl⟩
   ·obtain⟨fJ,h1,h⟩:=Pt.mp h;cases h;exact⟨G8 (I.es _ _ h1).1,cy λρ S=>bD rfl,rfl⟩
   ·split at h
    ·obtain⟨k1,k2⟩:=I.c _ _ _ _ _ _ h;exact⟨k1,k2,rfl⟩
    ·cases h
   ·
    rename_i elt gens sc pos;split at h
    ·rename_i hk;split at h
     ·rename_i tg it ifs;obtain⟨i9,h1,h⟩:=Pt.mp h;obtain⟨kf,h2,h⟩:=Pt.mp h;obtain⟨nr,h3,h⟩:=Pt.mp h;obtain⟨e',h4,h⟩:=Pt.mp h;split at h
      ·rename_i hb;cases h;rw[Pw] at hb;have zt:sc.kind= .function:=P6 hk;have B:=pF gx zt hb.1;have iI:(aY Γ sc).1.N.Nodup:=Py hb.2;have J:=λC s H fp=>ih (aY Γ sc).1 (eJ X sc (aY Γ sc).1.N C s H fp (qC X sc (aY Γ sc).1.N (iD Φ xv) C s H fp)) Φ (d8 gx B iI) (pT hX)
       refine⟨bp (oF (xb:=qC X sc (aY Γ sc).1.N (iD Φ xv)) (body:=λacc env=>fQ elt acc env) gx.calm B (jo hX.st hX.xgx) (I.i _ _ _ h1).1 (λnB acc env=>oY ..) (λC s H fp=>oP (d8 gx B iI) h2) (λC s H fp=>(J C s H fp).ts _ _ h3) (λC s H fp D=>jg ((J C s H fp).e _ _ h4).1) (fT (I.i _ _ _ h1).2 _)) λσ H Q q=>xm hK B iI h2 q,cy λρ S=>bD rfl,rfl⟩
      ·cases h
     ·rename_i tg it ifs iB fL bX;obtain⟨i9,h1,h⟩:=Pt.mp h;obtain⟨kf,h2,h⟩:=Pt.mp h;obtain⟨nr,h3,h⟩:=Pt.mp h;obtain⟨oj,h5,h⟩:=Pt.mp h;obtain⟨kg,h6,h⟩:=Pt.mp h;obtain⟨oX,h7,h⟩:=Pt.mp h;obtain⟨e',h4,h⟩:=Pt.mp h;split at h
      ·rename_i hb;cases h;rw[Pw,Pw] at hb;have zt:sc.kind= .function:=P6 hk;have B:=pF gx zt hb.1.1;have iI:(aY Γ sc).1.N.Nodup:=Py hb.1.2;have FV:∀i∈aU kg,i∉aU kf:=λi hi z=>by have:=Qj.mp hb.2 i hi;simp[z] at this
       have J:=λC s H fp=>ih (aY Γ sc).1 (eJ X sc (aY Γ sc).1.N C s H fp (qC X sc (aY Γ sc).1.N (iD Φ xv) C s H fp)) Φ (d8 gx B iI) (pT hX)
       refine⟨bp (oF (xb:=qC X sc (aY Γ sc).1.N (iD Φ xv)) (body:=λacc env=>nextOf (.ListComp elt [⟨tg,it,ifs,0⟩,⟨iB,fL,bX,0⟩] sc pos) 1 fL acc env) gx.calm B (jo hX.st hX.xgx) (I.i _ _ _ h1).1 (λnB acc env=>oZ ..) (λC s H fp=>oP (d8 gx B iI) h2) (λC s H fp=>(J C s H fp).ts _ _ h3)
        (λC s H fp D=>r4 gx.calm (rZ hX.st) ((J C s H fp).i _ _ _ h5).1 (oP (d8 gx B iI) h6) ((J C s H fp).ts _ _ h7) (jg ((J C s H fp).e _ _ h4).1) (fT ((J C s H fp).i _ _ _ h5).2 _)) (fT (I.i _ _ _ h1).2 _)) λσ H Q q=>sI hK B iI h2 h6 FV q,cy λρ S=>bD rfl,rfl⟩
      ·cases h
     ·cases h
    ·cases h
   ·cases h
  ·
   unfold u9 at h;split at h
   ·cases h;exact⟨Hb,rfl,λe z=>by cases z⟩
   ·obtain⟨e',h1,h⟩:=Pt.mp h;obtain⟨fJ,h2,h⟩:=Pt.mp h;cases h;obtain⟨k1,k2,k3⟩:=I.es _ _ h2;refine⟨DQ (cA (I.e _ _ h1).2.2 _ _) (I.e _ _ h1).1 k1,by simp[Cs.len,k2],λe z=>?_⟩;rcases PQ.mp z with rfl | z
    ·exact(I.e _ _ h1).2.2
    ·exact k3 e z
  ·
   unfold za at h;split at h
   ·cases h;exact λpins s σ H Q I q=>Ap pins s σ H Q I (by obtain⟨o,ρ,S,er,q⟩:=q;rw[a8] at q;exact q _ aX.refl er)
   ·obtain⟨e',h1,h⟩:=Pt.mp h;cases h;refine λpins s σ H Q I' q=>Aq (I.e _ _ h1).2.1 pins s σ H Q I' ?_
    obtain⟨o,ρ,S,er,q⟩:=q;rw[a8] at q;exact⟨o,ρ,S,er,q⟩
   ·cases h
  ·
   unfold cB at h;split at h
   ·rename_i e;have k1:=(I.e _ _ h).1;have k2:=(I.e _ _ h).2.1;refine⟨wU k1,?_⟩;cases o with
    | And=>exact Ar k2
    | Or=>exact DF k2
   ·rename_i e es gg;obtain⟨e',h1,h⟩:=Pt.mp h;obtain⟨fJ,h2,h⟩:=Pt.mp h;cases h;cases es with
    | nil=>exact(gg rfl).elim
    | cons b rest=>
     obtain⟨k1,k2⟩:=I.b o _ _ pos h2;cases o with
     | And=>exact⟨G3 (I.e _ _ h1).1 k1,DO (I.e _ _ h1).2.1 k2⟩
     | Or=>exact⟨Ld (I.e _ _ h1).1 k1,Hd (I.e _ _ h1).2.1 k2⟩
   ·cases h
  ·
   unfold cI at h;split at h
   ·rename_i f p a q;split at h
    ·rename_i hf;have ef:=P6 hf;subst ef;split at h
     ·rename_i hg;rw[Pw] at hg;obtain⟨a',h1,h⟩:=Pt.mp h;cases h;exact⟨DR (gx.gl _ hg.1) (gx.bl _ (gY hg.2)) (cA (I.e _ _ h1).2.2 [] _) (I.e _ _ h1).1,rfl⟩
     ·cases h
    ·obtain⟨c,h1,h⟩:=Pt.mp h;cases h;exact⟨xo hK (I.e _ _ h1).1,rfl⟩
   ·rename_i f p a b q;split at h
    ·rename_i hf;have ef:=P6 hf;subst ef;split at h
     ·cases h
     ·cases h
    split at h
    ·rename_i hf;have ef:=P6 hf;subst ef;split at h
     ·split at h
      ·rename_i hg;rw[Pw] at hg;obtain⟨a',h1,h⟩:=Pt.mp h;obtain⟨b',h2,h⟩:=Pt.mp h;cases h;have e2:=cA (I.e _ _ h2).2.2 [] X.env;exact⟨Hg hK (gx.gl _ hg.1) (gx.bl _ (gY hg.2)) (by rw[cA (I.e _ _ h1).2.2,e2];rfl) e2 (I.e _ _ h1).1 (I.e _ _ h2).1,rfl⟩
      ·cases h
     ·cases h
    ·obtain⟨c,h1,h⟩:=Pt.mp h;cases h;exact⟨xo hK (I.e _ _ h1).1,rfl⟩
   ·obtain⟨c,h1,h⟩:=Pt.mp h;cases h;exact⟨xo hK (I.e _ _ h1).1,(I.e _ _ h1).2.2⟩
  ·
   have tr:∀{c:C},(∀ρ S,bV F c ρ S=(ev F c ρ S).bind λx=>(dh x.1).bind λb=> .ok (b,x.2))->PE X (.Call (.Name f p) (a::as) [] pos) (bK Φ Γ F g.fr c)->PE X (.Call (.Name f p) (a::as) [] pos) (bK Φ Γ F g.fr c)/\PT X (.Call (.Name f p) (a::as) [] pos) (eG Φ Γ F c):=λhe h=>⟨h,ji hK h (λ_=>rfl) he⟩
   have LG:∀(b:BI) (cs:Cs) ρ S,bV F (.bi b cs) ρ S=(ev F (.bi b cs) ρ S).bind λx=>(dh x.1).bind λb=> .ok (b,x.2):=λb cs ρ S=>by
    rw[bV,ev];cases fR F cs ρ S with
    | ok x=>simp only[R.ah];cases cL b x.1 <;> rfl
    | ex k=>rfl
    | bad=>rfl
   have M4:∀(f:Nat) (cs:Cs) (ds:List Dt) ρ S,bV F (.call f cs ds) ρ S=(ev F (.call f cs ds) ρ S).bind λx=>(dh x.1).bind λb=> .ok (b,x.2):=λf cs ds ρ S=>by
    rw[bV,ev];cases fR F cs ρ S with
    | ok x=>simp only[R.ah];cases F f (x.1++ds) none <;> rfl
    | ex k=>rfl
    | bad=>rfl
   have O3:∀(f:Nat) (cs:Cs) ρ S,bV F (.callD f cs) ρ S=(ev F (.callD f cs) ρ S).bind λx=>(dh x.1).bind λb=> .ok (b,x.2):=λf cs ρ S=>by
    rw[bV,ev];cases S.isSome with
    | false=>rfl
    | true=>
     simp only[guard_true];cases fR F cs ρ S with
     | ok x=>
      simp only[R.ah];cases x.2 with
      | none=>rfl
      | some s=>rfl
     | ex k=>rfl
     | bad=>rfl
   unfold qM at h;split at h
   ·rename_i hg;rw[Pw] at hg;have JL:=gx.gl f hg.1;obtain⟨n1,n2,n3⟩:=bx hg.2;split at h
    ·rename_i kk np eQ bf vX;split at h
     ·
      rename_i hdp;have:bf=true:=hdp;subst this;split at h
      ·rename_i y yp;split at h
       ·rename_i i hi;split at h
        ·cases h
        ·cases h
       ·cases h
      ·cases h
     ·rename_i hdp;have:bf=false:=by simpa using hdp
      subst this;split at h
      ·rename_i hn;rw[Pw] at hn;have a1:=Py hn.1;have a2:=Py hn.2;obtain⟨es,h1,h⟩:=Pt.mp h;cases h;obtain⟨k1,k2,k3⟩:=I.es _ _ h1;refine tr (M4 _ _ _) (s_call hX JL n1 vX (Nat.sub_le _ _) ?_ (cA (k3 a PH) _ _) (nI λe z=>k3 e (PC _ z)) k1);rw[k2,List.length_drop,P0]
       lia
      ·cases h
    ·split at h
     ·rename_i hbl;have hm:=gx.bl f (gY hbl);split at h
      ·cases h
      split at h
      ·rename_i hisi;have ef:=P6 hisi;subst ef;split at h
       ·rename_i t tp hnl;split at h
        ·rename_i hg2;rw[Pw] at hg2;obtain⟨T,h1,h⟩:=Pt.mp h;obtain⟨a',h2,h⟩:=Pt.mp h;cases h;have tn:t≠"__name__"/\(t==("__debug__":Str))=false:=by
          unfold qy at h1;split at h1
          ·rename_i e;rw[P6 e];exact⟨by decide,by decide⟩
          split at h1
          ·rename_i e;rw[P6 e];exact⟨by decide,by decide⟩
          split at h1
          ·rename_i e;rw[P6 e];exact⟨by decide,by decide⟩
          split at h1
          ·rename_i e;rw[P6 e];exact⟨by decide,by decide⟩
          split at h1
          ·rename_i e;rw[P6 e];exact⟨by decide,by decide⟩
          ·cases h1
         exact tr (LG _ _) (G7 hK JL hm (gx.gl t hg2.1) (gx.bl t (gY hg2.2)) h1 tn.1 tn.2 (cA (I.e _ _ h2).2.2 _ _) (I.e _ _ h2).1)
        ·cases h
       ·cases h
      ·have regular:∀{c:C},((pC f (as.length + 1)).bind λi=>(u9 n g Γ (a::as)).bind λes=>some (C.bi i es))=some c->PE X (.Call (.Name f p) (a::as) [] pos) (bK Φ Γ F g.fr c)/\PT X (.Call (.Name f p) (a::as) [] pos) (eG Φ Γ F c):=λ {c} h=>by obtain⟨b,h1,h⟩:=Pt.mp h;obtain⟨es,h2,h⟩:=Pt.mp h;cases h;obtain⟨k1,k2,k3⟩:=I.es _ _ h2;exact tr (LG _ _) (Lb hK gx JL hm hg.2 h1 (cA (k3 a PH) _ _) (nI λe z=>k3 e (PC _ z)) k1)
       split at h
       ·rename_i r rp b rq;split at h
        ·cases h
        split at h
        ·cases h
        ·exact regular h
       ·rename_i r rp b c rq zz;split at h
        ·cases h
        ·exact regular h
       ·exact regular h
     ·cases h
   ·cases h
end
structure OI (Φ:Fm) (W:Addr->Prop) (o:Ow):Prop where
 w:o.W=W
 d:∀a,Φ.d0=some a->o.dr=some a
structure SO (Φ:Fm) (Γ:Gm) (W:Addr->Prop) (o:Ow) (H:Hp) (ρ':ai) (S':Sx) (σ':L2.St) (H':Hp):Prop where
 ex:∃o',OI Φ W o'/\ER Φ Γ o' ρ' S' σ' H'/\∀b,o'.A b->o.A b\/H b=none
 ext:aX o.A H H'
 al:∀b x,H b=some x->∃y,H' b=some y
structure RO (Φ:Fm) (W:Addr->Prop) (fF:Bool) (d:Dt) (S':Sx) (v:V) (H':Hp):Prop where
 val:RV Φ.K W H' v d
 ent:aX (λb=>Φ.d0=some b) Φ.H0 H'
 drw:∀a,Φ.d0=some a->∃ns:List Int,S'=some ns/\H' a=some (.lst (ns.map V.int))
 dY:fF=true->∀ds,d= .lst ds->∃a xs,v= .ref a/\Φ.H0 a=none/\H' a=some (.lst xs)/\ak Φ.K (λb=>W b\/b=a) H' xs ds
noncomputable def bT (Φ:Fm) (Γ:Gm) (W:Addr->Prop) (fF:Bool) (o:Ow) (H:Hp) (D:Ends) (p:Fl×ai×Sx):Prop:=match p.1 with
 | .next=>∀σ' H',SO Φ Γ W o H p.2.1 p.2.2 σ' H'->D.nx σ' H'
 | .brk=>∀σ' H',SO Φ Γ W o H p.2.1 p.2.2 σ' H'->D.bk σ' H'
 | .cnt=>∀σ' H',SO Φ Γ W o H p.2.1 p.2.2 σ' H'->D.ct σ' H'
 | .ret d=>∀v H',RO Φ W fF d p.2.2 v H'->D.rt v H'
inductive iA (Φ:Fm) (Γ:Gm) (F:FT) (W:Addr->Prop) (fF:Bool) (t:T) (D:Ends) (σ:L2.St) (H:Hp):Prop
 | mk (o:Ow) (ρ:ai) (S:Sx) (i:OI Φ W o) (e:ER Φ Γ o ρ S σ H) (m:mR Φ.Ek (ex F t ρ S) (bT Φ Γ W fF o H D)):iA Φ Γ F W fF t D σ H
inductive iW (Φ:Fm) (Γ:Gm) (F:FT) (W:Addr->Prop) (fF:Bool) (t:Ts) (D:Ends) (σ:L2.St) (H:Hp):Prop
 | mk (o:Ow) (ρ:ai) (S:Sx) (i:OI Φ W o) (e:ER Φ Γ o ρ S σ H) (m:mR Φ.Ek (aT F t ρ S) (bT Φ Γ W fF o H D)):iW Φ Γ F W fF t D σ H
theorem bq {X:Cx} {e:Stmt} {t t':TS} (h:PS X e t) (hi:∀D σ H,t' D σ H->t D σ H):PS X e t':=λpins s σ H D I q=>h pins s σ H D I (hi D σ H q)
theorem sC {X:Cx} {e:List Stmt} {t t':TS} (h:nF X e t) (hi:∀D σ H,t' D σ H->t D σ H):nF X e t':=λpins s σ H D I q=>h pins s σ H D I (hi D σ H q)
section
variable {X:Cx} {Φ:Fm} {Γ:Gm} {F:FT} {g:G} {W:Addr->Prop} {fF:Bool} {o:Ow} {ρ:ai} {S:Sx} {σ:L2.St} {H H':Hp}
theorem ER.dA (er:ER Φ Γ o ρ S σ H) {H1:Hp} (e:aX o.d H H1):aX o.A H H1:=e.mono er.da
theorem ER.ze {S1:Sx} {ρ1:ai} {σ1:L2.St} {H1:Hp} (az:ER Φ Γ o ρ1 S1 σ1 H1) (e:aX o.d H H1):∀b x,H b=some x->∃y,H1 b=some y:=λb x h=>e.al h λz=>az.al b (az.da b z)
theorem SO.eY {S':Sx} {ρ':ai} {σ':L2.St} (oi:OI Φ W o) (er:ER Φ Γ o ρ' S' σ' H') (e:aX o.d H H'):SO Φ Γ W o H ρ' S' σ' H':=⟨⟨o,oi,er,λb z=> .inl z⟩,e.mono er.da,er.ze e⟩
theorem SO.go {o':Ow} {H1 H2:Hp} {ρ2:ai} {S2:Sx} {σ2:L2.St} (e:aX o.A H H1) (hA:∀b,o'.A b->o.A b\/H b=none) (uw:∀b x,H b=some x->∃y,H1 b=some y) (h:SO Φ Γ W o' H1 ρ2 S2 σ2 H2):SO Φ Γ W o H ρ2 S2 σ2 H2:=by
 obtain⟨⟨o2,IF,eS,FC⟩,e2,a2⟩:=h;refine⟨⟨o2,IF,eS,λb z=>?_⟩,⟨λb x h n=>?_,λb xs h=>e2.tp _ _ (e.tp _ _ h)⟩,λb x h=>?_⟩
 ·rcases FC b z with q | q
  ·exact hA b q
  ·refine .inr ?_;cases hb:H b with
   | none=>rfl
   | some x=>obtain⟨y,hy⟩:=uw b x hb;rw[q] at hy;cases hy
 ·refine e2.kp _ _ (e.kp _ _ h n) λz=>?_
  rcases hA b z with q | q
  ·exact n q
  ·rw[h] at q;cases q
 ·obtain⟨y,hy⟩:=uw b x h;exact a2 b y hy
theorem jm {fr:Nat->Bool} {c:C} {d:Dt} {v:V} {H1:Hp} (h:bu c d=true) (eo:EO Φ.K fr o c H d v H1):RV Φ.K o.A H1 v d:=by
 unfold bu at h;rw[Qo] at h;rcases h with h | h
 ·exact eo.cY (Py h)
 ·exact eo.val.lz h
theorem By {i:Nat} {c:C} {st:Stmt} (hp:plainS Γ i=true) (h:PS X st (nh (bK Φ Γ F g.fr c) (dM i))):PS X st (iA Φ Γ F W fF (.asg i c)):=bq h λD σ H q=>by obtain⟨o,ρ,S,oi,er,q⟩:=q;unfold ex at q;rw[aa] at q;refine⟨o,ρ,S,er,ag q λp _ q v H1 eo az=>?_⟩;obtain⟨gs,q⟩:=aE q;exact q _ _ (SO.eY oi (az.set hp (jm gs eo)) eo.ext)
theorem Ei {i:Nat} {c:C} {st:Stmt} (hp:plainS Γ i=true) (hf:fresh g.fr c=true) (h:PS X st (nh (bK Φ Γ F g.fr c) (dM i))):PS X st (iA Φ Γ F W fF (.asgM i c)):=bq h λD σ H q=>by
 obtain⟨o,ρ,S,oi,er,q⟩:=q;unfold ex at q;rw[aa] at q;refine⟨o,ρ,S,er,ag q λp _ q v H1 eo az=>?_⟩;obtain⟨gs,q⟩:=aE q;have hv:RV Φ.K o.A H1 v p.1:=by
  by_cases hd:∃ds,p.1= .lst ds
  ·obtain⟨ds,hd⟩:=hd;obtain⟨a,xs,rfl,h1,h2,h3,h4⟩:=eo.dY hf ds hd;have na:¬o.A a:=λz=>by obtain⟨x,hx⟩:=er.al a z;rw[h1] at hx;cases hx
   rw[hd] at gs ⊢;refine RV.c7 h2 na ?_;unfold iN at gs;rcases Bool.or_eq_true_iff.mp gs with z | z
   ·exact(h4 (Py z)).weak λb w=> .inl w
   ·exact h3.ij z
  ·refine jm ?_ eo;unfold iN at gs;unfold bu;cases hq:p.1 with
   | lst ds=>exact absurd ⟨ds,hq⟩ hd
   | _=>rw[hq] at gs;exact gs
 exact q _ _ (SO.eY oi (az.set hp hv) eo.ext)
theorem ER.own {S1:Sx} {H1:Hp} {fr:Nat->Bool} {c:C} {d:Dt} {v:V} {i:Nat} (oi:OI Φ W o) (er:ER Φ Γ o ρ S σ H) (az:ER Φ Γ o ρ S1 σ H1) (hm:et Γ i=true) (hδ:Γ.δ≠some i) (hf:fresh fr c=true) (hl:iN c d=true) (eo:EO Φ.K fr o c H d v H1):
  ∃o',OI Φ W o'/\ER Φ Γ o' (ρ.set i (some d)) S1 (σ.set i (some v)) H1/\∀b,o'.A b->o.A b\/H b=none:=by
 by_cases hd:∃ds,d= .lst ds
 ·obtain⟨ds,rfl⟩:=hd;obtain⟨a,xs,rfl,h1,h2,h3,h4⟩:=eo.dY hf ds rfl;have h4:ak Φ.K (λb=>o.A b\/b=a) H1 xs ds:=by
   unfold iN at hl;rcases Bool.or_eq_true_iff.mp hl with l | l
   ·exact h4 (Py l)
   ·exact h3.ij l
  have nA:¬o.A a:=λz=>by obtain⟨y,hy⟩:=er.al a z;rw[h1] at hy;cases hy
  have h0:Φ.H0 a=none:=by
   cases q:Φ.H0 a with
   | none=>rfl
   | some x=>
    by_cases uz:Φ.d0=some a
    ·exact absurd (er.da a (oi.d a uz)) nA
    ·rw[er.ent.kp a x q uz] at h1;cases h1
  have av:∀b,(o.A b\/b=a)->o.A b\/H b=none:=λb z=>z.elim .inl λe=> .inr (by rw[e];exact h1)
  have dA:∀b,o.d b->(o.A b\/b=a):=λb z=> .inl (er.da b z)
  refine⟨⟨o.W,λb=>o.A b\/b=a,o.dr⟩,⟨oi.w,oi.d⟩,⟨?_,λb z=> .inl (er.wa b z),λb z=> .inl (er.da b z),λb z=>?_,λj e he=>?_,Dk.set er.dk rfl,λj j' b e e' m m' k1 k2 k3 k4=>?_,az.drw,az.drn,λj b hj hb=>?_,az.dr0,az.ent⟩,av⟩
  ·rw[List.length_set,List.length_set];exact er.len
  ·rcases z with z | z
   ·exact az.al b z
   ·rw[z];exact⟨_,h2⟩
  ·by_cases hj:j=i
   ·subst hj;rw[List.getElem?_set] at he;simp only[if_true] at he;split at he
    ·rename_i cJ;cases he;refine⟨.ref a,by rw[Qt (by rw[er.len];exact cJ)],?_⟩;rw[if_pos hm];exact⟨a,xs,rfl,h2,.inr rfl,λz=>nA (er.wa a z),λz=>nA (er.da a z),h0,h4⟩
    ·cases he
   ·rw[PZ (Ne.symm hj)] at he;obtain⟨w,k1,k2⟩:=er.val j e he;refine⟨w,by rw[PZ (Ne.symm hj)];exact k1,?_⟩;by_cases hmj:et Γ j=true
    ·rw[if_pos hmj] at k2 ⊢;cases e with
     | lst es=>obtain⟨b,ys,e1,e2,e3,e4,e5,e6,e7⟩:=k2;exact⟨b,ys,e1,eo.ext.kp _ _ e2 e5,.inl e3,e4,e5,e6,(e7.bQ av).mono eo.ext dA λ_ z=>z⟩
     | fg=>exact k2.elim
     | _=>exact(RV.bQ av k2).mono eo.ext dA λ_ z=>z
    ·rw[if_neg hmj] at k2 ⊢;exact(k2.bQ av).mono eo.ext dA λ_ z=>z
  ·
   have other:∀{j:Nat} {e:List Dt} {b:Addr},j≠i->et Γ j=true->(ρ.set i (some (.lst ds)))[j]?=some (some (.lst e))->(σ.set i (some (.ref a)))[j]?=some (some (.ref b))->b≠a/\ρ[j]?=some (some (.lst e))/\σ[j]?=some (some (.ref b)):=λ {j e b} hj m k1 k3=>by rw[PZ (Ne.symm hj)] at k1 k3;obtain⟨w,n1,n2⟩:=er.val j _ k1;rw[if_pos m] at n2;obtain⟨b',ys,e1,e2,_⟩:=n2;rw[k3] at n1;cases n1;cases e1;refine⟨λz=>?_,k1,k3⟩;rw[z,h1] at e2;cases e2
   by_cases hj:j=i
   ·by_cases tO:j'=i
    ·rw[hj,tO]
    ·obtain⟨n,_,_⟩:=other tO m' k2 k4;subst hj;have cJ:j < σ.length:=by have:=(Pz.mp k3).1;rw[List.length_set] at this;exact this
     rw[Qt cJ] at k3;cases k3;exact absurd rfl n
   ·obtain⟨n,p1,p2⟩:=other hj m k1 k3;by_cases tO:j'=i
    ·subst tO;have cJ:j' < σ.length:=by have:=(Pz.mp k4).1;rw[List.length_set] at this;exact this
     rw[Qt cJ] at k4;cases k4;exact absurd rfl n
    ·obtain⟨_,p3,p4⟩:=other tO m' k2 k4;exact er.inj j j' b e e' m m' p1 p3 p2 p4
  ·rw[PZ (λz=>hδ (by rw[z];exact hj))];exact az.drs j b hj hb
 ·
  have nl:∀e,d≠ .lst e:=λe z=>hd ⟨e,z⟩
  have hv:RV Φ.K o.A H1 v d:=by
   unfold iN at hl;rcases Bool.or_eq_true_iff.mp hl with l | l
   ·exact eo.cY (Py l)
   ·cases d with
    | lst ds=>exact absurd rfl (nl ds)
    | _=>exact eo.val.lz l
  refine⟨o,oi,⟨?_,az.wa,az.da,az.al,λj e he=>?_,Dk.set az.dk hv.nd,λj j' b e e' m m' k1 k2 k3 k4=>?_,az.drw,az.drn,λj b hj hb=>?_,az.dr0,az.ent⟩,λb z=> .inl z⟩
  ·rw[List.length_set,List.length_set];exact er.len
  ·by_cases hj:j=i
   ·subst hj;rw[List.getElem?_set] at he;simp only[if_true] at he;split at he
    ·rename_i cJ;cases he;refine⟨v,by rw[Qt (by rw[er.len];exact cJ)],?_⟩;rw[if_pos hm];cases d with
     | lst ds=>exact absurd rfl (nl ds)
     | fg=>cases hv.nd
     | _=>exact hv
    ·cases he
   ·rw[PZ (Ne.symm hj)] at he;obtain⟨w,k1,k2⟩:=az.val j e he;exact⟨w,by rw[PZ (Ne.symm hj)];exact k1,k2⟩
  ·have other:∀{j:Nat} {e:List Dt},(ρ.set i (some d))[j]?=some (some (.lst e))->j≠i:=λ {j e} k1 z=>by
    subst z;rw[List.getElem?_set] at k1;simp only[if_true] at k1;split at k1
    ·cases k1;exact nl e rfl
    ·cases k1
   have n1:=other k1;have n2:=other k2;rw[PZ (Ne.symm n1)] at k1 k3;rw[PZ (Ne.symm n2)] at k2 k4;exact az.inj j j' b e e' m m' k1 k2 k3 k4
  ·rw[PZ (λz=>hδ (by rw[z];exact hj))];exact az.drs j b hj hb
theorem Eh {i:Nat} {c:C} {st:Stmt} (hm:et Γ i=true) (hδ:Γ.δ≠some i) (hf:fresh g.fr c=true) (h:PS X st (nh (bK Φ Γ F g.fr c) (dM i))):PS X st (iA Φ Γ F W fF (.asgM i c)):=bq h λD σ H q=>by obtain⟨o,ρ,S,oi,er,q⟩:=q;unfold ex at q;rw[aa] at q;refine⟨o,ρ,S,er,ag q λp _ q v H1 eo az=>?_⟩;obtain⟨gs,q⟩:=aE q;exact q _ _ ⟨ER.own oi er az hm hδ hf gs eo,er.dA eo.ext,az.ze eo.ext⟩
end
section
variable {X:Cx} {Φ:Fm} {Γ:Gm} {F:FT} {g:G} {W:Addr->Prop} {fF:Bool} {o:Ow} {ρ:ai} {S:Sx} {σ:L2.St} {H H':Hp}
theorem jd {Ek:Nat->Prop} {ρ:ai} {i:Nat} {P:List Dt->Prop} (h:mR Ek (oy ρ i) P):∃ds,ρ[i]?=some (some (.lst ds))/\P ds:=by
 unfold oy at h;split at h
 ·exact⟨_,by assumption,h⟩
 ·exact h.elim
theorem xU {a:Addr} {u:HO}:∀b x,H b=some x->∃y,upd H a u b=some y:=λb x h=>by
 by_cases z:b=a
 ·subst z;exact⟨_,aM⟩
 ·exact⟨x,by rw[aF z];exact h⟩
theorem mE {ρ:ai} {i:Nat} (h:isLE ρ i=true):∃ds,ρ[i]?=some (some (.lst ds)):=by
 unfold isLE at h;split at h
 ·exact⟨_,by assumption⟩
 ·cases h
theorem ER.chg {i:Nat} {a:Addr} {ds es:List Dt} {xs ys:List V} (er:ER Φ Γ o ρ S σ H) (hm:et Γ i=true) (hr:ρ[i]?=some (some (.lst ds))) (hs:σ[i]?=some (some (.ref a))) (hx:H a=some (.lst xs)) (hy:ak Φ.K o.A H ys es):
  ER Φ Γ o (ρ.set i (some (.lst es))) S σ (upd H a (.lst ys))/\aX o.A H (upd H a (.lst ys))/\∀b x,H b=some x->∃y,upd H a (.lst ys) b=some y:=by
 obtain⟨v,h1,h2⟩:=er.val i _ hr;rw[if_pos hm] at h2;rw[hs] at h1;cases h1;obtain⟨b,zs,e1,e2,e3,e4,e5,e6,e7⟩:=h2;cases e1;have up:aX (λb=>b=a) H (upd H a (.lst ys)):=⟨λb o h n=>by rw[aF n];exact h,Mx.kh hx⟩;have sub:∀b,b=a->o.A b:=λb z=>by rw[z];exact e3
 refine⟨⟨by rw[List.length_set];exact er.len,er.wa,er.da,λb hb=>?_,λj d hd=>?_,Dk.set er.dk rfl,λj j' b d d' m m' k1 k2 k3 k4=>?_,λb hb=>?_,er.drn,er.drs,er.dr0,?_⟩,up.mono sub,xU⟩
 ·obtain⟨x,hx⟩:=er.al b hb;exact xU b x hx
 ·by_cases hj:j=i
  ·subst hj;rw[List.getElem?_set] at hd;simp only[if_true] at hd;split at hd
   ·cases hd;refine⟨.ref a,hs,?_⟩;rw[if_pos hm];exact⟨a,ys,rfl,aM,e3,e4,e5,e6,hy.mono up sub λ_ z=>z⟩
   ·cases hd
  ·rw[PZ (Ne.symm hj)] at hd;obtain⟨w,k1,k2⟩:=er.val j d hd;refine⟨w,k1,?_⟩;by_cases hmj:et Γ j=true
   ·rw[if_pos hmj] at k2 ⊢;cases d with
    | lst dl=>obtain⟨b,OX,n1,n2,n3,n4,n5,n6,n7⟩:=k2;refine⟨b,OX,n1,up.kp _ _ n2 (λz=>?_),n3,n4,n5,n6,n7.mono up sub λ_ z=>z⟩;subst n1 z;exact hj (er.inj j i b dl ds hmj hm hd hr k1 hs)
    | fg=>exact k2.elim
    | _=>exact RV.mono up sub (λ_ z=>z) k2
   ·rw[if_neg hmj] at k2 ⊢;exact k2.mono up sub λ_ z=>z
 ·have same:∀{j:Nat} {d:List Dt},(ρ.set i (some (.lst es)))[j]?=some (some (.lst d))->∃d',ρ[j]?=some (some (.lst d')):=λ {j d} q=>by
   by_cases hj:j=i
   ·subst hj;exact⟨ds,hr⟩
   ·rw[PZ (Ne.symm hj)] at q;exact⟨d,q⟩
  obtain⟨d1,q1⟩:=same k1;obtain⟨d2,q2⟩:=same k2;exact er.inj j j' b d1 d2 m m' q1 q2 k3 k4
 ·obtain⟨ns,n1,n2⟩:=er.drw b hb;exact⟨ns,n1,up.kp _ _ n2 λz=>e5 (by rw[<-z];exact hb)⟩
 ·refine⟨λb x h n=>up.kp _ _ (er.ent.kp b x h n) λz=>?_,λb xs h=>up.tp _ _ (er.ent.tp b xs h)⟩;subst z;rw[h] at e6;cases e6
theorem f6 {i:Nat} {ds:List Dt} (er:ER Φ Γ o ρ S σ H) (hm:et Γ i=true) (hr:ρ[i]?=some (some (.lst ds))):∃a xs,σ[i]?=some (some (.ref a))/\H a=some (.lst xs)/\ak Φ.K o.A H xs ds:=by obtain⟨v,h1,h2⟩:=er.val i _ hr;rw[if_pos hm] at h2;obtain⟨a,xs,e1,e2,e3,e4,e5,e6,e7⟩:=h2;subst e1;exact⟨a,xs,h1,e2,e7⟩
theorem HF {i:Nat} {c:C} {st:Stmt} (hm:et Γ i=true) (h:PS X st (oV (Lj X.K "list" sF (iV i) (xO (bK Φ Γ F g.fr c) D4)))):PS X st (iA Φ Γ F W fF (.app i c)):=bq h λD σ H q=>by obtain⟨o,ρ,S,oi,er,q⟩:=q;unfold ex at q;obtain⟨gl,q⟩:=aE q;obtain⟨ds,hr⟩:=mE gl;obtain⟨a,xs,h1,h2,h3⟩:=f6 er hm hr;rw[aa] at q;refine⟨.ref a,h1,.inl ⟨rfl,_,cM.of h2⟩,o,ρ,S,er,ag q λp _ q v H1 eo az=>?_⟩;obtain⟨gs,q⟩:=aE q;rw[aa] at q;obtain⟨tq,e1,q⟩:=jd q;rw[hr] at e1;cases e1;obtain⟨gl,q⟩:=aE q;obtain⟨a',uu,kY,kn,yq⟩:=f6 az hm hr;rw[h1] at kY;cases kY;have fU:=bO;have zx:=sizeLine_eq;have Pf:lim=1000000:=rfl;have EF:=Py gl;refine⟨a,uu,v,rfl,rfl,kn,by rw[yq.length];lia,?_⟩;obtain⟨k1,k2,k3⟩:=az.chg hm hr h1 kn (yq.append (ak.cons (jm gs eo) ak.nil));exact q _ _ (SO.go (er.dA eo.ext) (λb z=> .inl z) (az.ze eo.ext) ⟨⟨o,oi,k1,λb z=> .inl z⟩,k2,k3⟩)
theorem HN {i:Nat} {c:C} {st:Stmt} (hm:et Γ i=true) (h:PS X st (oV (Lj X.K "list" Mx.Bn (iV i) (xO (bK Φ Γ F g.fr c) D4)))):PS X st (iA Φ Γ F W fF (.xtd i c)):=bq h λD σ H q=>by
 obtain⟨o,ρ,S,oi,er,q⟩:=q;unfold ex at q;obtain⟨gl,q⟩:=aE q;obtain⟨ds,hr⟩:=mE gl;obtain⟨a,xs,h1,h2,h3⟩:=f6 er hm hr;rw[aa] at q;refine⟨.ref a,h1,.inl ⟨rfl,_,cM.of h2⟩,o,ρ,S,er,ag q λp _ q v H1 eo az=>?_⟩;obtain⟨gs,q⟩:=aE q;rw[aa] at q;obtain⟨tq,e1,q⟩:=jd q;rw[hr] at e1;cases e1;obtain⟨a',uu,kY,kn,yq⟩:=f6 az hm hr;rw[h1] at kY;cases kY;cases hd:p.1 with
 | lst es=>rw[hd] at q eo;obtain⟨gl,q⟩:=aE q;obtain⟨b,zs,rfl,f1,f2⟩:=eo.oS (Py gs);have fU:=bO;have EF:=Py gl;refine⟨a,b,uu,zs,rfl,rfl,kn,.inl f1,by rw[yq.length,f2.length];lia,?_⟩;obtain⟨k1,k2,k3⟩:=az.chg hm hr h1 kn (yq.append f2);exact q _ _ (SO.go (er.dA eo.ext) (λb z=> .inl z) (az.ze eo.ext) ⟨⟨o,oi,k1,λb z=> .inl z⟩,k2,k3⟩)
 | tup es=>rw[hd] at q eo;obtain⟨gl,q⟩:=aE q;obtain⟨b,zs,rfl,f1,f2⟩:=RV.af (eo.oS (Py gs));have fU:=bO;have EF:=Py gl;refine⟨a,b,uu,zs,rfl,rfl,kn,.inr f1,by rw[yq.length,f2.length];lia,?_⟩;obtain⟨k1,k2,k3⟩:=az.chg hm hr h1 kn (yq.append f2);exact q _ _ (SO.go (er.dA eo.ext) (λb z=> .inl z) (az.ze eo.ext) ⟨⟨o,oi,k1,λb z=> .inl z⟩,k2,k3⟩)
 | _=>rw[hd] at q;exact q.elim
theorem HH {i:Nat} {st:Stmt} (hm:et Γ i=true) (h:PS X st (oV (Hr X.K "list" xg (iV i)))):PS X st (iA Φ Γ F W fF (.clr i)):=bq h λD σ H q=>by obtain⟨o,ρ,S,oi,er,q⟩:=q;unfold ex at q;rw[aa] at q;obtain⟨ds,hr,q⟩:=jd q;obtain⟨a,xs,h1,h2,h3⟩:=f6 er hm hr;obtain⟨k1,k2,k3⟩:=er.chg hm hr h1 h2 (ak.nil (K:=Φ.K) (A:=o.A));exact⟨.ref a,h1,.inl ⟨rfl,_,cM.of h2⟩,a,xs,rfl,rfl,h2,q _ _ ⟨⟨o,oi,k1,λb z=> .inl z⟩,k2,k3⟩⟩
theorem Eo {i:Nat} {k v:C} {st:Stmt} (hm:et Γ i=true) (h:PS X st (nh (bK Φ Γ F g.fr v) (Fy (iV i) (bK Φ Γ F g.fr k) Bp))):PS X st (iA Φ Γ F W fF (.qr i k v)):=bq h λD σ H q=>by
 obtain⟨o,ρ,S,oi,er,q⟩:=q;unfold ex at q;obtain⟨gl,q⟩:=aE q;obtain⟨ds,hr⟩:=mE gl;obtain⟨a,xs,h1,h2,h3⟩:=f6 er hm hr;rw[aa] at q;refine⟨o,ρ,S,er,ag q λp _ q x H1 eo az=>?_⟩;rw[aa] at q;refine⟨.ref a,h1,o,ρ,p.2,az,ag q λp2 _ q y H2 eo2 eS=>?_⟩;obtain⟨gs,q⟩:=aE q;rw[aa] at q;obtain⟨tq,e1,q⟩:=jd q;rw[hr] at e1;cases e1;obtain⟨a',uu,kY,kn,yq⟩:=f6 eS hm hr;rw[h1] at kY;cases kY;cases hd:p2.1 with
 | int n=>
  rw[hd] at q eo2;simp only at q;cases hj:mF ds.length n with
  | none=>rw[hj] at q;exact q.elim
  | some j=>
   rw[hj] at q;have hx:RV Φ.K o.A H2 x p.1:=by
    unfold bu at gs;rw[Qo] at gs;obtain⟨k1,k2,k3⟩:=eo.keep eo2.ext er.gf;rcases gs with gs | gs
    ·exact k2 (Py gs)
    ·exact k1.lz gs
   refine⟨a,uu,n,j,rfl,eo2.val.int_inv,kn,by rw[yq.length];exact hj,?_⟩;obtain⟨k1,k2,k3⟩:=eS.chg hm hr h1 kn (yq.set j hx);exact q _ _ (SO.go (er.dA (eo.ext.trans eo2.ext)) (λb z=> .inl z) (eS.ze (eo.ext.trans eo2.ext)) ⟨⟨o,oi,k1,λb z=> .inl z⟩,k2,k3⟩)
 | _=>rw[hd] at q;exact q.elim
theorem HK {c:C} {st:Stmt} (h:PS X st (oV (bK Φ Γ F g.fr c))):PS X st (iA Φ Γ F W fF (.yl c)):=bq h λD σ H q=>by obtain⟨o,ρ,S,oi,er,q⟩:=q;unfold ex at q;rw[aa] at q;exact⟨o,ρ,S,er,ag q λp _ q v H1 eo az=>q _ _ (SO.eY oi az eo.ext)⟩
theorem Ej {is:List Nat} {c:C} {st:Stmt} (hK:Φ.K=X.K) (hp:∀i∈is,plainS Γ i=true) (h:PS X st (nh (bK Φ Γ F g.fr c) (AD X.K (.tp is)))):PS X st (iA Φ Γ F W fF (.asgT is c)):=bq h λD σ H q=>by obtain⟨o,ρ,S,oi,er,q⟩:=q;unfold ex at q;rw[aa] at q;refine⟨o,ρ,S,er,ag q λp _ q v H1 eo az=>?_⟩;obtain⟨gs,q⟩:=aE q;rw[aa] at q;obtain⟨ρ1,hρ,q⟩:=jP (j6 _ _ _) q;rw[<-hK];exact qu az hp (jm gs eo) hρ λσ1 eS _=>q _ _ (SO.eY oi eS eo.ext)
theorem ER.h0 {a:Addr} (oi:OI Φ W o) (er:ER Φ Γ o ρ S σ H) (h:H a=none):Φ.H0 a=none:=by
 cases q:Φ.H0 a with
 | none=>rfl
 | some x=>
  by_cases uz:Φ.d0=some a
  ·obtain⟨y,hy⟩:=er.al a (er.da a (oi.d a uz));rw[h] at hy;cases hy
  ·rw[er.ent.kp a x q uz] at h;cases h
theorem Bz {c:C} {st:Stmt} (hf:fF=true->fresh g.fr c=true) (h:PS X st (D6 (bK Φ Γ F g.fr c))):PS X st (iA Φ Γ F W fF (.ret c)):=bq h λD σ H q=>by
 obtain⟨o,ρ,S,oi,er,q⟩:=q;unfold ex at q;rw[aa] at q;refine⟨o,ρ,S,er,ag q λp yu q v H1 eo az=>?_⟩;have hw:∀b,W b->o.wd b:=λb z=> .inl (by rw[oi.w];exact z)
 refine q _ _ ⟨eo.val.weak hw,az.ent,λa ha=>az.drw a (oi.d a ha),λhfF ds ed=>?_⟩;obtain⟨a,xs,h1,h2,h3,h4,_⟩:=eo.dY (hf hfF) ds ed;exact⟨a,xs,h1,er.h0 oi h2,h3,h4.weak λb z=>z.imp (hw b) id⟩
theorem Em {i:Nat} {st:Stmt} (hm:et Γ i=true) (hκ:Γ.κ≠some i) (h:PS X st (D6 (iV i))):PS X st (iA Φ Γ F W fF (.ret (.mvr i))):=bq h λD σ H q=>by
 obtain⟨o,ρ,S,oi,er,q⟩:=q;unfold ex ev at q;rw[aa,aa] at q;obtain⟨d,hd,q⟩:=mz q;obtain⟨v,k1,k2⟩:=er.val i d hd;rw[if_pos hm] at k2;have hw:∀b,W b->o.wd b:=λb z=> .inl (by rw[oi.w];exact z)
 have Oj:∀b,W b->o.A b:=λb z=>er.wa b (by rw[oi.w];exact z)
 refine⟨v,k1,q _ _ ⟨(k2.val (er.nd hd hκ) er.wa er.da).weak hw,er.ent,λa ha=>er.drw a (oi.d a ha),λhfF ds ed=>?_⟩⟩;simp only at ed;subst ed;obtain⟨a,xs,e1,e2,e3,e4,e5,e6,e7⟩:=k2;exact⟨a,xs,e1,e6,e2,e7.weak λb z=>z.elim (Oj b) λy=>by rw[y];exact e3⟩
theorem En {st:Stmt} (h:PS X st Bw):PS X st (iA Φ Γ F W fF .retN):=bq h λD σ H q=>by obtain⟨o,ρ,S,oi,er,q⟩:=q;exact q _ _ ⟨RV.fX,er.ent,λa ha=>er.drw a (oi.d a ha),λ_ ds ed=>by cases ed⟩
theorem El {st:Stmt} (h:PS X st xP):PS X st (iA Φ Γ F W fF .pas):=bq h λD σ H q=>by obtain⟨o,ρ,S,oi,er,q⟩:=q;exact q _ _ (SO.eY oi er aX.refl)
theorem HG {st:Stmt} (h:PS X st xN):PS X st (iA Φ Γ F W fF .brk):=bq h λD σ H q=>by obtain⟨o,ρ,S,oi,er,q⟩:=q;exact q _ _ (SO.eY oi er aX.refl)
theorem HJ {st:Stmt} (h:PS X st Bv):PS X st (iA Φ Γ F W fF .cnt):=bq h λD σ H q=>by obtain⟨o,ρ,S,oi,er,q⟩:=q;exact q _ _ (SO.eY oi er aX.refl)
theorem bT.go {o':Ow} {H1:Hp} {D D':Ends} {p:Fl×ai×Sx} (e:aX o.A H H1) (hA:∀b,o'.A b->o.A b\/H b=none) (uw:∀b x,H b=some x->∃y,H1 b=some y)
  (hn:∀σ' H',D.nx σ' H'->D'.nx σ' H') (hb:∀σ' H',D.bk σ' H'->D'.bk σ' H') (hc:∀σ' H',D.ct σ' H'->D'.ct σ' H') (hr:∀v H',D.rt v H'->D'.rt v H') (h:bT Φ Γ W fF o H D p):bT Φ Γ W fF o' H1 D' p:=by
 unfold bT at h ⊢;cases hp:p.1 with
 | next=>rw[hp] at h;exact λσ' H' so=>hn _ _ (h σ' H' (SO.go e hA uw so))
 | brk=>rw[hp] at h;exact λσ' H' so=>hb _ _ (h σ' H' (SO.go e hA uw so))
 | cnt=>rw[hp] at h;exact λσ' H' so=>hc _ _ (h σ' H' (SO.go e hA uw so))
 | ret d=>rw[hp] at h;exact λv H' ro=>hr _ _ (h v H' ro)
theorem yb:nF X [] (iW Φ Γ F W fF .nil):=sC An λD σ H q=>by obtain⟨o,ρ,S,oi,er,q⟩:=q;exact q _ _ (SO.eY oi er aX.refl)
theorem AL {st:Stmt} {kr:List Stmt} {t:T} {ts:Ts} (h1:PS X st (iA Φ Γ F W fF t)) (h2:nF X kr (iW Φ Γ F W fF ts)):nF X (st::kr) (iW Φ Γ F W fF (.cons t ts)):=sC (oK h1 h2) λD σ H q=>by
 obtain⟨o,ρ,S,oi,er,q⟩:=q;unfold aT at q;rw[aa] at q;refine⟨o,ρ,S,oi,er,ag q λp _ q=>?_⟩;unfold bT;cases hp:p.1 with
 | next=>rw[hp] at q;intro σ1 H1 so;obtain⟨⟨o1,KF,az,JH⟩,e1,a1⟩:=so;exact⟨o1,p.2.1,p.2.2,KF,az,ag q λp2 _ q=>bT.go e1 JH a1 (λ_ _ z=>z) (λ_ _ z=>z) (λ_ _ z=>z) (λ_ _ z=>z) q⟩
 | brk=>rw[hp] at q;exact q
 | cnt=>rw[hp] at q;exact q
 | ret d=>rw[hp] at q;exact q
theorem HM {t:C} {a b:Ts} {st:Stmt} (h:PS X st (Hv (eG Φ Γ F t) (iW Φ Γ F W fF a) (iW Φ Γ F W fF b))):PS X st (iA Φ Γ F W fF (.ifs t a b)):=bq h λD σ H q=>by
 obtain⟨o,ρ,S,oi,er,q⟩:=q;unfold ex at q;rw[aa] at q;refine⟨o,ρ,S,er,ag q λp _ q H1 e1 az=>?_⟩;have go:∀{ts:Ts},mR Φ.Ek (aT F ts ρ p.2) (bT Φ Γ W fF o H D)->iW Φ Γ F W fF ts D σ H1:=λq=>⟨o,ρ,p.2,oi,az,ag q λp2 _ q=>bT.go (er.dA e1) (λb z=> .inl z) (az.ze e1) (λ_ _ z=>z) (λ_ _ z=>z) (λ_ _ z=>z) (λ_ _ z=>z) q⟩
 cases hp:p.1 with
 | true=>rw[hp] at q;exact Gj (go q)
 | false=>rw[hp] at q;exact Gi (go q)
theorem HL {tg:Tg} {it:lK} {b:Ts} {st:Stmt} (hK:Φ.K=X.K) (hp:∀i∈aU tg,plainS Γ i=true) (h:PS X st (Ht (nk Φ Γ F it) (AD X.K tg) (iW Φ Γ F W fF b))):PS X st (iA Φ Γ F W fF (.fr tg it b)):=bq h λD σ H q=>by
 obtain⟨o,ρ,S,oi,er,q⟩:=q;unfold ex at q;rw[aa] at q;refine⟨o,ρ,S,er,ag q λp _ q J H1 io az=>?_⟩;obtain⟨gs,q⟩:=aE q;have wk:Wk Φ.K o.A o.A J H1 p.1:=(Bool.or_eq_true_iff.mp gs).elim (λz=>io.w0 (Py z)) io.w2;refine⟨λi m σ2 H2=>m=p.1.length - i/\i<=p.1.length/\∃o2 ρ2 S2,OI Φ W o2/\ER Φ Γ o2 ρ2 S2 σ2 H2/\aX o.A H1 H2/\(∀b,o2.A b->o.A b\/H1 b=none)/\(∀b x,H1 b=some x->∃y,H2 b=some y)/\mR Φ.Ek (forL tg (aT F b) (p.1.drop i) ρ2 S2) (bT Φ Γ W fF o H D),
  ⟨_,rfl,Nat.zero_le _,o,ρ,p.2,oi,az,aX.refl,λb z=> .inl z,λb x hx=>⟨x,hx⟩,q⟩,?_⟩
 rintro i m σ2 H2 ⟨rfl,hi,o2,ρ2,S2,IF,eS,e2,FC,LB,q⟩;have eH:aX o.A H H2:=(er.dA io.ext).trans e2;have aH:∀b x,H b=some x->∃y,H2 b=some y:=λb x hx=>by obtain⟨y,hy⟩:=az.ze io.ext b x hx;exact LB b y hy
 have A1:∀b,o2.A b->o.A b\/H b=none:=λb z=>(FC b z).imp id λq=>by
  cases hb:H b with
  | none=>rfl
  | some x=>obtain⟨y,hy⟩:=az.ze io.ext b x hb;rw[q] at hy;cases hy
 by_cases cJ:i < p.1.length
 ·refine .inr ⟨wk.go i H2 cJ e2,?_⟩;have hd:∃d,p.1[i]?=some d:=⟨p.1[i],by simp[cJ]⟩;obtain⟨d0,uz⟩:=hd;have Jt:p.1.drop i=d0::p.1.drop (i + 1):=by rw[List.drop_eq_getElem_cons cJ];congr 1;exact(Pz.mp uz).2
  rw[Jt] at q;unfold forL at q;rw[aa] at q;obtain⟨ρ3,hρ,q⟩:=jP (j6 _ _ _) q;rw[aa] at q;refine⟨λσ3 H3=>i + 1<=p.1.length/\∃o3 ρ3 S3,OI Φ W o3/\ER Φ Γ o3 ρ3 S3 σ3 H3/\aX o.A H1 H3/\(∀b,o3.A b->o.A b\/H1 b=none)/\(∀b x,H1 b=some x->∃y,H3 b=some y)/\mR Φ.Ek (forL tg (aT F b) (p.1.drop (i + 1)) ρ3 S3) (bT Φ Γ W fF o H D),λσ3 H3 z=>⟨p.1.length - (i + 1),by lia,rfl,z⟩,λx H3 y=>?_⟩;obtain⟨s3,d,hd,hx⟩:=wk.yld i x H2 H3 cJ e2 y;rw[uz] at hd;cases hd;have wg:=hx o2.A FC;rw[<-hK];refine qu (eS.grow s3) hp wg hρ λσ4 Jx _=>?_
  refine⟨o2,ρ3,S2,IF,Jx,ag q λp2 _ q=>?_⟩;have again:∀{σ5:L2.St} {H5:Hp},SO Φ Γ W o2 H3 p2.2.1 p2.2.2 σ5 H5->mR Φ.Ek (forL tg (aT F b) (p.1.drop (i + 1)) p2.2.1 p2.2.2) (bT Φ Γ W fF o H D)->i + 1<=p.1.length/\∃o3 ρ3 S3,OI Φ W o3/\ER Φ Γ o3 ρ3 S3 σ5 H5/\aX o.A H1 H5/\(∀b,o3.A b->o.A b\/H1 b=none)/\(∀b x,H1 b=some x->∃y,H5 b=some y)/\mR Φ.Ek (forL tg (aT F b) (p.1.drop (i + 1)) ρ3 S3) (bT Φ Γ W fF o H D):=λ {σ5 H5} so q=>by have OK:=SO.go (o:=o) (H:=H1) (e2.trans (aX.of_same s3)) FC (λb x hx=>by obtain⟨y,hy⟩:=LB b x hx;exact⟨y,s3 _ _ hy⟩) so;obtain⟨⟨o5,OE,Ij,Ng⟩,e5,a5⟩:=OK;exact⟨cJ,o5,_,_,OE,Ij,e5,Ng,a5,q⟩
  unfold bT;cases eE:p2.1 with
  | next=>rw[eE] at q;exact λσ5 H5 so=>again so q
  | cnt=>rw[eE] at q;exact λσ5 H5 so=>again so q
  | brk=>rw[eE] at q;intro σ5 H5 so;have q:bT Φ Γ W fF o H D (.next,p2.2):=q;unfold bT at q;exact q σ5 H5 (SO.go (eH.trans (aX.of_same s3)) A1 (λb x hx=>by obtain⟨y,hy⟩:=aH b x hx;exact⟨y,s3 _ _ hy⟩) so)
  | ret d=>rw[eE] at q;have q:bT Φ Γ W fF o H D (.ret d,p2.2):=q;exact q
 ·have e:i=p.1.length:=by lia
  subst e;rw[List.drop_length] at q;have q:bT Φ Γ W fF o H D (.next,ρ2,S2):=q;unfold bT at q;exact .inl ⟨wk.stop H2 e2,q _ _ ⟨⟨o2,IF,eS,A1⟩,eH,aH⟩⟩
end
noncomputable def mP (g:G) (Γ:Gm):Expr->Option (List Nat)
 | .Constant (.str x) _ _=>if x.length<=1000 then some [] else none
 | .FormattedValue (.Name x _) (-1) none _=>if cw x then(match slot Γ x with
  | some i=>some [i]
  | none=>if tF (Γ.names.lookup x) then(match g.cons.lookup x with
   | some (.int n)=>if 0<=n/\n < 10 ^ 19 then some [] else none
   | _=>none) else none) else none
 | _=>none
noncomputable def Kx (g:G) (Γ:Gm):List Expr->Option (List Nat)
 | []=>some []
 | e::es=>(mP g Γ e).bind λa=>(Kx g Γ es).bind λb=>some (a++b)
noncomputable def mS (g:G) (Γ:Gm):Expr->Option (List Nat)
 | .Constant (.str _) _ _=>some []
 | .JoinedStr (e1::e2::es) _=>if (e1::e2::es).length<=100 then Kx g Γ (e1::e2::es) else none
 | _=>none
noncomputable def pV (vs:List Nat) (σ:L2.St):Prop:=∀i∈vs,∃n:Nat,σ[i]?=some (some (.int n))/\n < 10 ^ 19
section
variable {g:G} {xv:Nat->Value} {CX:iX} {k:Nat} {F:FT} {X:Cx} {Φ:Fm} {Γ:Gm} {W:Addr->Prop} {fF:Bool}
theorem zN {e:Expr} {vs:List Nat} (h:mS g Γ e=some vs) (env:Env):starEach [e] env=[(false,eval e env)]:=by unfold mS at h;split at h <;> first | rfl | cases h
theorem DA (gx:GX g Γ X) {e:Expr} {vs us:List Nat} (h:mP g Γ e=some vs) (hs:∀i∈vs,i∈us):E0 X e (pV us):=by
 unfold mP at h;split at h
 ·split at h
  ·rename_i hl;exact Ah hl
  ·cases h
 ·split at h
  ·rename_i ho;obtain⟨n1,n2,n3⟩:=bx ho;split at h
   ·rename_i i hi;cases h;obtain⟨v1,v2,v3⟩:=jl hi;intro pins s σ H Q I hp q;exact Ai (by rw[gx.N];exact v3) (gx.vis _ v1) n1 n2 pins s σ H Q I (hp i (hs i (by simp))) q
   ·split at h
    ·rename_i hg;split at h
     ·rename_i n hc;split at h
      ·rename_i hn;obtain⟨u,_,h2,h3⟩:=gx.con _ _ hc;obtain⟨m,rfl⟩:=Int.eq_ofNat_of_zero_le hn.1;exact wX (gx.gl _ hg) h2 h3 (by lia) n1
      ·cases h
     ·cases h
    ·cases h
  ·cases h
 ·cases h
theorem wZ (gx:GX g Γ X) {us:List Nat}:∀{es:List Expr} {vs:List Nat},Kx g Γ es=some vs->(∀i∈vs,i∈us)->E3 X es (pV us)
 | [],vs,_,_=>Aj
 | e::es,vs,h,hs=>by obtain⟨a,h1,h⟩:=Pt.mp h;obtain⟨b,h2,h⟩:=Pt.mp h;cases h;refine wY (DA gx h1 λi hi=>hs i (List.mem_append_left _ hi)) (wZ gx h2 λi hi=>hs i (Qf _ hi)) ?_;unfold mP at h1;split at h1 <;> first | rfl | cases h1
theorem GU (gx:GX g Γ X) {e:Expr} {vs:List Nat} (h:mS g Γ e=some vs):PM X e (pV vs):=by
 unfold mS at h;split at h
 ·exact Dz
 ·split at h
  ·rename_i hl;exact t7 (wZ gx h λi hi=>hi) hl
  ·cases h
 ·cases h
theorem Er {c:Str} {k0:Nat} (h:wo c (g.xs.map (·.1))=some k0):∃ts,g.xs[k0]?=some (c,ts):=by have:=ja h;rw[P1] at this;obtain⟨⟨a,ts⟩,h1,h2⟩:=PX.mp this;cases h2;exact⟨ts,h1⟩
theorem Lx {k0:Nat} {vs:List Nat} {ts:List (Str×Bool)} {c:Str} {arg:Expr} {np df pos:Pos} (hX:HX g xv CX k F Φ X) (gx:GX g Γ X) (hx:g.xs[k0]?=some (c,ts)) (hg:Gl X c) (og:(c==("__debug__":Str))=false) (he:PM X arg (pV vs)) (jH:starEach [arg] X.env=[(false,eval arg X.env)]):
  PS X (.Raise (some (.Call (.Name c np) [arg] [] df)) none pos) (iA Φ Γ F W fF (.rs k0 vs)):=by
 intro pins s σ H D I q;obtain⟨o,ρ,S,oi,er,q⟩:=q;unfold ex at q;obtain⟨hm,q⟩:=aE q;obtain⟨C,e1,e2,e3,_⟩:=hX.xk _ _ _ hx;refine xa (E:=iD Φ xv) (I.ok.hd gx.calm) hX.st.pn hg e2 e3 hX.xgx he jH og pins s σ H D I ⟨λi hi=>?_,k0,e1.symm,q,er.ent⟩;have:=Qj.mp hm i hi;unfold Gy at this;split at this
 ·rename_i n hn;rw[Pw] at this;obtain⟨m,rfl⟩:=Int.eq_ofNat_of_zero_le (Py this.1);obtain⟨v,h1,h2⟩:=er.val i _ hn;have h3:RV Φ.K o.A H v (.int (m:Int)):=by split at h2 <;> exact h2
  rw[h3.int_inv] at h1;exact⟨m,h1,by have:=Py this.2;lia⟩
 ·cases this
end
noncomputable def wj:Expr->Bool
 | .Tuple ..=>true
 | .List ..=>true
 | _=>false
noncomputable def hJ:Expr->Bool
 | .ListComp ..=>true
 | .SetComp ..=>true
 | .DictComp ..=>true
 | _=>false
noncomputable def B0 (n:Nat) (g:G) (Γ:Gm) (i:Nat) (e:Expr):Option T:=match e with
 | .Name y p=>match slot Γ y with
  | some j=>if et Γ j then none else(cE n g Γ (.Name y p)).bind λc=>some (.asg i c)
  | none=>(cE n g Γ (.Name y p)).bind λc=>some (.asg i c)
 | e=>(cE n g Γ e).bind λc=>some (if fresh g.fr c&&lk c != 0 then .asgM i c else .asg i c)
noncomputable def B2 (n:Nat) (g:G) (Γ:Gm) (fF:Bool) (e:Expr):Option T:=match e with
 | .Name y p=>match slot Γ y with
  | some j=>if et Γ j then(if Γ.δ==some j||Γ.κ==some j then none else some (.ret (.mvr j))) else(cE n g Γ (.Name y p)).bind λc=>if fF then none else some (.ret c)
  | none=>(cE n g Γ (.Name y p)).bind λc=>if fF then none else some (.ret c)
 | e=>(cE n g Γ e).bind λc=>if !fF||fresh g.fr c then some (.ret c) else none
mutual
noncomputable def cS:Nat->G->Gm->Bool->Bool->Stmt->Option T
 | 0,_,_,_,_,_=>none
 | n + 1,g,Γ,dp,fF,st=>match st with
  | .Assign tgs e _=>match tgs with
   | [.Name x _]=>(ez Γ x).bind λi=>
     if Γ.δ==some i then none
     else if et Γ i then(if Γ.κ==some i then none else(cE n g Γ e).bind λc=>if fresh g.fr c then some (.asgM i c) else none)
     else B0 n g Γ i e
   | [.Tuple es _ _]=>if wj e then none else(fW Γ es).bind λis=>(cE n g Γ e).bind λc=>some (.asgT is c)
   | [.Subscript (.Name x _) k _]=>(slot Γ x).bind λi=>if et Γ i then(cE n g Γ e).bind λv'=>(cE n g Γ k).bind λk'=>if Γ.κ==some i then none else some (.qr i k' v') else none
   | _=>none
  | .Expr ex _=>match ex with
   | .Call (.Attribute (.Name x _) m ap) [a] [] cp=>(slot Γ x).bind λi=>if et Γ i&&ap.endLine==cp.line then(cE n g Γ a).bind λa'=>
     (if m==("append":Str) then some (.app i a') else if m==("extend":Str) then some (.xtd i a') else none) else none
   | .Call (.Attribute (.Name x _) m ap) [] [] cp=>(slot Γ x).bind λi=>if et Γ i&&ap.endLine==cp.line&&m==("clear":Str) then some (.clr i) else none
   | e=>if hJ e then none else(cE n g Γ e).bind λc=>some (.yl c)
  | .Return (some e) _=>B2 n g Γ fF e
  | .Return none _=>some .retN
  | .If t a b _=>(cE n g Γ t).bind λt'=>(AZ n g Γ dp fF a).bind λa'=>(AZ n g Γ dp fF b).bind λb'=>some (.ifs t' a' b')
  | .For tg it b els _=>match els with
   | []=>(cI n g Γ tg it).bind λi9=>(nP Γ tg).bind λkf=>(AZ n g Γ dp fF b).bind λb'=>some (.fr kf i9 b')
   | _=>none
  | .Raise ra rb _=>match ra,rb with
   | some (.Call (.Name c _) [arg] [] _),none=>if tF (Γ.names.lookup c)&&cw c then(wo c (g.xs.map (·.1))).bind λk=>(mS g Γ arg).bind λvs=>some (.rs k vs) else none
   | _,_=>none
  | .Break _=>some .brk
  | .Continue _=>some .cnt
  | .Pass _=>some .pas
  | _=>none
noncomputable def AZ:Nat->G->Gm->Bool->Bool->List Stmt->Option Ts
 | 0,_,_,_,_,_=>none
 | n + 1,g,Γ,dp,fF,kr=>match kr with
  | []=>some .nil
  | st::kr=>(cS n g Γ dp fF st).bind λt=>(AZ n g Γ dp fF kr).bind λts=>some (.cons t ts)
end
section
variable {g:G} {xv:Nat->Value} {CX:iX} {k:Nat} {F:FT} {X:Cx} {Φ:Fm} {Γ:Gm} {W:Addr->Prop}
theorem kc {e:Expr} (h:hJ e=false) (t:Option Expr) (l:Nat) (env:Env):swapsWith e t l env=pure false:=by cases e <;> first | rfl | (simp[hJ] at h)
theorem lE {e:Expr} {t:Expr} (ht:∀x p,t≠ .Name x p) (l:Nat) (env:Env):swapsWith e (some t) l env=pure false:=by cases e <;> first | rfl | (cases t <;> first | rfl | exact absurd rfl (ht _ _))
theorem nR {n:Nat} {elt:Expr} {gens:List Comprehension} {sc:Scope} {df:Pos} {c:C} (h:cE (n + 1) g Γ (.ListComp elt gens sc df)=some c):sc.kind= .function/\u5 sc.names Γ.names (aY Γ sc).1.N Γ.N (aY Γ sc).2=true/\(aY Γ sc).1.N.Nodup/\
  ((∃tg it ifs i9 kf nr e',gens=[⟨tg,it,ifs,0⟩]/\cI n g Γ tg it=some i9/\nP (aY Γ sc).1 tg=some kf/\za n g (aY Γ sc).1 ifs=some nr/\cE n g (aY Γ sc).1 elt=some e'/\c= .comp (aY Γ sc).2 i9 kf nr e')\/
   (∃tg it ifs iB fL bX i9 kf nr oj kg oX e',gens=[⟨tg,it,ifs,0⟩,⟨iB,fL,bX,0⟩]/\cI n g Γ tg it=some i9/\nP (aY Γ sc).1 tg=some kf/\za n g (aY Γ sc).1 ifs=some nr/\cI n g (aY Γ sc).1 iB fL=some oj/\nP (aY Γ sc).1 iB=some kg/\za n g (aY Γ sc).1 bX=some oX/\cE n g (aY Γ sc).1 elt=some e'/\
   (∀i∈aU kg,i∉aU kf)/\c= .fH (aY Γ sc).2 i9 kf nr oj kg oX e')):=by
 unfold cE at h;simp only at h;split at h
 ·rename_i hk;split at h
  ·rename_i tg it ifs;obtain⟨i9,h1,h⟩:=Pt.mp h;obtain⟨kf,h2,h⟩:=Pt.mp h;obtain⟨nr,h3,h⟩:=Pt.mp h;obtain⟨e',h4,h⟩:=Pt.mp h;split at h
   ·rename_i hb;cases h;rw[Pw] at hb;exact⟨P6 hk,hb.1,Py hb.2,.inl ⟨tg,it,ifs,i9,kf,nr,e',rfl,h1,h2,h3,h4,rfl⟩⟩
   ·cases h
  ·rename_i tg it ifs iB fL bX;obtain⟨i9,h1,h⟩:=Pt.mp h;obtain⟨kf,h2,h⟩:=Pt.mp h;obtain⟨nr,h3,h⟩:=Pt.mp h;obtain⟨oj,h5,h⟩:=Pt.mp h;obtain⟨kg,h6,h⟩:=Pt.mp h;obtain⟨oX,h7,h⟩:=Pt.mp h;obtain⟨e',h4,h⟩:=Pt.mp h;split at h
   ·rename_i hb;cases h;rw[Pw,Pw] at hb;refine⟨P6 hk,hb.1.1,Py hb.1.2,.inr ⟨tg,it,ifs,iB,fL,bX,i9,kf,nr,oj,kg,oX,e',rfl,h1,h2,h3,h5,h6,h7,h4,λi hi z=>?_,rfl⟩⟩;have:=Qj.mp hb.2 i hi;simp[z] at this
   ·cases h
  ·cases h
 ·cases h
theorem gQ {n i:Nat} {x:Str} {e:Expr} {c:C} {pos' pos:Pos} (gx:GX g Γ X) (hX:HX g xv CX k F Φ X) (hs:ez Γ x=some i) (h:cE n g Γ e=some c):PS X (.Assign [.Name x pos'] e pos) (nh (bK Φ Γ F g.fr c) (dM i)):=by
 have S:=gS (F:=F) n Γ X Φ gx hX;obtain⟨a1,a2,a3⟩:=eZ hs;obtain⟨l1,l2⟩:=gx.loc x a1;have hN:X.N.Nodup:=gx.N▸gx.nd;have hi:X.N[i]?=some x:=by rw[gx.N];exact a3
 by_cases hc:hJ e=true
 ·cases n with
  | zero=>simp[cE] at h
  | succ n=>
   cases e with
   | ListComp elt gens sc df=>
    have Nx:=(S.e _ _ h).1;obtain⟨hk,hb,iI,FP⟩:=nR h;cases CG:(X.env.blockKind== .function&&X.env.kindOf x==some .local&&pos'.line==(Expr.ListComp elt gens sc df).pos.line&& !(sc.names.any λ(n,k)=>n==x&&(k== .local||k== .cell))) with
    | false=>exact ql hN hi l1 Nx (by show pure (X.env.blockKind== .function&&X.env.kindOf x==some .local&&pos'.line==(Expr.ListComp elt gens sc df).pos.line&& !(sc.names.any λ(n,k)=>n==x&&(k== .local||k== .cell)))=_;rw[CG]) l2
    | true=>
     have hl:X.env.kindOf x=some .local:=by rw[Pw,Pw,Pw] at CG;exact P6 CG.1.1.2
     have B:=pF gx hk hb;have S1:=gS (F:=F) n Γ X Φ gx hX;have J:=λC s H fp=>gS (F:=F) n (aY Γ sc).1 (eJ X sc (aY Γ sc).1.N C s H fp (qC X sc (aY Γ sc).1.N (iD Φ xv) C s H fp)) Φ (d8 gx B iI) (pT hX)
     rcases FP with ⟨tg,it,ifs,i9,kf,nr,e',rfl,h1,h2,h3,h4,rfl⟩ | ⟨tg,it,ifs,iB,fL,bX,i9,kf,nr,oj,kg,oX,e',rfl,h1,h2,h3,h5,h6,h7,h4,FV,rfl⟩
     ·refine bq (iL (xb:=qC X sc (aY Γ sc).1.N (iD Φ xv)) (body:=λacc env=>fQ elt acc env) (i:=i) gx.calm hN hi hl B (jo hX.st hX.xgx) (S1.i _ _ _ h1).1 (λnB acc env=>oY ..) (λC s H fp=>oP (d8 gx B iI) h2) (λC s H fp=>(J C s H fp).ts _ _ h3) (λC s H fp D=>jg ((J C s H fp).e _ _ h4).1) (fT (S1.i _ _ _ h1).2 _) ?_) λD σ H q=>xm hX.K B iI h2 q
      show pure (X.env.blockKind== .function&&X.env.kindOf x==some .local&&pos'.line==(Expr.ListComp elt [⟨tg,it,ifs,0⟩] sc df).pos.line&& !(sc.names.any λ(n,k)=>n==x&&(k== .local||k== .cell)))=_;rw[CG]
     ·refine bq (iL (xb:=qC X sc (aY Γ sc).1.N (iD Φ xv)) (body:=λacc env=>nextOf (.ListComp elt [⟨tg,it,ifs,0⟩,⟨iB,fL,bX,0⟩] sc df) 1 fL acc env) (i:=i) gx.calm hN hi hl B (jo hX.st hX.xgx) (S1.i _ _ _ h1).1 (λnB acc env=>oZ ..) (λC s H fp=>oP (d8 gx B iI) h2) (λC s H fp=>(J C s H fp).ts _ _ h3)
       (λC s H fp D=>r4 gx.calm (rZ hX.st) ((J C s H fp).i _ _ _ h5).1 (oP (d8 gx B iI) h6) ((J C s H fp).ts _ _ h7) (jg ((J C s H fp).e _ _ h4).1) (fT ((J C s H fp).i _ _ _ h5).2 _)) (fT (S1.i _ _ _ h1).2 _) ?_) λD σ H q=>sI hX.K B iI h2 h6 FV q
      show pure (X.env.blockKind== .function&&X.env.kindOf x==some .local&&pos'.line==(Expr.ListComp elt [⟨tg,it,ifs,0⟩,⟨iB,fL,bX,0⟩] sc df).pos.line&& !(sc.names.any λ(n,k)=>n==x&&(k== .local||k== .cell)))=_;rw[CG]
   | SetComp=>simp[cE] at h
   | DictComp=>simp[cE] at h
   | _=>simp[hJ] at hc
 ·exact ql hN hi l1 (S.e _ _ h).1 (kc (by simpa using hc) _ _ _) l2
structure IZ (g:G) (F:FT) (n:Nat) (Γ:Gm) (X:Cx) (Φ:Fm) (W:Addr->Prop) (dp fF:Bool):Prop where
 s:∀st t,cS n g Γ dp fF st=some t->PS X st (iA Φ Γ F W fF t)
 ss:∀kr ts,AZ n g Γ dp fF kr=some ts->nF X kr (iW Φ Γ F W fF ts)
theorem kl {x:Str} {i:Nat} {p:Pos} (gx:GX g Γ X) (h:slot Γ x=some i):PE X (.Name x p) (iV i):=by obtain⟨v1,v2,v3⟩:=jl h;obtain⟨n1,n2,n3⟩:=bx v2;exact qi (by rw[gx.N];exact v3) (gx.vis x v1) n1 n2
theorem BL {n i:Nat} {x:Str} {e:Expr} {t:T} {pos' pos:Pos} {fF:Bool} (gx:GX g Γ X) (hX:HX g xv CX k F Φ X) (hs:ez Γ x=some i) (hp:plainS Γ i=true) (h:B0 n g Γ i e=some t):PS X (.Assign [.Name x pos'] e pos) (iA Φ Γ F W fF t):=by
 have DI:∀{e:Expr} {t:T},((cE n g Γ e).bind λc=>some (T.asg i c))=some t->PS X (.Assign [.Name x pos'] e pos) (iA Φ Γ F W fF t):=λ {e t} h=>by obtain⟨c,h1,h⟩:=Pt.mp h;cases h;exact By hp (gQ gx hX hs h1)
 unfold B0 at h;split at h
 ·rename_i y p;split at h
  ·rename_i j hj;split at h
   ·cases h
   ·exact DI h
  ·exact DI h
 ·obtain⟨c,h1,h⟩:=Pt.mp h;cases h;split
  ·rename_i hf;rw[Pw] at hf;exact Ei hp hf.1 (gQ gx hX hs h1)
  ·exact By hp (gQ gx hX hs h1)
theorem DJ {n:Nat} {e:Expr} {t:T} {pos:Pos} {fF:Bool} (gx:GX g Γ X) (hX:HX g xv CX k F Φ X) (h:B2 n g Γ fF e=some t):PS X (.Return (some e) pos) (iA Φ Γ F W fF t):=by
 have S:=gS (F:=F) n Γ X Φ gx hX;have plain:∀{e:Expr} {t:T},((cE n g Γ e).bind λc=>if fF then none else some (T.ret c))=some t->PS X (.Return (some e) pos) (iA Φ Γ F W fF t):=λ {e t} h=>by
  obtain⟨c,h1,h⟩:=Pt.mp h;split at h
  ·cases h
  ·rename_i hf;cases h;exact Bz (λz=>absurd z hf) (j3 (S.e _ _ h1).1)
 unfold B2 at h;split at h
 ·rename_i y p;split at h
  ·rename_i j hj;split at h
   ·rename_i hm;split at h
    ·cases h
    ·rename_i hk;cases h;exact Em hm (λz=>hk (by simp[z])) (j3 (kl gx hj))
   ·exact plain h
  ·exact plain h
 ·obtain⟨c,h1,h⟩:=Pt.mp h;split at h
  ·rename_i hf;cases h;refine Bz (λz=>?_) (j3 (S.e _ _ h1).1);rw[z] at hf;simpa using hf
  ·cases h
theorem oR {dp fF:Bool} (n:Nat):∀(Γ:Gm) (X:Cx) (Φ:Fm),GX g Γ X->HX g xv CX k F Φ X->(dp=false->Φ.d0=none)->PassesOwn (model X.prog X.w) X.A X.env X.xe->IZ g F n Γ X Φ W dp fF:=by
 induction n with
 | zero=>intro Γ X Φ gx hX hd ho;exact⟨λst t h=>by simp[cS] at h,λst t h=>by simp[AZ] at h⟩
 | succ n ih=>
  intro Γ X Φ gx hX hd ho;have I:=ih Γ X Φ gx hX hd ho;have S:=gS (F:=F) n Γ X Φ gx hX;have hK:=hX.K;refine⟨λst t h=>?_,λkr ts h=>?_⟩
  ·unfold cS at h;split at h
   ·split at h
    ·rename_i e pos x xp;obtain⟨i,hs,h⟩:=Pt.mp h;split at h
     ·cases h
     ·rename_i hδ;have hδ':Γ.δ≠some i:=λz=>hδ (by rw[z];exact beq_self_eq_true _)
      split at h
      ·rename_i hm;split at h
       ·cases h
       obtain⟨c,h1,h⟩:=Pt.mp h;split at h
       ·rename_i hf;cases h;exact Eh hm hδ' hf (gQ gx hX hs h1)
       ·cases h
      ·rename_i hm;refine BL gx hX hs ?_ h;unfold plainS;rw[Pw];exact⟨by simpa using hm,by simpa using hδ'⟩
    ·rename_i e pos tg0 es kk tp;split at h
     ·cases h
     ·rename_i hdisp;obtain⟨is,h1,h⟩:=Pt.mp h;obtain⟨c,h2,h⟩:=Pt.mp h;cases h;have Bc:nP Γ (.Tuple es kk tp)=some (.tp is):=by rw[nP,h1];rfl
      refine Ej hK (λi hi=>(dX Bc i hi).1) (w5 (S.e _ _ h2).1 (oP gx Bc) (show swapsWithSole [Expr.Tuple es kk tp] e pos.line X.env=pure false from lE (e:=e) (t:=Expr.Tuple es kk tp) (λx p z=>by cases z) pos.line X.env) ?_);cases e <;> first | rfl | (simp[wj] at hdisp)
    ·rename_i v pos tg0 x xp kx sp;obtain⟨i,hs,h⟩:=Pt.mp h;split at h
     ·rename_i hm;obtain⟨v',h1,h⟩:=Pt.mp h;obtain⟨k',h2,h⟩:=Pt.mp h;have NU:=(S.e _ _ h2).2.2;split at h
      ·cases h
      ·cases h;refine Eo hm (w5 (S.e _ _ h1).1 (Dw (kl gx hs) (S.e _ _ h2).1 set_list (by intro _;cases kx <;> first | rfl | (simp[rg] at NU))) (show swapsWithSole [Expr.Subscript (Expr.Name x xp) kx sp] v pos.line X.env=pure false from lE (e:=v) (t:=Expr.Subscript (Expr.Name x xp) kx sp) (λx p z=>by cases z) pos.line X.env) ?_);cases v <;> rfl
     ·cases h
    ·cases h
   ·split at h
    ·rename_i pos x xp m ap a cp;obtain⟨i,hs,h⟩:=Pt.mp h;split at h
     ·rename_i hm;rw[Pw] at hm;obtain⟨a',h1,h9⟩:=Pt.mp h;clear h;have jH:=cA (S.e _ _ h1).2.2 [] X.env;split at h9
      ·rename_i hma;have em:=P6 hma;subst em;cases h9;exact HF hm.1 (jh (Bk PySem.F.plainAttrs_list PySem.F.slot_list_append PySem.F.type_list_append lp (kl gx hs) (bZ (S.e _ _ h1).1 eW jH) rfl (by rw[jH];rfl) hm.2 jH rfl))
      split at h9
      ·rename_i hma;have em:=P6 hma;subst em;cases h9;exact HN hm.1 (jh (Bk PySem.F.plainAttrs_list PySem.F.slot_list_extend PySem.F.type_list_extend Mx.zS (kl gx hs) (bZ (S.e _ _ h1).1 eW jH) rfl (by rw[jH];rfl) hm.2 jH rfl))
      ·cases h9
     ·cases h
    ·rename_i pos x xp m ap cp;obtain⟨i,hs,h9⟩:=Pt.mp h;clear h;split at h9
     ·rename_i hm;rw[Pw,Pw] at hm;have em:=P6 hm.2;subst em;cases h9;exact HH hm.1.1 (jh (Dq PySem.F.plainAttrs_list PySem.F.slot_list_clear PySem.F.type_list_clear wC (kl gx hs) rfl hm.1.2))
     ·cases h9
    ·split at h
     ·cases h
     ·rename_i hc;obtain⟨c,h1,h⟩:=Pt.mp h;cases h;exact HK (jh (S.e _ _ h1).1 (kc (by simpa using hc) _ _ _))
   ·exact DJ gx hX h
   ·cases h;exact En Al
   ·obtain⟨t',h1,h⟩:=Pt.mp h;obtain⟨a',h2,h⟩:=Pt.mp h;obtain⟨b',h3,h⟩:=Pt.mp h;cases h;exact HM (GV (S.e _ _ h1).2.1 (I.ss _ _ h2) (I.ss _ _ h3))
   ·split at h
    ·obtain⟨i9,h1,h⟩:=Pt.mp h;obtain⟨kf,h2,h⟩:=Pt.mp h;obtain⟨b',h3,h⟩:=Pt.mp h;cases h;exact HL hK (λi hi=>(dX h2 i hi).1) (DC ho gx.calm (S.i _ _ _ h1).1 (oP gx h2) (I.ss _ _ h3) (fT (S.i _ _ _ h1).2 _))
    ·cases h
   ·split at h
    ·split at h
     ·rename_i hg;rw[Pw] at hg;obtain⟨k0,h1,h⟩:=Pt.mp h;obtain⟨vs,h2,h⟩:=Pt.mp h;cases h;obtain⟨ts,h3⟩:=Er h1;obtain⟨n1,n2,n3⟩:=bx hg.2;exact Lx hX gx h3 (gx.gl _ hg.1) n1 (GU gx h2) (zN h2 _)
     ·cases h
    ·cases h
   ·cases h;exact HG w6
   ·cases h;exact HJ oI
   ·cases h;exact El Ak
   ·cases h
  ·unfold AZ at h;split at h
   ·cases h;exact yb
   ·obtain⟨t,h1,h⟩:=Pt.mp h;obtain⟨nr,h2,h⟩:=Pt.mp h;cases h;exact AL (I.s _ _ h1) (I.ss _ _ h2)
end
inductive HV where
 | b (x:Bool) | l (xs:List Bool)
noncomputable def HV.Ea:HV->Option Bool
 | .b x=>some x
 | .l _=>none
noncomputable def HV.Gu:HV->Option (List Bool)
 | .l x=>some x
 | .b _=>none
mutual
noncomputable def hE:Nat->G->Gm->Nat->List (Str×Bool)->Option (Nat×HV)->Expr->Option HV
 | 0,_,_,_,_,_,_=>none
 | n + 1,g,Γ,i,ts,vb,e=>match e with
  | .Call fe as ks _=>match fe,as,ks with
   | .Name f _,[.Name x _,.Name t _],[]=>if f==("isinstance":Str)&&tF (Γ.names.lookup f)&&g.bls.contains f&&slot Γ x==some i&&tF (Γ.names.lookup t)&&cw t then(ts.lookup t).map .b else none
   | _,_,_=>none
  | .Name x _=>vb.bind λv=>if slot Γ x==some v.1 then some v.2 else none
  | .Constant c _ _=>match c with
   | .bool b=>some (.b b)
   | _=>none
  | .List es _=>if es.length<=1000 then(FF n g Γ i ts vb es).map .l else none
  | .BinOp a o b _=>match o with
   | .Add=>((hE n g Γ i ts vb a).bind HV.Gu).bind λx=>((hE n g Γ i ts vb b).bind HV.Gu).bind λy=>if x.length + y.length<=1000 then some (.l (x++y)) else none
   | _=>none
  | .Compare a os bs _=>match os,bs with
   | [.Eq],[b]=>((hE n g Γ i ts vb a).bind HV.Gu).bind λx=>((hE n g Γ i ts vb b).bind HV.Gu).bind λy=>match cU .Eq (.lst (x.map Dt.bl)) (.lst (y.map Dt.bl)) with
    | .ok z=>some (.b z)
    | _=>none
   | _,_=>none
  | .UnaryOp o a _=>match o with
   | .Not=>((hE n g Γ i ts vb a).bind HV.Ea).bind λb=>some (.b !b)
   | _=>none
  | .BoolOp o es p=>match es with
   | [a]=>hE n g Γ i ts vb a
   | a::b::es=>((hE n g Γ i ts vb a).bind HV.Ea).bind λx=>((hE n g Γ i ts vb (.BoolOp o (b::es) p)).bind HV.Ea).bind λy=>some (.b (match o with | .And=>x&&y | .Or=>x||y))
   | []=>none
  | _=>none
noncomputable def FF:Nat->G->Gm->Nat->List (Str×Bool)->Option (Nat×HV)->List Expr->Option (List Bool)
 | 0,_,_,_,_,_,_=>none
 | n + 1,g,Γ,i,ts,vb,es=>match es with
  | []=>some []
  | e::es=>if rg e then((hE n g Γ i ts vb e).bind HV.Ea).bind λx=>(FF n g Γ i ts vb es).map (x:: ·) else none
end
noncomputable def hS (n:Nat) (g:G) (Γ:Gm) (i:Nat) (ts:List (Str×Bool)):List Stmt->Option Bool
 | [.Return (some e) _]=>(hE n g Γ i ts none e).bind HV.Ea
 | [.Assign [.Name x _] e _,.Return (some r) _]=>if Γ.names.lookup x==some .local&& !hJ e then(ez Γ x).bind λj=>if j==i then none else(hE n g Γ i ts none e).bind λb=>(hE n g Γ i ts (some (j,b)) r).bind HV.Ea else none
 | _=>none
noncomputable def y9 (n:Nat) (g:G) (Γ:Gm) (dp fF:Bool):Stmt->Option T
 | .Try body [.ExceptHandler (some (.Name t _)) (some e) (b0::gT) _] [] [] _=>
  if Γ.names.lookup e==some .local&&tF (Γ.names.lookup t)&&cw t&& !(t==("ValueError":Str))&&g.xs.any (λx=>x.2.lookup t==some true) then(ez Γ e).bind λi=>(AZ n g Γ dp fF body).bind λb=>
   some (.tr b (g.xs.map λx=>if x.2.lookup t==some true then hS n g Γ i x.2 (b0::gT) else none))
  else none
 | _=>none
noncomputable def B1 (n:Nat) (g:G) (Γ:Gm) (dp fF:Bool):List Stmt->Option Ts
 | []=>some .nil
 | st::kr=>((y9 n g Γ dp fF st).or (cS n g Γ dp fF st)).bind λt=>(B1 n g Γ dp fF kr).bind λts=>some (.cons t ts)
section
variable {g:G} {xv:Nat->Value} {CX:iX} {k:Nat} {F:FT} {X:Cx} {Φ:Fm} {Γ:Gm} {W:Addr->Prop}
theorem y7:bootBuiltins "ValueError"=some (.type "ValueError"):=by decide +kernel
noncomputable def hV (H:Hp) (v:V):HV->Prop
 | .b x=>v= .bl x
 | .l xs=>∃p,v= .ref p/\H p=some (.lst (xs.map V.bl))
theorem hV.same {H H':Hp} {v:V} {x:HV} (h:hV H v x) (s:bj H H'):hV H' v x:=by
 cases x with
 | b x=>exact h
 | l xs=>obtain⟨p,e,h⟩:=h;exact⟨p,e,s _ _ h⟩
noncomputable def hG (i:Nat) (a:Addr) (vb:Option (Nat×HV)) (σ:L2.St) (H:Hp):Prop:=σ[i]?=some (some (.ref a))/\∀j x,vb=some (j,x)->∃v,σ[j]?=some (some v)/\hV H v x
theorem hG.same {i:Nat} {a:Addr} {vb:Option (Nat×HV)} {σ:L2.St} {H H':Hp} (h:hG i a vb σ H) (s:bj H H'):hG i a vb σ H':=⟨h.1,λj x e=>by
 obtain⟨v,h1,h2⟩:=h.2 j x e;exact⟨v,h1,h2.same s⟩⟩
noncomputable def tH (i:Nat) (a:Addr) (vb:Option (Nat×HV)) (x:HV):TE:=λσ H Q=>hG i a vb σ H/\∀v H',bj H H'->hV H' v x->Q v H'
theorem eh {o:Option HV} {x:Bool} (h:o.bind HV.Ea=some x):o=some (.b x):=by
 cases o with
 | none=>cases h
 | some v=>
  cases v with
  | b y=>cases h;rfl
  | l y=>cases h
theorem mH {o:Option HV} {x:List Bool} (h:o.bind HV.Gu=some x):o=some (.l x):=by
 cases o with
 | none=>cases h
 | some v=>
  cases v with
  | b y=>cases h
  | l y=>cases h;rfl
theorem qo {K:Frag} {A:Addr->Prop} {H:Hp}:∀xs:List Bool,ak K A H (xs.map V.bl) (xs.map Dt.bl)
 | []=>ak.nil
 | _::xs=>ak.cons RV.jS (qo xs)
theorem HC (n:Nat) (h:n<=1000):n<=sizeLine:=by have:=sizeLine_eq;lia
mutual
theorem nW {C a:Addr} {o:Obj} {i:Nat} {ts:List (Str×Bool)} (gx:GX g Γ X) (xr:lO X C a o) (xk:Ew X.K X.mg C ts):∀(n:Nat) (vb:Option (Nat×HV)) (e:Expr) (b:HV),hE n g Γ i ts vb e=some b->PE (X.hand a o) e (tH i a vb b)
 | 0,vb,e,b,h=>by simp[hE] at h
 | n + 1,vb,e,b,h=>by
  have ih:=nW (i:=i) gx xr xk n vb;have var:∀{x:Str} {j:Nat} {p:Pos},slot Γ x=some j->PE (X.hand a o) (.Name x p) (iV j):=λ {x j p} hs=>by obtain⟨v1,v2,v3⟩:=jl hs;obtain⟨n1,n2,n3⟩:=bx v2;exact qi (X:=X.hand a o) (by rw[gx.N];exact v3) (gx.vis x v1) n1 n2
  unfold hE at h;split at h
  ·split at h
   ·split at h
    ·rename_i hc;simp only[Pw] at hc;obtain⟨⟨⟨⟨⟨h1,h2⟩,h3⟩,h4⟩,h5⟩,h6⟩:=hc;have e1:=P6 h1;subst e1;obtain⟨n1,n2,n3⟩:=bx h6;obtain⟨z,hz,rfl⟩:=PX.mp h;obtain⟨c,hc,k1,_⟩:=xk.2.2 _ _ hz;rcases hc with ⟨m1,D,rfl⟩ | ⟨m1,rfl,rfl⟩
     ·intro pins s σ H Q I q;exact wO xr xk.1 xk.2.1 (gx.gl _ h2) (gx.bl _ (gY h3)) (var (P6 h4)) (sf (X:=X.hand a o) (v:= .ref D) (gx.gl _ h5) m1 rfl n1) (λu r=>r) k1 pins s σ H Q I ⟨q.1.1,q.2 _ _ (bj.refl _) rfl⟩
     ·intro pins s σ H Q I q;exact wO xr xk.1 xk.2.1 (gx.gl _ h2) (gx.bl _ (gY h3)) (var (P6 h4)) (r8 (X:=X.hand a o) (v:= .ty "ValueError") (gx.gl _ h5) m1 y7 rfl (by decide) n1) (λu r=>r) k1 pins s σ H Q I ⟨q.1.1,q.2 _ _ (bj.refl _) rfl⟩
    ·cases h
   ·cases h
  ·obtain⟨v,h1,h⟩:=Pt.mp h;split at h
   ·rename_i hs;cases h;intro pins s σ H Q I q;obtain⟨u,k1,k2⟩:=q.1.2 v.1 v.2 h1;exact var (P6 hs) pins s σ H Q I ⟨_,k1,q.2 _ _ (bj.refl _) k2⟩
   ·cases h
  ·split at h
   ·cases h;intro pins s σ H Q I q;exact Bj pins s σ H Q I (q.2 _ _ (bj.refl _) rfl)
   ·cases h
  ·split at h
   ·rename_i es _ hl;obtain⟨xs,h1,rfl⟩:=PX.mp h;have he:=vS (i:=i) gx xr xk n vb es xs h1;intro pins s σ H Q I q;refine wQ he.1 pins s σ H Q I ⟨q.1,λvs H' sm ev=>⟨?_,λp hp=>?_⟩⟩
    ·rw[ev,PL,he.2];exact HC _ hl
    ·exact q.2 _ _ (sm.trans (Mx.b9 hp _)) ⟨p,rfl,by rw[aM,ev]⟩
   ·cases h
  ·split at h
   ·obtain⟨x,h1,h⟩:=Pt.mp h;obtain⟨y,h2,h⟩:=Pt.mp h;split at h
    ·rename_i hl;cases h;intro pins s σ H Q I q;refine Bl wJ (ih _ _ (mH h1)) (ih _ _ (mH h2)) pins s σ H Q I ⟨q.1,λv H1 s1 ⟨p,e1,k1⟩=>⟨q.1.same s1,λv2 H2 s2 ⟨p2,e2,k2⟩=>?_⟩⟩;refine⟨p,p2,_,_,e1,e2,s2 _ _ k1,k2,by rw[PL,PL];exact HC _ hl,λr hr=>?_⟩;exact q.2 _ _ ((s1.trans s2).trans (Mx.b9 hr _)) ⟨r,rfl,by rw[aM,Qs]⟩
    ·cases h
   ·cases h
  ·split at h
   ·obtain⟨x,h1,h⟩:=Pt.mp h;obtain⟨y,h2,h⟩:=Pt.mp h;split at h
    ·rename_i z hz;cases h;intro pins s σ H Q I q;refine se (qg .Eq (show (X.hand a o).A.units + 150 < cLine from gx.un)) (ih _ _ (mH h1)) (ih _ _ (mH h2)) (wF _ (by decide) (by decide)) pins s σ H Q I ⟨q.1,λv H1 s1 ⟨p,e1,k1⟩=>⟨q.1.same s1,λv2 H2 s2 ⟨p2,e2,k2⟩=>?_⟩⟩;subst e1 e2;exact⟨_,_,z,RV.c7 (s2 _ _ k1) (λz=>z) (qo x),RV.c7 k2 (λz=>z) (qo y),hz,q.2 _ _ (s1.trans s2) rfl⟩
    ·cases h
   ·cases h
  ·split at h
   ·obtain⟨x,h1,h⟩:=Pt.mp h;cases h;intro pins s σ H Q I q;exact wR (ih _ _ (eh h1)) pins s σ H Q I ⟨q.1,λv H' sm hv=>⟨_,hv,q.2 _ _ sm rfl⟩⟩
   ·cases h
  ·split at h
   ·intro pins s σ H Q I q;exact wU (ih _ _ h) pins s σ H Q I q
   ·rename_i op p es0 a1 b1 es;obtain⟨x,h1,h⟩:=Pt.mp h;obtain⟨y,h2,h⟩:=Pt.mp h;cases h;have g2:=ih _ _ (eh h2);intro pins s σ H Q I q;cases op with
    | And=>
     refine wN (ih _ _ (eh h1)) g2 pins s σ H Q I ⟨q.1,λv H' sm hv=>⟨_,hv,?_⟩⟩;cases x with
     | true=>exact⟨q.1.same sm,λv2 H2 s2 h2=>q.2 _ _ (sm.trans s2) h2⟩
     | false=>exact q.2 _ _ sm rfl
    | Or=>
     refine Bm (ih _ _ (eh h1)) g2 pins s σ H Q I ⟨q.1,λv H' sm hv=>⟨_,hv,?_⟩⟩;cases x with
     | true=>exact q.2 _ _ sm rfl
     | false=>exact⟨q.1.same sm,λv2 H2 s2 h2=>q.2 _ _ (sm.trans s2) h2⟩
   ·cases h
  ·cases h
theorem vS {C a:Addr} {o:Obj} {i:Nat} {ts:List (Str×Bool)} (gx:GX g Γ X) (xr:lO X C a o) (xk:Ew X.K X.mg C ts):∀(n:Nat) (vb:Option (Nat×HV)) (es:List Expr) (xs:List Bool),FF n g Γ i ts vb es=some xs->PA (X.hand a o) es (λσ H Q=>hG i a vb σ H/\∀vs H',bj H H'->vs=xs.map V.bl->Q vs H')/\xs.length=es.length
 | 0,vb,es,xs,h=>by simp[FF] at h
 | n + 1,vb,es,xs,h=>by
  unfold FF at h;split at h
  ·cases h;exact⟨λpos pins s σ H Q I q=>eW pos pins s σ H Q I (q.2 _ _ (bj.refl _) rfl),rfl⟩
  ·rename_i e es;split at h
   ·rename_i hd;obtain⟨x,h1,h⟩:=Pt.mp h;obtain⟨ys,h2,rfl⟩:=PX.mp h;obtain⟨k1,k2⟩:=vS (i:=i) gx xr xk n vb es ys h2;refine⟨λpos pins s σ H Q I q=>bZ (nW gx xr xk n vb e _ (eh h1)) k1 (cA hd _ _) pos pins s σ H Q I ⟨q.1,λv H1 s1 hv=>⟨q.1.same s1,λvs H2 s2 ev=>q.2 _ _ (s1.trans s2) (by rw[ev,show v= .bl x from hv];rfl)⟩⟩,by rw[P0,P0,k2]⟩
   ·cases h
end
theorem FH {C a:Addr} {o:Obj} {i n:Nat} {ts:List (Str×Bool)} {kr:List Stmt} {b:Bool} (gx:GX g Γ X) (xr:lO X C a o) (xk:Ew X.K X.mg C ts) (h:hS n g Γ i ts kr=some b):
  nF (X.hand a o) kr (λD σ H=>σ[i]?=some (some (.ref a))/\σ.length=X.N.length/\∀H',bj H H'->D.rt (.bl b) H'):=by
 unfold hS at h;split at h
 ·intro pins s σ H D I q;exact sD (j3 (nW gx xr xk n none _ _ (eh h))) pins s σ H D I ⟨⟨q.1,λj b z=>by cases z⟩,λv H' sm hv=>by rw[show v= .bl b from hv];exact q.2.2 _ sm⟩
 ·split at h
  ·rename_i x xp e ap r rp hx;rw[Pw] at hx;obtain⟨j,h1,h⟩:=Pt.mp h;split at h
   ·cases h
   ·rename_i hj;obtain⟨v,h2,h3⟩:=Pt.mp h;obtain⟨a1,a2,a3⟩:=eZ h1;obtain⟨l1,l2⟩:=gx.loc x a1;have NS:j≠i:=λz=>hj (by rw[z];exact beq_self_eq_true _)
    have hN:(X.hand a o).N[j]?=some x:=by show X.N[j]?=_;rw[gx.N];exact a3
    have Nv:(X.hand a o).N.Nodup:=by show X.N.Nodup;rw[gx.N];exact gx.nd
    intro pins s σ H D I q;refine oK (ql (X:=X.hand a o) Nv hN l1 (nW gx xr xk n none _ v h2) (kc (by simpa using hx.2) _ _ _) l2) (sD (j3 (nW gx xr xk n (some (j,v)) _ _ (eh h3)))) pins s σ H D I ⟨⟨q.1,λj b z=>by cases z⟩,λu H1 s1 hu=>⟨⟨?_,λj' b' z=>?_⟩,λw H2 s2 hw=>by rw[show w= .bl b from hw];exact q.2.2 _ (s1.trans s2)⟩⟩
    ·rw[PZ NS];exact q.1
    ·cases z;have:j < σ.length:=by rw[q.2.1];exact(Pz.mp hN).1
     exact⟨u,by simp[this],hu⟩
  ·cases h
 ·cases h
theorem GX.cg {Γ:Gm} {X:Cx} {E:Value->Shared->Prop} (gx:GX g Γ X):GX g Γ (X.cg E):=⟨gx.N,gx.nd,gx.vis,gx.loc,gx.gl,gx.fre,gx.calm,gx.un,gx.con,gx.bl⟩
theorem ei {X:Cx} {E:Value->Shared->Prop} {E':XK} {e:Value} {s':Shared} (h:gV (X.cg E) E' e s'):gV X E' e s':=by obtain⟨σ,H',a,cls,e1,I,f,q⟩:=h;exact⟨σ,H',a,cls,e1,I.dB,f,q⟩
theorem o8 {X:Cx} {E:Value->Shared->Prop} {E':XK} {e:Value} {s':Shared} (h:gV X E' e s'):gV (X.cg E) E' e s':=by obtain⟨σ,H',a,cls,e1,I,f,q⟩:=h;exact⟨σ,H',a,cls,e1,I.cg E,f,q⟩
theorem Ly {dp fF:Bool} {n:Nat} {st:Stmt} {t:T} (EI:X.env.scope.names=Γ.names) (gx:GX g Γ X) (hX:HX g xv CX k F Φ X) (hd:dp=false->Φ.d0=none) (h:y9 n g Γ dp fF st=some t):Ib X st (iA Φ Γ F W fF t):=by
 unfold y9 at h;split at h
 ·rename_i body t tp e b0 gT hp pos;split at h
  ·rename_i hc;simp only[Pw] at hc;obtain⟨⟨⟨⟨c1,c2⟩,c3⟩,c4⟩,c5⟩:=hc;obtain⟨i,h1,h⟩:=Pt.mp h;obtain⟨b,h2,h⟩:=Pt.mp h;cases h;obtain⟨a1,a2,a3⟩:=eZ h1;obtain⟨l1,l2⟩:=gx.loc e a1;obtain⟨n1,n2,n3⟩:=bx c3;intro s σ H D I q;obtain⟨o,ρ,S,oi,er,q⟩:=q;unfold ex at q;obtain⟨hS,q⟩:=aE q;have NA:S=none:=by simpa using hS
   have uz:∀z,Φ.d0≠some z:=λz hz=>by obtain⟨ns,e1,_⟩:=er.drw z (oi.d z hz);rw[NA] at e1;cases e1
   generalize htbl:(g.xs.map λx=>if x.2.lookup t==some true then Rx.hS n g Γ i x.2 (b0::gT) else none)=uC at q
   let Φ':Fm:=⟨Φ.K,Φ.H0,Φ.d0,λkk=>∃v,uC[kk]?=some (some v)/\∀H',aX (λb=>Φ.d0=some b) Φ.H0 H'->D.rt (.bl v) H',Φ.P,Φ.w⟩
   have X1:HX g xv CX k F Φ' (X.cg (gV X (iD Φ' xv))):=⟨hX.K,hX.P,hX.w,hX.fx,hX.room,hX.cx,⟨hX.st.pn,hX.st.st⟩,λe s' z=>ei z,hX.xk⟩;have own:PassesOwn (model X.prog X.w) X.A X.env (gV X (iD Φ' xv)):=nv (X:=X.cg (gV X (iD Φ' xv))) (E:=iD Φ' xv) ⟨hX.st.pn,hX.st.st⟩ (λe s' z=>ei z) λe s' z=>o8 z
   have B:=(oR (dp:=dp) (fF:=fF) (W:=W) n Γ _ Φ' gx.cg X1 hd own).ss _ _ h2;have gg:t≠"ValueError":=jU (by simpa using c4);obtain⟨y,Oo,Gd⟩:=Qk.mp c5;obtain⟨ky,NX⟩:=List.mem_iff_getElem?.mp Oo;obtain⟨Cy,_,_,yk⟩:=hX.xk ky y.1 y.2 NX;obtain⟨c,hc,_⟩:=yk.2.2 t true (P6 Gd);have uy:X.mg t=some c:=hc.elim (λz=>z.1) λz=>absurd z.2.1 gg
   have hle:X.env.scope.names.lookup e=some .local:=by rw[EI];exact P6 c1
   refine AG (X:=X) (E:=iD Φ' xv) (c:=c) (tp:=tp) (hpos:=hp) (pos:=pos) hX.st (λz=>I.ok.hd z) (gx.gl _ c2) uy n1 (gx.N▸gx.nd) (by rw[gx.N];exact a3) hle B (λcls H' z=>?_) I ⟨o,ρ,S,⟨oi.w,oi.d⟩,er.re rfl,?_⟩
   ·obtain⟨kk,rfl,⟨v,hv,Oa⟩,Cp⟩:=z;rw[<-htbl,P1] at hv;obtain⟨⟨x,ts⟩,hx,hv⟩:=PX.mp hv;split at hv
    ·rename_i hl;obtain⟨C,e1,e2,xk⟩:=hX.xk kk x ts hx;obtain⟨c',kD,_,kx⟩:=xk.2.2 t true (P6 hl);have:c'=c:=by
      have h9:X.mg t=some c':=kD.elim (λz=>z.1) λz=>absurd z.2.1 gg
      rw[uy] at h9;exact(Option.some.inj h9).symm
     subst this;exact⟨C,e1,kx rfl,λa o xr=>⟨_,FH gx xr xk hv,λσ s1 s2=>⟨s1,s2,λH2 sm=>Oa H2 (Cp.trans (aX.of_same sm))⟩⟩⟩
    ·cases hv
   ·cases he:aT F b ρ S with
    | ok p=>
     rw[he] at q;have q:bT Φ Γ W fF o H D p:=q;show bT Φ' Γ W fF o H D p;unfold bT at q ⊢;cases i7:p.1 with
     | next=>rw[i7] at q;intro σ' H' so;exact q σ' H' ⟨so.ex.imp λo' z=>⟨⟨z.1.w,z.1.d⟩,ER.re (Φ:=Φ') (Φ':=Φ) rfl z.2.1,z.2.2⟩,so.ext,so.al⟩
     | brk=>rw[i7] at q;intro σ' H' so;exact q σ' H' ⟨so.ex.imp λo' z=>⟨⟨z.1.w,z.1.d⟩,ER.re (Φ:=Φ') (Φ':=Φ) rfl z.2.1,z.2.2⟩,so.ext,so.al⟩
     | cnt=>rw[i7] at q;intro σ' H' so;exact q σ' H' ⟨so.ex.imp λo' z=>⟨⟨z.1.w,z.1.d⟩,ER.re (Φ:=Φ') (Φ':=Φ) rfl z.2.1,z.2.2⟩,so.ext,so.al⟩
     | ret d=>rw[i7] at q;intro v H' ro;exact q v H' ⟨ro.val,ro.ent,ro.drw,ro.dY⟩
    | ex kk=>
     rw[he] at q;simp only at q;split at q
     ·rename_i v hv;exact⟨v,hv,λH' Cp=>q _ _ ⟨RV.jS,Cp,λa ha=>absurd ha (uz a),λ_ ds z=>by cases z⟩⟩
     ·exact q.elim
    | bad=>rw[he] at q;exact q.elim
  ·cases h
 ·cases h
theorem ya {st:Stmt} {kr:List Stmt} {t:T} {ts:Ts} {fF:Bool} (h1:Ib X st (iA Φ Γ F W fF t)) (h2:lL X kr (iW Φ Γ F W fF ts)):lL X (st::kr) (iW Φ Γ F W fF (.cons t ts)):=λs σ H D I q=>uc h1 h2 s σ H D I (by
 obtain⟨o,ρ,S,oi,er,q⟩:=q;unfold aT at q;rw[aa] at q;refine⟨o,ρ,S,oi,er,ag q λp _ q=>?_⟩;unfold bT;cases hp:p.1 with
 | next=>rw[hp] at q;intro σ1 H1 so;obtain⟨⟨o1,KF,az,JH⟩,e1,a1⟩:=so;exact⟨o1,p.2.1,p.2.2,KF,az,ag q λp2 _ q=>bT.go e1 JH a1 (λ_ _ z=>z) (λ_ _ z=>z) (λ_ _ z=>z) (λ_ _ z=>z) q⟩
 | brk=>rw[hp] at q;unfold mR bT at q;exact q
 | cnt=>rw[hp] at q;unfold mR bT at q;exact q
 | ret d=>rw[hp] at q;unfold mR bT at q;exact q)
theorem uZ {dp fF:Bool} {n:Nat} (EI:X.env.scope.names=Γ.names) (gx:GX g Γ X) (hX:HX g xv CX k F Φ X) (hd:dp=false->Φ.d0=none) (own:PassesOwn (model X.prog X.w) X.A X.env X.xe):∀{kr:List Stmt} {ts:Ts},B1 n g Γ dp fF kr=some ts->lL X kr (iW Φ Γ F W fF ts)
 | [],ts,h=>by cases h;exact Am yb
 | st::kr,ts,h=>by
  obtain⟨t,h1,h⟩:=Pt.mp h;obtain⟨nr,h2,h⟩:=Pt.mp h;cases h;refine ya ?_ (uZ EI gx hX hd own h2);cases ht:y9 n g Γ dp fF st with
  | none=>rw[ht] at h1;exact DB ((oR (dp:=dp) (fF:=fF) (W:=W) n Γ X Φ gx hX hd own).s _ _ h1)
  | some t'=>rw[ht] at h1;cases h1;exact Ly EI gx hX hd ht
theorem oJ {X:Cx} {E:Value->Shared->Prop} {st:List Stmt} {t:TS} (h:lL (X.cg E) st t) (hx:∀e s',E e s'->X.xe e s'):lL X st t:=λs σ H D I hw=>
 wpAny_mono (h s σ H D (I.cg _) hw) (λ_ _ q=>q.dB) λe s' z=>hx e s' z
end
section
variable {P:Program} {w:World} {K:Frag} {mg:Str->Option Value} {base:Heap} {g:G} {xv:Nat->Value} {F:FT} {k:Nat}
structure MG (g:G) (mg:Str->Option Value):Prop where
 con:∀x d,g.cons.lookup x=some d->∃u,nC d=true/\mg x=some u/\RelV (mV d) u
 bl:∀x∈g.bls,mg x=none
noncomputable def XG (g:G) (K:Frag) (mg:Str->Option Value) (xv:Nat->Value):Prop:=∀k x ts,g.xs[k]?=some (x,ts)->∃C,xv k= .ref C/\mg x=some (.ref C)/\Ew K mg C ts
noncomputable def ue (bf:Bool) (args:List Dt) (n ps:Nat):ai:=(if bf then[none] else[])++args.map some++List.replicate (n - ps) none
theorem j4 {bf:Bool} {args:List Dt} {n ps i:Nat} {d:Dt} (h:(ue bf args n ps)[i]?=some (some d)):∃j,args[j]?=some d/\i=j + (if bf then 1 else 0):=by
 unfold ue at h;have tail:∀{i:Nat},(args.map some++List.replicate (n - ps) (none:Option Dt))[i]?=some (some d)->args[i]?=some d:=λ {i} h=>by
  by_cases hi:i < args.length
  ·rw[Qp (by simpa using hi),P1] at h;cases e:args[i]? with
   | none=>rw[e] at h;cases h
   | some a=>rw[e] at h;cases h;rfl
  ·rw[Qq (by simpa using hi),List.getElem?_replicate] at h;split at h <;> cases h
 cases bf with
 | false=>simp only[Bool.false_eq_true,if_false,List.nil_append] at h;exact⟨i,tail h,rfl⟩
 | true=>
  simp only[if_true,PV] at h;cases i with
  | zero=>cases h
  | succ i=>have h:(args.map some++List.replicate (n - ps) (none:Option Dt))[i]?=some (some d):=h;exact⟨i,tail h,rfl⟩
theorem lC {N:List Str} {vs:List V} {i:Nat} {v:V} (h:vs[i]?=some v):(start N vs)[i]?=some (some v):=by unfold L2.start;have hi:=(Pz.mp h).1;rw[Qp (by simpa using hi),P1,h];rfl
theorem vy {M:List Bool} {δ:Option Nat} {names:List (Str×NameKind)} {N:List Str} {np:Nat} {bf:Bool} {vs uD:List V} {H:Hp} {W:Addr->Prop} {dr:Option Addr} {args:List Dt} {S:Sx} {Ek:Nat->Prop} {κ:Option Nat} {P:Program} {w:World}
  (hM:∀i,i < np->M[i]?≠some true) (hδ:bf=true->δ=some 0) (Ph:np<=N.length) (hl:vs.length=np)
  (hd:if bf=true then∃(a:Addr) (ns:List Int),vs= .ref a::uD/\dr=some a/\W a/\S=some ns/\H a=some (.lst (ns.map V.int)) else vs=uD/\dr=none/\S=none)
  (ha:ak K W H uD args) (hw:∀a,W a->∃x,H a=some x):ER ⟨K,H,dr,Ek,P,w⟩ ⟨names,N,M,δ,κ⟩ ⟨W,W,dr⟩ (ue bf args N.length np) S (start N vs) H/\args.length + (if bf then 1 else 0)=np:=by
 have rh:=ha.length;have FJ:args.length + (if bf then 1 else 0)=np:=by
  cases bf with
  | false=>
   simp only[Bool.false_eq_true,if_false] at hd ⊢;obtain⟨e,_,_⟩:=hd;subst e
   lia
  | true=>
   simp only[if_true] at hd ⊢;obtain⟨a,ns,e,_⟩:=hd;rw[e] at hl;simp at hl
   lia
 refine⟨⟨?_,λa z=>z,λa z=>?_,hw,λi d h=>?_,λi ks vs h=>?_,λi j a d e hm F4 h1 h2 _ _=>?_,λa z=>?_,λz=>?_,λi a hi z=>?_,λa z=> .inl z,aX.refl⟩,FJ⟩
 ·unfold L2.start ue;simp only[PY,PL,List.length_replicate];cases bf <;> simp at FJ ⊢ <;> lia
 ·cases bf with
  | false=>simp only[Bool.false_eq_true,if_false] at hd;rw[hd.2.1] at z;cases z
  | true=>simp only[if_true] at hd;obtain⟨b,ns,_,e,hb,_⟩:=hd;rw[e] at z;cases z;exact hb
 ·obtain⟨j,hj,rfl⟩:=j4 h;obtain⟨v,h1,h2⟩:=ha.getD hj;have NT:=(Pz.mp hj).1;have hm:et ⟨names,N,M,δ,κ⟩ (j + if bf=true then 1 else 0)=false:=by unfold et;have:=hM (j + if bf=true then 1 else 0) (by lia);simpa using this
  refine⟨v,lC ?_,?_⟩
  ·cases bf with
   | false=>simp only[Bool.false_eq_true,if_false] at hd ⊢;rw[hd.1];exact h1
   | true=>simp only[if_true] at hd ⊢;obtain⟨b,ns,e,_⟩:=hd;rw[e];simpa using h1
  ·rw[hm,if_neg (by simp)];exact h2
 ·obtain⟨j,hj,rfl⟩:=j4 h;obtain⟨v,h1,h2⟩:=ha.getD hj;cases h2.nd
 ·obtain⟨j1,hj,rfl⟩:=j4 h1;have NT:=(Pz.mp hj).1;exfalso;unfold et at hm;exact hM (j1 + if bf=true then 1 else 0) (by lia) (P6 hm)
 ·cases bf with
  | false=>simp only[Bool.false_eq_true,if_false] at hd;rw[hd.2.1] at z;cases z
  | true=>simp only[if_true] at hd;obtain⟨b,ns,_,e,_,e2,e3⟩:=hd;rw[e] at z;cases z;exact⟨ns,e2,e3⟩
 ·cases bf with
  | false=>simp only[Bool.false_eq_true,if_false] at hd;exact hd.2.2
  | true=>simp only[if_true] at hd;obtain⟨b,ns,_,e,_⟩:=hd;rw[e] at z;cases z
 ·cases bf with
  | false=>simp only[Bool.false_eq_true,if_false] at hd;rw[hd.2.1] at z;cases z
  | true=>simp only[if_true] at hd;obtain⟨b,ns,e1,e,_⟩:=hd;rw[e] at z;cases z;have hi:δ=some i:=hi;rw[hδ rfl] at hi;cases hi;exact lC (by rw[e1];rfl)
theorem FB {CX:iX} {N ps:List Str} {sc:Scope} {M:List Bool} {δ κ:Option Nat} {qual:Str} {f:Addr} {eI:Value} {A:Around} {outer:List Env} {s:Shared} {H:Hp} {E:XK} (m:MG g mg) (S:dZ N ps sc) (hr:gk k (A.deeper (envOfC qual sc s.heap.objs.size f eI))):
  GX g ⟨sc.names,N,M,δ,κ⟩ (jy CX P w K mg base N qual sc f eI A outer s H E) where
 N:=rfl
 nd:=S.nd
 vis:=λx h=>by
  have h:xV (sc.names.lookup x)=true:=h;show Eu sc x;unfold Eu;cases hl:sc.names.lookup x with
  | none=>rw[hl] at h;cases h
  | some kk=>
   rw[hl] at h;cases kk with
   | «local»=>exact .inl rfl
   | cell=>exact .inr (.inl rfl)
   | free=>exact .inr (.inr rfl)
   | globalExplicit=>cases h
   | globalImplicit=>cases h
 loc:=λx h=>by
  have h:wA (sc.names.lookup x)=true:=h;refine⟨?_,.inl rfl⟩;show L2.Loc sc x;unfold L2.Loc;cases hl:sc.names.lookup x with
  | none=>rw[hl] at h;cases h
  | some kk=>
   rw[hl] at h;cases kk with
   | «local»=>exact .inl rfl
   | cell=>exact .inr rfl
   | free=>cases h
   | globalExplicit=>cases h
   | globalImplicit=>cases h
 gl:=λx h=>by
  have h:tF (sc.names.lookup x)=true:=h;show sc.names.lookup x=_;cases hl:sc.names.lookup x with
  | none=>rw[hl] at h;cases h
  | some kk=>
   rw[hl] at h;cases kk with
   | globalImplicit=>rfl
   | «local»=>cases h
   | cell=>cases h
   | free=>cases h
   | globalExplicit=>cases h
 fre:=λx h=>h
 calm:=rfl
 un:=by have:=hr.un;show (A.deeper (envOfC qual sc s.heap.objs.size f eI)).units + 150 < cLine;lia
 con:=m.con
 bl:=m.bl
theorem kX {name qual:Str} {params:Arguments} {body:List Stmt} {scope:Scope} {dV kV doc pm eI ct oc:Value} {an od:Option Addr} {rY:Array (Option Value)} {f:Addr} {N ps:List Str} {M:List Bool} {δ κ:Option Nat} {bf fF:Bool} {n m:Nat} {ts:Ts}
  (lk:K.lookup f=some ⟨oc,od,.func (PySem.W.fnOf name qual params body scope dV kV doc pm an eI ct),rY⟩) (ux:PySem.W.codeIn K eI qual=true) (S:dZ N ps scope) (hm:MG g mg) (zC:XG g K mg xv) (fx:FX g xv (ny P w) P w K mg base m k F)
  (hM:∀i,i < ps.length->M[i]?≠some true) (hδ:bf=true->δ=some 0) (hc:B1 n g ⟨scope.names,N,M,δ,κ⟩ bf fF body=some ts):
  gW P w K mg base (ny P w) (k + 1) f (PySem.W.fnOf name qual params body scope dV kV doc pm an eI ct) ps (Mu K xv (fN F ⟨ps.length,N.length,bf,ts⟩) ps.length fF bf):=by
 have k7:ps.length<=N.length:=by have:=congrArg List.length S.pre;rw[List.length_take] at this;lia
 refine Cc lk ux S (λvs H Q E h=>h.1) λA outer s H vs Q E hr h=>?_
 obtain⟨hl,W,dr,args,S0,uD,hd,ha,hw,h⟩:=h;have er:=vy (K:=K) (names:=scope.names) (N:=N) (κ:=κ) (P:=P) (w:=w) (Ek:=λkk=>∀H',aX (λb=>dr=some b) H H'->E (xv kk) none H') hM hδ k7 hl hd ha hw;obtain⟨er,uw⟩:=er;generalize hXX:jy (ny P w) P w K mg base N qual scope f eI A outer s H E=X;generalize hΦ:(⟨K,H,dr,λkk=>∀H',aX (λb=>dr=some b) H H'->E (xv kk) none H',P,w⟩:Fm)=Φ at er;have hΦE:∀v a H',iD Φ xv v a H'->E v none H':=λv a H' z=>by obtain⟨kk,rfl,z1,z2⟩:=z;subst hΦ;exact z1 H' z2
 have OT:∀e s',gV X (iD Φ xv) e s'->X.xe e s':=λe s' z=>by subst hXX;obtain⟨σ,H',a,cls,e1,I,fl,q⟩:=z;exact Ep ⟨σ,H',a,cls,e1,I,fl,hΦE _ _ _ q⟩
 have st:dC X:=by subst hXX;exact xG
 have gx:GX g ⟨scope.names,N,M,δ,κ⟩ X:=by subst hXX;exact FB (P:=P) (w:=w) (K:=K) (base:=base) (CX:=ny P w) (M:=M) (δ:=δ) (outer:=outer) (H:=H) (E:=E) hm S hr
 have Mw:dC (X.cg (gV X (iD Φ xv))):=⟨st.pn,st.st⟩;have hX:HX g xv (ny P w) k F Φ (X.cg (gV X (iD Φ xv))):=by
  refine⟨?_,?_,?_,⟨m,?_⟩,?_,?_,Mw,λe s' z=>ei z,?_⟩
  ·subst hΦ hXX;rfl
  ·subst hΦ hXX;rfl
  ·subst hΦ hXX;rfl
  ·subst hXX;exact fx
  ·subst hXX;exact hr
  ·subst hXX;rfl
  ·subst hXX;exact zC
 have own:PassesOwn (model (X.cg (gV X (iD Φ xv))).prog (X.cg (gV X (iD Φ xv))).w) (X.cg (gV X (iD Φ xv))).A (X.cg (gV X (iD Φ xv))).env (X.cg (gV X (iD Φ xv))).xe:=nv (E:=iD Φ xv) Mw (λe s' z=>ei z) λe s' z=>o8 z
 have d0:Φ.d0=dr:=by subst hΦ;rfl
 have SS:=uZ (dp:=bf) (fF:=fF) (W:=W) (n:=n) (Γ:=⟨scope.names,N,M,δ,κ⟩) (by subst hXX;rfl) gx.cg hX (λz=>by
  rw[d0];subst z;simp only[Bool.false_eq_true,if_false] at hd;exact hd.2.1) own hc
 refine⟨_,oJ SS OT,⟨W,W,dr⟩,_,S0,⟨rfl,λa z=>by rw[d0] at z;exact z⟩,er,?_⟩;subst hΦ;unfold fN at h;simp only at h;rw[if_pos uw] at h;have h:(match (aT F ts (ue bf args N.length ps.length) S0).bind (λp=>match p.1 with
   | .next=>R.ok (Dt.aP,p.2.2)
   | .ret d=>R.ok (d,p.2.2)
   | _=>R.bad) with
  | .ok p=>∀v H',FO K W dr fF H p.1 p.2 v H'->Q v H'
  | .ex kk=>∀H',aX (λb=>dr=some b) H H'->E (xv kk) none H'
  | .bad=>False):=h
 cases he:aT F ts (ue bf args N.length ps.length) S0 with
 | ok p=>
  rw[he] at h;simp only[R.ah] at h;show bT _ _ _ _ _ _ _ p;unfold bT;cases hp:p.1 with
  | next=>rw[hp] at h;intro σ' H' so;obtain⟨o',oi,B9,_⟩:=so.ex;exact h _ _ ⟨B9.ent,RV.fX,λa z=>B9.drw a (oi.d a z),λ_ ds e=>by cases e⟩
  | ret d=>rw[hp] at h;intro v H' ro;exact h _ _ ⟨ro.ent,ro.val,ro.drw,ro.dY⟩
  | brk=>rw[hp] at h;exact h.elim
  | cnt=>rw[hp] at h;exact h.elim
 | ex kk=>rw[he] at h;exact h
 | bad=>rw[he] at h;exact h.elim
end
structure uF (g:G) (K:Frag) (mg:Str->Option Value) (e:Str×Nat×List Dt×Bool) (idx:Nat) (fn:Fn):Prop where
 ex:∃(fa:Addr) (ps N:List Str) (M:List Bool) (δ κ:Option Nat) (n:Nat) (oc:Value) (od an:Option Addr) (rY:Array (Option Value)) (params:Arguments) (body:List Stmt) (scope:Scope) (dV kV doc pm eI ct:Value),
  K.lookup fa=some ⟨oc,od,.func (PySem.W.fnOf e.1 e.1 params body scope dV kV doc pm an eI ct),rY⟩/\PySem.W.codeIn K eI e.1=true/\PySem.W.keepIn K (.ref fa)=true/\mg e.1=some (.ref fa)/\dZ N ps scope/\(∀i,i < ps.length->M[i]?≠some true)/\
  (e.2.2.2=true->δ=some 0)/\ps.length=e.2.1/\B1 n g ⟨scope.names,N,M,δ,κ⟩ e.2.2.2 (g.fr idx) body=some fn.body/\fn.ps=ps.length/\fn.n=N.length/\fn.bf=e.2.2.2/\
  (∀j,j<=e.2.2.1.length->∃ds,au ((e.2.2.1.drop j).map mV) ds/\Binds K (PySem.W.fnOf e.1 e.1 params body scope dV kV doc pm an eI ct) ps ds)/\e.2.2.1.all nC=true
noncomputable def nE (g:G) (K:Frag) (mg:Str->Option Value):Nat->List (Str×Nat×List Dt×Bool)->List Fn->Prop
 | _,[],[]=>True
 | i,e::es,f::fs=>uF g K mg e i f/\nE g K mg (i + 1) es fs
 | _,_,_=>False
section
variable {g:G} {K:Frag} {mg:Str->Option Value}
theorem my {x:Str}:∀{es:List (Str×Nat×List Dt×Bool)} {fs:List Fn} {i j:Nat} {r:Nat×List Dt×Bool},nE g K mg i es fs->pO x es=some (j,r)->∃f,uF g K mg (x,r) (i + j) f/\fs[j]?=some f
 | [],fs,i,j,r,_,h=>by simp[pO] at h
 | e::es,[],i,j,r,h,_=>h.elim
 | e::es,f::fs,i,j,r,ok,h=>by
  obtain⟨o1,o2⟩:=ok;unfold pO at h;split at h
  ·rename_i hx;cases h;have ex:x=e.1:=P6 hx;subst ex;exact⟨f,o1,rfl⟩
  ·obtain⟨p,h1,h2⟩:=PX.mp h;obtain⟨j',r'⟩:=p;cases h2;obtain⟨f',k1,k2⟩:=my o2 h1;refine⟨f',?_,k2⟩;have:i + (j' + 1)=i + 1 + j':=by lia
   rw[this];exact k1
variable {P:Program} {w:World} {base:Heap} {xv:Nat->Value} {fs:List Fn}
theorem j0 (hm:MG g mg) (zC:XG g K mg xv) (ok:nE g K mg 0 g.fns fs):∀n,FX g xv (ny P w) P w K mg base n n (aq fs n)
 | 0=>⟨λx f np eQ bf h=>by
   obtain⟨fn,⟨fa,ps,N,M,δ,κ,n,oc,od,an,rY,params,body,scope,dV,kV,doc,pm,eI,ct,h1,h2,h3,h4,h5,h6,h7,h8,h9,JC,JD,JE,JF,JG⟩,hf⟩:=my ok h;refine⟨fa,_,ps,h8,h4,h3,⟨λvs H Q E q=>q.1.trans h8.symm,λA outer s H args us vs Q E _ _ _ _ q=>?_⟩,JF,JG⟩;obtain⟨_,W,dr,as,S,uD,_,_,_,q⟩:=q;exact q.elim⟩
 | n + 1=>⟨λx f np eQ bf h=>by
   have ih:=j0 hm zC ok n;obtain⟨fn,⟨fa,ps,N,M,δ,κ,m,oc,od,an,rY,params,body,scope,dV,kV,doc,pm,eI,ct,h1,h2,h3,h4,h5,h6,h7,h8,h9,JC,JD,JE,JF,JG⟩,hf⟩:=my ok h;rw[Nat.zero_add] at h9;refine⟨fa,_,ps,h8,h4,h3,?_,JF,JG⟩;have:=kX (xv:=xv) (P:=P) (w:=w) (base:=base) h1 h2 h5 hm zC ih h6 h7 h9;have e:(aq fs (n + 1)) f=fN (aq fs n) ⟨ps.length,N.length,bf,fn.body⟩:=by funext args S;show (match fs[f]? with | some g=>fN (aq fs n) g args S | none=>R.bad)=_;rw[hf];obtain⟨a1,a2,a3,a4⟩:=fn;simp only at JC JD JE;subst JC JD JE;rfl
   have Nf:ps.length=np:=h8;rw[e,<-Nf];exact this⟩
noncomputable def sM (K:Frag):Sp:=λvs H Q _=>∃(a:Addr) (ns:List Int),vs=[.ref a]/\cM K H a (ns.map V.int)/\ns.length<=63/\∀H',Q (.bl true) H'
theorem len0 {P:List Value->Prop} (h:P []):∀us:List Value,us.length=0->P us:=λus e=>List.eq_nil_of_length_eq_zero e▸h
theorem lenS {n:Nat} {P:List Value->Prop} (h:∀a (us:List Value),us.length=n->P (a::us)):∀us:List Value,us.length=n + 1->P us:=λus e=>by
 cases us with
 | nil=>cases e
 | cons a t=>exact h a t (Nat.succ.inj e)
theorem binds0 {fd:FuncData} {ps:List Str} (h:∀us:List Value,us.length=ps.length->bindArgs fd ⟨us,[]⟩=pure (ps.zip us)):∀j,j<=([]:List Dt).length->∃ds,au ((([]:List Dt).drop j).map mV) ds/\Binds K fd ps ds:=λj hj=>by
 have:j=0:=by simpa using hj
 subst this;exact⟨[],.nil,Binds.all h⟩
theorem BV {fd:FuncData} {ps:List Str} {d:Dt} {v:Value} (hv:RelV (mV d) v) (h0:Binds K fd ps [v]) (h1:Binds K fd ps []):∀j,j<=([d]:List Dt).length->∃ds,au ((([d]:List Dt).drop j).map mV) ds/\Binds K fd ps ds:=λj hj=>by
 have:j=0\/j=1:=by simp at hj;lia
 rcases this with rfl | rfl
 ·exact⟨[v],.cons hv .nil,h0⟩
 ·exact⟨[],.nil,h1⟩
noncomputable def OB (names:List (Str×NameKind)) (ps:List Str):List Str:=ps++names.filterMap λp=>if wA (some p.2)&& !ps.contains p.1 then some p.1 else none
noncomputable def EL (N ms:List Str):List Bool:=N.map λx=>ms.contains x
theorem Gw {N ms ps:List Str} (h:((EL N ms).take ps.length).all (λb=> !b)=true):∀i,i < ps.length->(EL N ms)[i]?≠some true:=λi hi e=>by have hm:true∈(EL N ms).take ps.length:=List.mem_iff_getElem?.mpr ⟨i,by rw[List.getElem?_take_of_lt hi];exact e⟩;have:=Qj.mp h true hm;cases this
end
end Rx
end
section
namespace Rx
open PySem PySem.W PySem.Spec PyProof.Rows L2
section
variable {F:FT} {S:Sx} {ρ:ai}
theorem dH {tg:Tg} {body:ai->Sx->RS} {ds:List Dt} (P:List Dt->ai->Prop) (h0:P [] ρ)
  (step:∀pre x post ρ,ds=pre++x::post->P pre ρ->∃ρ1 ρ2,dU tg x ρ= .ok ρ1/\body ρ1 S= .ok (.next,ρ2,S)/\P (pre++[x]) ρ2):∃ρ',forL tg body ds ρ S= .ok (.next,ρ',S)/\P ds ρ':=by
 have key:∀(post pre:List Dt) (ρ:ai),ds=pre++post->P pre ρ->∃ρ',forL tg body post ρ S= .ok (.next,ρ',S)/\P ds ρ':=by
  intro post
  induction post with
  | nil=>intro pre ρ e h;rw[Qn] at e;subst e;exact⟨ρ,rfl,h⟩
  | cons x post ih=>intro pre ρ e h;obtain⟨ρ1,ρ2,h1,h2,h3⟩:=step pre x post ρ e h;obtain⟨ρ',h4,h5⟩:=ih (pre++[x]) ρ2 (by rw[e];simp) h3;refine⟨ρ',?_,h5⟩;rw[forL,h1,R.ah,h2,R.ah];exact h4
 exact key ds [] ρ rfl h0
theorem jF {tg:Tg} {body:ai->Sx->RS} {ds:List Dt} (P:List Dt->ai->Prop) (T:Dt->Prop) (h0:P [] ρ)
  (step:∀pre x post ρ,ds=pre++x::post->P pre ρ->∃ρ1 ρ2,dU tg x ρ= .ok ρ1/\((body ρ1 S= .ok (.next,ρ2,S)/\P (pre++[x]) ρ2)\/∃d,body ρ1 S= .ok (.ret d,ρ2,S)/\T d)):
  (∃ρ',forL tg body ds ρ S= .ok (.next,ρ',S)/\P ds ρ')\/∃d ρ',forL tg body ds ρ S= .ok (.ret d,ρ',S)/\T d:=by
 have key:∀(post pre:List Dt) (ρ:ai),ds=pre++post->P pre ρ->(∃ρ',forL tg body post ρ S= .ok (.next,ρ',S)/\P ds ρ')\/∃d ρ',forL tg body post ρ S= .ok (.ret d,ρ',S)/\T d:=by
  intro post
  induction post with
  | nil=>intro pre ρ e h;rw[Qn] at e;subst e;exact .inl ⟨ρ,rfl,h⟩
  | cons x post ih=>
   intro pre ρ e h;obtain⟨ρ1,ρ2,h1,h2 | ⟨d,h2,h3⟩⟩:=step pre x post ρ e h
   ·rw[forL,h1,R.ah,h2.1,R.ah];exact ih (pre++[x]) ρ2 (by rw[e];simp) h2.2
   ·exact .inr ⟨d,ρ2,by rw[forL,h1,R.ah,h2,R.ah],h3⟩
 exact key ds [] ρ rfl h0
theorem iH {α β:Type} (f:α->β):∀l:List α,(l.flatMap λx=>[f x])=l.map f
 | []=>rfl
 | x::l=>by rw[List.flatMap_cons,iH f l];rfl
theorem cZ {α β:Type} (p:α->Bool) (f:α->β):∀l:List α,(l.flatMap λx=>if p x=true then[f x] else[])=(l.filter p).map f
 | []=>rfl
 | x::l=>by
  rw[List.flatMap_cons,cZ p f l];by_cases h:p x=true
  ·rw[if_pos h,List.filter_cons_of_pos h];rfl
  ·rw[if_neg h,List.filter_cons_of_neg h];rfl
end
theorem Ax {fs:List Fn} {n k:Nat} {g:Fn} {args:List Dt} {S:Sx} (h:fs[k]?=some g):aq fs (n + 1) k args S=fN (aq fs n) g args S:=by show (match fs[k]? with | some g=>fN (aq fs n) g args S | none=>R.bad)=_;rw[h]
noncomputable def GB (d:Dt) (S:Sx):R (Dt×Sx):=match d with | .int i=> .ok (.int (-i),S) | _=> .bad
noncomputable def Mn (d:Dt) (S:Sx):R (Dt×Sx):=match d with | .bl b=> .ok (.bl !b,S) | _=> .bad
noncomputable def Fb (d:Dt) (S:Sx):R (Dt×Sx):=match d with | .bl c=> .ok (.bl c,S) | _=> .bad
noncomputable def BJ (f:Sx->R (Dt×Sx)) (d:Dt) (S:Sx):R (Dt×Sx):=match d with | .bl true=>(f S).bind (λy=>Fb y.1 y.2) | .bl false=> .ok (.bl false,S) | _=> .bad
noncomputable def KH (f:Sx->R (Dt×Sx)) (d:Dt) (S:Sx):R (Dt×Sx):=match d with | .bl false=>(f S).bind (λy=>Fb y.1 y.2) | .bl true=> .ok (.bl true,S) | _=> .bad
noncomputable def Bh (k:List Dt->Dt) (ds:List Dt) (S:Sx):R (Dt×Sx):=ae (decide (ds.length<=lim)) (.ok (k ds,S))
noncomputable def Kq (o:Option (List Dt)) (S:Sx):R (List Dt×Sx):=match o with | some ds=> .ok (ds,S) | none=> .bad
noncomputable def Hj (d e:Dt) (S:Sx):R (Dt×Sx):=match e with | .int i=>(f9 d (some i) none).bind λd=> .ok (d,S) | _=> .bad
noncomputable def Hi (d e:Dt) (S:Sx):R (Dt×Sx):=match e with | .int i=>(f9 d none (some i)).bind λd=> .ok (d,S) | _=> .bad
theorem RX:
  (∀{F:FT} {S:Sx} {ρ:ai} {d:Dt},ev F (.con d) ρ S= .ok (d,S))/\
  (∀{F:FT} {S:Sx} {ρ:ai} {i:Nat},ev F (.var i) ρ S=(dN ρ i).bind λd=> .ok (d,S))/\
  (∀{F:FT} {S:Sx} {ρ:ai} {i:Nat},ev F (.mvr i) ρ S=(dN ρ i).bind λd=> .ok (d,S))/\
  (∀{F:FT} {S:Sx} {ρ:ai} {o:Operator} {a b:C},ev F (.bin o a b) ρ S=(ev F a ρ S).bind λx=>(ev F b ρ x.2).bind λy=>(iK o x.1 y.1).bind λd=> .ok (d,y.2))/\
  (∀{F:FT} {S:Sx} {ρ:ai} {o:CmpOp} {a b:C},ev F (.cmp o a b) ρ S=(ev F a ρ S).bind λx=>(ev F b ρ x.2).bind λy=>(cU o x.1 y.1).bind λd=> .ok (.bl d,y.2))/\
  (∀{F:FT} {S:Sx} {ρ:ai} {a:C},ev F (.neg a) ρ S=(ev F a ρ S).bind λx=>GB x.1 x.2)/\
  (∀{F:FT} {S:Sx} {ρ:ai} {a:C},ev F (.nt a) ρ S=(ev F a ρ S).bind λx=>Mn x.1 x.2)/\
  (∀{F:FT} {S:Sx} {ρ:ai} {a b:C},ev F (.and a b) ρ S=(ev F a ρ S).bind λx=>BJ (ev F b ρ) x.1 x.2)/\
  (∀{F:FT} {S:Sx} {ρ:ai} {a b:C},ev F (.or a b) ρ S=(ev F a ρ S).bind λx=>KH (ev F b ρ) x.1 x.2)/\
  (∀{F:FT} {S:Sx} {ρ:ai} {a b c:C},ev F (.ite a b c) ρ S=(bV F a ρ S).bind λx=>if x.1=true then ev F b ρ x.2 else ev F c ρ x.2)/\
  (∀{F:FT} {S:Sx} {ρ:ai} {a b:C},ev F (.idx a b) ρ S=(ev F a ρ S).bind λx=>(ev F b ρ x.2).bind λy=>(dg x.1 y.1).bind λd=> .ok (d,y.2))/\
  (∀{F:FT} {S:Sx} {ρ:ai} {a b:C},ev F (.sliL a b) ρ S=(ev F a ρ S).bind λx=>(ev F b ρ x.2).bind λy=>Hj x.1 y.1 y.2)/\
  (∀{F:FT} {S:Sx} {ρ:ai} {a b:C},ev F (.sliH a b) ρ S=(ev F a ρ S).bind λx=>(ev F b ρ x.2).bind λy=>Hi x.1 y.1 y.2)/\
  (∀{F:FT} {S:Sx} {ρ:ai} {f:Nat} {es:Cs} {ds:List Dt},ev F (.call f es ds) ρ S=(fR F es ρ S).bind λx=>(F f (x.1++ds) none).bind λy=> .ok (y.1,x.2))/\
  (∀{F:FT} {S:Sx} {ρ:ai} {u:BI} {es:Cs},ev F (.bi u es) ρ S=(fR F es ρ S).bind λx=>(cL u x.1).bind λd=> .ok (d,x.2))/\
  (∀{F:FT} {S:Sx} {ρ:ai} {es:Cs},ev F (.tup es) ρ S=(fR F es ρ S).bind λx=>Bh .tup x.1 x.2)/\
  (∀{F:FT} {S:Sx} {ρ:ai} {es:Cs},ev F (.lst es) ρ S=(fR F es ρ S).bind λx=>Bh .lst x.1 x.2)/\
  (∀{F:FT} {S:Sx} {ρ:ai},fR F .nil ρ S= .ok ([],S))/\
  (∀{F:FT} {S:Sx} {ρ:ai} {a:C} {es:Cs},fR F (.cons a es) ρ S=(ev F a ρ S).bind λx=>(fR F es ρ x.2).bind λy=> .ok (x.1::y.1,y.2))/\
  (∀{F:FT} {S:Sx} {ρ:ai} {o:CmpOp} {a b:C},bV F (.cmp o a b) ρ S=(ev F a ρ S).bind λx=>(ev F b ρ x.2).bind λy=>(cU o x.1 y.1).bind λd=> .ok (d,y.2))/\
  (∀{F:FT} {S:Sx} {ρ:ai} {a b:C},bV F (.and a b) ρ S=(bV F a ρ S).bind λx=>if x.1=true then bV F b ρ x.2 else .ok (false,x.2))/\
  (∀{F:FT} {S:Sx} {ρ:ai} {a b:C},bV F (.or a b) ρ S=(bV F a ρ S).bind λx=>if x.1=true then .ok (true,x.2) else bV F b ρ x.2)/\
  (∀{F:FT} {S:Sx} {ρ:ai} {a:C},bV F (.nt a) ρ S=(bV F a ρ S).bind λx=> .ok (!x.1,x.2))/\
  (∀{F:FT} {S:Sx} {ρ:ai} {f:Nat} {es:Cs} {ds:List Dt},bV F (.call f es ds) ρ S=(fR F es ρ S).bind λx=>(F f (x.1++ds) none).bind λy=>(dh y.1).bind λb=> .ok (b,x.2))/\
  (∀{F:FT} {S:Sx} {ρ:ai} {u:BI} {es:Cs},bV F (.bi u es) ρ S=(fR F es ρ S).bind λx=>(cL u x.1).bind λd=>(dh d).bind λb=> .ok (b,x.2))/\
  (∀{F:FT} {S:Sx} {ρ:ai} {i:Nat},bV F (.var i) ρ S=(dN ρ i).bind λd=>(dh d).bind λb=> .ok (b,S))/\
  (∀{F:FT} {S:Sx} {ρ:ai} {i:Nat},bV F (.mvr i) ρ S=(dN ρ i).bind λd=>(dh d).bind λb=> .ok (b,S))/\
  (∀{F:FT} {S:Sx} {ρ:ai} {a b:C},bV F (.idx a b) ρ S=(ev F a ρ S).bind λx=>(ev F b ρ x.2).bind λy=>(dg x.1 y.1).bind λd=>(dh d).bind λb=> .ok (b,y.2))/\
  (∀{F:FT} {S:Sx} {ρ:ai},a8 F .nil ρ S= .ok (true,S))/\
  (∀{F:FT} {S:Sx} {ρ:ai} {a:C},a8 F (.cons a .nil) ρ S=bV F a ρ S)/\
  (∀{F:FT} {S:Sx} {ρ:ai} {a:C},dE F (.seq a) ρ S=(ev F a ρ S).bind λx=>Kq (itemsOf x.1) x.2)/\
  (∀{F:FT} {S:Sx} {ρ:ai} {a:C},dE F (.enum a) ρ S=(ev F a ρ S).bind λx=>Kq ((cT x.1).map (vw 0)) x.2)/\
  (∀{d:Dt} {ρ:ai},dN (some d::ρ) 0= .ok d)/\
  (∀{e:Option Dt} {ρ:ai} {i:Nat},dN (e::ρ) (i + 1)=dN ρ i)/\
  (∀{S:Sx} {i:Int},GB (.int i) S= .ok (.int (-i),S))/\
  (∀{S:Sx} {b:Bool},Mn (.bl b) S= .ok (.bl !b,S))/\
  (∀{S:Sx} {f:Sx->R (Dt×Sx)},BJ f (.bl false) S= .ok (.bl false,S))/\
  (∀{S:Sx} {f:Sx->R (Dt×Sx)},BJ f (.bl true) S=(f S).bind λy=>Fb y.1 y.2)/\
  (∀{S:Sx} {f:Sx->R (Dt×Sx)},KH f (.bl true) S= .ok (.bl true,S))/\
  (∀{S:Sx} {f:Sx->R (Dt×Sx)},KH f (.bl false) S=(f S).bind λy=>Fb y.1 y.2)/\
  (∀{S:Sx} {b:Bool},Fb (.bl b) S= .ok (.bl b,S))/\
  (∀{S:Sx} {ds:List Dt},Kq (some ds) S= .ok (ds,S))/\
  (∀{ds:List Dt} {f:List Dt->List Dt},(some ds).map f=some (f ds))/\
  (∀{S:Sx} {k:List Dt->Dt},Bh k [] S= .ok (k [],S))/\
  (∀{S:Sx} {k:List Dt->Dt} {a:Dt},Bh k [a] S= .ok (k [a],S))/\
  (∀{S:Sx} {k:List Dt->Dt} {a b:Dt},Bh k [a,b] S= .ok (k [a,b],S))/\
  (∀{S:Sx} {k:List Dt->Dt} {a b c:Dt},Bh k [a,b,c] S= .ok (k [a,b,c],S))/\
  (∀{S:Sx} {k:List Dt->Dt} {a b c d:Dt},Bh k [a,b,c,d] S= .ok (k [a,b,c,d],S))/\
  (∀{S:Sx} {k:List Dt->Dt} {a b c d e:Dt},Bh k [a,b,c,d,e] S= .ok (k [a,b,c,d,e],S))/\
  (∀{S:Sx} {d:Dt} {i:Int},Hj d (.int i) S=(f9 d (some i) none).bind λd=> .ok (d,S))/\
  (∀{S:Sx} {d:Dt} {i:Int},Hi d (.int i) S=(f9 d none (some i)).bind λd=> .ok (d,S))/\
  (∀{m n:Int},iK .Add (.int m) (.int n)= .ok (.int (m + n)))/\
  (∀{m n:Int},iK .Sub (.int m) (.int n)= .ok (.int (m - n)))/\
  (∀{m n:Int},cU .Lt (.int m) (.int n)= .ok (decide (m < n)))/\
  (∀{m n:Int},cU .LtE (.int m) (.int n)= .ok (decide (m<=n)))/\
  (∀{m n:Int},cU .Gt (.int m) (.int n)= .ok (decide (n < m)))/\
  (∀{m n:Int},cU .GtE (.int m) (.int n)= .ok (decide (n<=m)))/\
  (∀{m n:Int},cU .Eq (.int m) (.int n)= .ok (m==n))/\
  (∀{m n:Int},cU .NotEq (.int m) (.int n)= .ok (!(m==n)))/\
  (∀{m n:Str},cU .Eq (.str m) (.str n)= .ok (m==n))/\
  (∀{m n:Str},cU .NotEq (.str m) (.str n)= .ok (!(m==n)))/\
  (∀{ns:List Int},cL .len [.bJ ns]= .ok (.int ns.length))/\
  (∀{ds:List Dt},cL .len [.lst ds]= .ok (.int ds.length))/\
  (∀{ds:List Dt},cL .len [.tup ds]= .ok (.int ds.length))/\
  (∀{ds:List Dt},cL .tuple [.lst ds]= .ok (.tup ds))/\
  (∀{ds:List Dt},cL .tuple [.tup ds]= .ok (.tup ds))/\
  (∀{ds:List Dt},cL .list [.lst ds]= .ok (.lst ds))/\
  (∀{ds:List Dt},cL .list [.tup ds]= .ok (.lst ds))/\
  (∀{t:Bool},dh (.bl t)= .ok t)/\
  (∀{ds:List Dt},dh (.lst ds)= .ok !ds.isEmpty)/\
  (∀{ds:List Dt},dh (.tup ds)= .ok !ds.isEmpty)/\
  (∀{ds:List Dt},itemsOf (.lst ds)=some ds)/\
  (∀{ds:List Dt},itemsOf (.tup ds)=some ds)/\
  (∀{ds:List Dt},cT (.lst ds)=some ds)/\
  (∀{ds:List Dt},cT (.tup ds)=some ds)/\
  (∀{α β:Type} {x:α} {f:α->R β},(R.ok x).bind f=f x)/\
  (∀{α:Type} {r:R α},ae true r=r)/\
  (∀{ds:List Dt},(ds++[]:List Dt)=ds)/\
  (∀{e v:Option Dt} {ρ:ai},(e::ρ).set 0 v=v::ρ)/\
  (∀{e v:Option Dt} {ρ:ai} {i:Nat},(e::ρ).set (i + 1) v=e::ρ.set i v)/\
  (∀{d:Dt} {ρ:ai} {i:Nat},dU (.nm i) d ρ= .ok (ρ.set i (some d)))/\
  (∀{is:List Nat} {ds:List Dt} {ρ:ai},dU (.tp is) (.tup ds) ρ=iM is ds ρ)/\
  (∀{ρ:ai},iM [] [] ρ= .ok ρ)/\
  (∀{i:Nat} {is:List Nat} {d:Dt} {ds:List Dt} {ρ:ai},iM (i::is) (d::ds) ρ=iM is ds (ρ.set i (some d)))/\
  (∀{d:Dt},dg (.tup [d]) (.int 0)= .ok d)/\
  (∀{d d2:Dt},dg (.tup [d,d2]) (.int 0)= .ok d)/\
  (∀{d d2:Dt},dg (.tup [d,d2]) (.int 1)= .ok d2)/\
  (∀{d d2 d3:Dt},dg (.tup [d,d2,d3]) (.int 0)= .ok d)/\
  (∀{d d2 d3:Dt},dg (.tup [d,d2,d3]) (.int 1)= .ok d2)/\
  (∀{d d2 d3:Dt},dg (.tup [d,d2,d3]) (.int 2)= .ok d3):=
 ⟨@λ_ _ _ _=>rfl,
  @λ_ _ _ _=>rfl,
  @λ_ _ _ _=>rfl,
  @λ_ _ _ _ _ _=>rfl,
  @λ_ _ _ _ _ _=>rfl,
  @λ_ _ _ _=>rfl,
  @λ_ _ _ _=>rfl,
  @λ_ _ _ _ _=>rfl,
  @λ_ _ _ _ _=>rfl,
  @λ_ _ _ _ _ _=>rfl,
  @λ_ _ _ _ _=>rfl,
  @λ_ _ _ _ _=>rfl,
  @λ_ _ _ _ _=>rfl,
  @λ_ _ _ _ _ _=>rfl,
  @λ_ _ _ _ _=>rfl,
  @λ_ _ _ _=>rfl,
  @λ_ _ _ _=>rfl,
  @λ_ _ _=>rfl,
  @λ_ _ _ _ _=>rfl,
  @λ_ _ _ _ _ _=>rfl,
  @λ_ _ _ _ _=>rfl,
  @λ_ _ _ _ _=>rfl,
  @λ_ _ _ _=>rfl,
  @λ_ _ _ _ _ _=>rfl,
  @λ_ _ _ _ _=>rfl,
  @λ_ _ _ _=>rfl,
  @λ_ _ _ _=>rfl,
  @λ_ _ _ _ _=>rfl,
  @λ_ _ _=>rfl,
  @λ_ _ _ _=>rfl,
  @λ_ _ _ _=>rfl,
  @λF S ρ a=>by rw[dE];cases ev F a ρ S with | ok x=>(simp only[R.ah];cases cT x.1 <;> rfl) | ex k=>rfl | bad=>rfl,
  @λ_ _=>rfl,
  @λ_ _ _=>rfl,
  @λ_ _=>rfl,
  @λ_ _=>rfl,
  @λ_ _=>rfl,
  @λ_ _=>rfl,
  @λ_ _=>rfl,
  @λ_ _=>rfl,
  @λ_ _=>rfl,
  @λ_ _=>rfl,
  @λ_ _=>rfl,
  @λ_ _=>rfl,
  @λ_ _ _=>rfl,
  @λ_ _ _ _=>rfl,
  @λ_ _ _ _ _=>rfl,
  @λ_ _ _ _ _ _=>rfl,
  @λ_ _ _ _ _ _ _=>rfl,
  @λ_ _ _=>rfl,
  @λ_ _ _=>rfl,
  @λ_ _=>rfl,
  @λ_ _=>rfl,
  @λ_ _=>rfl,
  @λ_ _=>rfl,
  @λ_ _=>rfl,
  @λ_ _=>rfl,
  @λ_ _=>rfl,
  @λ_ _=>rfl,
  @λ_ _=>rfl,
  @λ_ _=>rfl,
  @λ_=>rfl,
  @λ_=>rfl,
  @λ_=>rfl,
  @λ_=>rfl,
  @λ_=>rfl,
  @λ_=>rfl,
  @λ_=>rfl,
  @λ_=>rfl,
  @λ_=>rfl,
  @λ_=>rfl,
  @λ_=>rfl,
  @λ_=>rfl,
  @λ_=>rfl,
  @λ_=>rfl,
  @λ_ _ _ _=>rfl,
  @λ_ _=>rfl,
  @λds=>Qn ds,
  @λ_ _ _=>rfl,
  @λ_ _ _ _=>rfl,
  @λ_ _ _=>rfl,
  @λ_ _ _=>rfl,
  @λ_=>rfl,
  @λ_ _ _ _ _=>rfl,
  @λ_=>rfl,
  @λ_ _=>rfl,
  @λ_ _=>rfl,
  @λ_ _ _=>rfl,
  @λ_ _ _=>rfl,
  @λ_ _ _=>rfl⟩
section
variable {F:FT} {S:Sx} {ρ:ai}
theorem aO {i j:Int} (h:i.natAbs < 2 ^ 64\/j.natAbs < 2 ^ 64):iK .Mult (.int i) (.int j)= .ok (.int (i * j)):=by show ae (decide (i.natAbs < 2 ^ 64)||decide (j.natAbs < 2 ^ 64)) _=_;rw[show (decide (i.natAbs < 2 ^ 64)||decide (j.natAbs < 2 ^ 64))=true by simpa using h];rfl
theorem cX {i j:Int} (h:0 < j):iK .Mod (.int i) (.int j)= .ok (.int (i % j)):=by show ae (decide (0 < j)) _=_;rw[Qc h];rfl
theorem qh {i j:Int} (h:0 < j) (h2:j.natAbs.log2 < 9000):iK .FloorDiv (.int i) (.int j)= .ok (.int (i / j)):=by show ae (decide (0 < j)&&decide (j.natAbs.log2 < 9000)) _=_;rw[Qc h,Qc h2];rfl
noncomputable def fin (r:RS):R (Dt×Sx):=r.bind λp=>match p.1 with
 | .next=> .ok (.aP,p.2.2)
 | .ret d=> .ok (d,p.2.2)
 | _=> .bad
noncomputable def Ts.app:Ts->Ts->Ts
 | .nil,b=>b
 | .cons t a,b=> .cons t (a.app b)
theorem mv:∀{a b:Ts} {ρ:ai} {S:Sx},aT F (a.app b) ρ S=(aT F a ρ S).bind λp=>match p.1 with
  | .next=>aT F b p.2.1 p.2.2
  | f=> .ok (f,p.2)
 | .nil,b,ρ,S=>rfl
 | .cons t a,b,ρ,S=>by
  show aT F (.cons t (a.app b)) ρ S=_;rw[aT,aT];cases ex F t ρ S with
  | ok p=>
   obtain⟨f,ρ1,S1⟩:=p;cases f with
   | next=>exact mv
   | brk=>rfl
   | cnt=>rfl
   | ret d=>rfl
  | ex k=>rfl
  | bad=>rfl
section
variable {r:R (Dt×Sx)} {ts:Ts}
theorem dF {t:T} {ρ1:ai} {S1:Sx} (h:ex F t ρ S= .ok (.next,ρ1,S1)) (k:fin (aT F ts ρ1 S1)=r):fin (aT F (.cons t ts) ρ S)=r:=by rw[aT,h];exact k
theorem gz {t:T} {ρ1:ai} {S1:Sx} {d:Dt} (h:ex F t ρ S= .ok (.ret d,ρ1,S1)):fin (aT F (.cons t ts) ρ S)= .ok (d,S1):=by rw[aT,h];rfl
theorem ao {i:Nat} {c:C} {d:Dt} {S1:Sx} (h:ev F c ρ S= .ok (d,S1)) (hs:bu c d=true) (k:fin (aT F ts (ρ.set i (some d)) S1)=r):fin (aT F (.cons (.asg i c) ts) ρ S)=r:=by refine dF ?_ k;rw[ex,h,R.ah,hs];rfl
theorem gw {i:Nat} {c:C} {d:Dt} {S1:Sx} (h:ev F c ρ S= .ok (d,S1)) (hs:iN c d=true) (k:fin (aT F ts (ρ.set i (some d)) S1)=r):fin (aT F (.cons (.asgM i c) ts) ρ S)=r:=by refine dF ?_ k;rw[ex,h,R.ah,hs];rfl
theorem ay {c:C} {d:Dt} {S1:Sx} (h:ev F c ρ S= .ok (d,S1)):fin (aT F (.cons (.ret c) ts) ρ S)= .ok (d,S1):=by refine gz (ρ1:=ρ) ?_;rw[ex,h];rfl
theorem vF {t:C} {a b:Ts} {x:Bool} {S1:Sx} (h:bV F t ρ S= .ok (x,S1)) (k:fin (aT F ((if x=true then a else b).app ts) ρ S1)=r):fin (aT F (.cons (.ifs t a b) ts) ρ S)=r:=by rw[<-k,mv,aT,ex,h,R.ah];cases x <;> rfl
theorem cG {t:C} {a b:Ts} {S1:Sx} (h:bV F t ρ S= .ok (true,S1)) (k:fin (aT F (a.app ts) ρ S1)=r):fin (aT F (.cons (.ifs t a b) ts) ρ S)=r:=vF h (by rw[if_pos rfl];exact k)
theorem bM {t:C} {a b:Ts} {S1:Sx} (h:bV F t ρ S= .ok (false,S1)) (k:fin (aT F (b.app ts) ρ S1)=r):fin (aT F (.cons (.ifs t a b) ts) ρ S)=r:=vF h (by rw[if_neg (by simp)];exact k)
theorem cV {tg:Tg} {it:lK} {b:Ts} {ds:List Dt} {ρ1:ai} {S1 S2:Sx} (h:dE F it ρ S= .ok (ds,S1)) (hl:rN it=0) (hf:forL tg (aT F b) ds ρ S1= .ok (.next,ρ1,S2)) (k:fin (aT F ts ρ1 S2)=r):fin (aT F (.cons (.fr tg it b) ts) ρ S)=r:=by refine dF ?_ k;rw[ex,h,R.ah,Qc hl,Bool.true_or];exact hf
end
end
theorem aA {fs:List Fn} {n k ps m:Nat} {body:Ts} {args:List Dt} {r:R (Dt×Sx)} {S:Sx} (h:fs[k]?=some ⟨ps,m,false,body⟩) (hn:1<=n) (hl:args.length=ps) (q:fin (aT (aq fs (n - 1)) body (args.map some++List.replicate (m - ps) none) S)=r):aq fs n k args S=r:=by obtain⟨n,rfl⟩:∃m,n=m + 1:=⟨n - 1,by lia⟩;rw[Ax h];unfold fN;simp only[Bool.false_eq_true,if_false,Nat.add_zero,hl,if_true,List.nil_append];exact q
noncomputable def qF:Ts:=(.cons (.ifs (.cmp .Lt (.var 1) (.bi .len (.cons (.var 0) .nil))) (.cons (.ret (.idx (.var 0) (.var 1))) .nil) .nil) (.cons (.asg 2 (.bin .Add (.bin .Mult (.var 1) (.con (.int 7919))) (.con (.int 5)))) (.cons (.ifs (.cmp .Gt (.bi .len (.cons (.var 0) .nil)) (.con (.int 0))) (.cons (.asg 2 (.bin .Add (.bin .Add (.bin .Mult (.bin .Mod (.idx (.var 0) (.bin .Mod (.var 1) (.bi .len (.cons (.var 0) .nil)))) (.con (.int 2147483647))) (.con (.int 48271))) (.bin .Mult (.bin .Mult (.var 1) (.var 1)) (.con (.int 7919)))) (.con (.int 11)))) .nil) .nil) (.cons (.ret (.bin .Mod (.bin .Mult (.var 2) (.var 2)) (.con (.int 2147483629)))) .nil))))
theorem rB {ns:List Int} {k:Nat} (h:k < ns.length):dg (.bJ ns) (.int k)= .ok (.int ns[k]):=by show sU (ns.map Dt.int) k=_;unfold sU;rw[L2.iZ (v:= .int ns[k]) (by simp[h])]
noncomputable def fE (ns:List Int) (k:Nat):Int:=if h:k < ns.length then ns[k] else
 let m:Int:=if h:0 < ns.length then ns[k % ns.length]'(Nat.mod_lt _ h) % 2147483647 * 48271 + k * k * 7919 + 11 else k * 7919 + 5
 m * m % 2147483629
theorem qN {fs:List Fn} {ic:Nat} (hc:fs[ic]?=some ⟨2,3,false,qF⟩) {n:Nat} (hn:1<=n) {ns:List Int} {k:Nat} (hk:k < 1000000):aq fs n ic [.bJ ns,.int k] none= .ok (.int (fE ns k),none):=by
 refine aA hc hn rfl ?_;show fin (aT (aq fs (n - 1)) qF [some (.bJ ns),some (.int k),none] none)=_;by_cases h:k < ns.length
 ·refine cG (S1:=none) (by simp only[RX];simp[h]) ?_;exact(ay (d:= .int ns[k]) (S1:=none) (by simp only[RX,rB h])).trans (by simp[fE,h])
 ·have b1:(k:Int) * k<=1000000 * 1000000:=by
   have:k * k<=1000000 * 1000000:=Nat.mul_le_mul (by lia) (by lia);rw[<-Int.natCast_mul]
   lia
  have b0:(0:Int)<=(k:Int) * k:=Int.mul_nonneg (by lia) (by lia);have m1:=aO (i:=k) (j:=7919) (.inl (by lia));refine bM (S1:=none) (by simp only[RX];simp;lia) (ao (d:= .int (k * 7919 + 5)) (S1:=none) (by simp only[RX,m1]) rfl ?_);by_cases h2:0 < ns.length
  ·have hm:=Nat.mod_lt k h2;have e1:((k:Int) % (ns.length:Int))=((k % ns.length:Nat):Int):=by simp
   generalize hx:ns[k % ns.length]=x;have r1:=Ql x (b:=2147483647) (by decide);have r2:=Qm x (b:=2147483647) (by decide);have m2:=cX (i:=k) (j:=ns.length) (by lia);rw[e1] at m2;have m3:=cX (i:=x) (j:=2147483647) (by decide);have m4:=aO (i:=x % 2147483647) (j:=48271) (.inl (by lia));have m5:=aO (i:=k) (j:=k) (.inl (by lia));have m6:=aO (i:=(k:Int) * k) (j:=7919) (.inl (by lia));have m7:=aO (i:=x % 2147483647 * 48271 + k * k * 7919 + 11) (j:=x % 2147483647 * 48271 + k * k * 7919 + 11) (.inl (by lia));have m8:=cX (i:=(x % 2147483647 * 48271 + k * k * 7919 + 11) * (x % 2147483647 * 48271 + k * k * 7919 + 11)) (j:=2147483629) (by decide);refine cG (S1:=none) (by simp only[RX];simp;lia) (ao (d:= .int (x % 2147483647 * 48271 + k * k * 7919 + 11)) (S1:=none) ?_ rfl ?_)
   ·simp only[RX,m2,m3,m4,m5,m6,rB hm,hx]
   ·refine(ay (d:=_) (S1:=none) (by simp only[RX,m7,m8];rfl)).trans ?_;simp[fE,h,h2,hx]
  ·have z0:decide ((0:Int) < ns.length)=false:=P8 (by lia);have m7:=aO (i:=k * 7919 + 5) (j:=k * 7919 + 5) (.inl (by lia));have m8:=cX (i:=((k:Int) * 7919 + 5) * (k * 7919 + 5)) (j:=2147483629) (by decide);refine bM (S1:=none) (by simp only[RX,z0]) ((ay (d:=_) (S1:=none) (by simp only[RX,m7,m8];rfl)).trans ?_);simp[fE,h,h2]
section
variable {F:FT} {S S1 S2:Sx} {ρ ρ1:ai} {ts:Ts} {r:RS} {d:Dt} {ds:List Dt}
theorem nx {t:T} (h:ex F t ρ S= .ok (.next,ρ1,S1)) (k:aT F ts ρ1 S1=r):aT F (.cons t ts) ρ S=r:=by rw[aT,h];exact k
theorem fZ {i:Nat} {c:C} (h:ev F c ρ S= .ok (d,S1)) (hs:bu c d=true) (k:aT F ts (ρ.set i (some d)) S1=r):aT F (.cons (.asg i c) ts) ρ S=r:=by refine nx ?_ k;rw[ex,h,R.ah,hs];rfl
theorem rW {i:Nat} {c:C} (h:ev F c ρ S= .ok (d,S1)) (hs:iN c d=true) (k:aT F ts (ρ.set i (some d)) S1=r):aT F (.cons (.asgM i c) ts) ρ S=r:=by refine nx ?_ k;rw[ex,h,R.ah,hs];rfl
theorem qd {c:C} (h:ev F c ρ S= .ok (d,S1)):aT F (.cons (.ret c) ts) ρ S= .ok (.ret d,ρ,S1):=by rw[aT,ex,h];rfl
theorem Bi {t:C} {a b:Ts} {x:Bool} (h:bV F t ρ S= .ok (x,S1)) (k:aT F ((if x=true then a else b).app ts) ρ S1=r):aT F (.cons (.ifs t a b) ts) ρ S=r:=by rw[<-k,mv,aT,ex,h,R.ah];cases x <;> rfl
theorem mL {t:C} {a b:Ts} (h:bV F t ρ S= .ok (true,S1)) (k:aT F (a.app ts) ρ S1=r):aT F (.cons (.ifs t a b) ts) ρ S=r:=Bi h (by rw[if_pos rfl];exact k)
theorem fY {t:C} {a b:Ts} (h:bV F t ρ S= .ok (false,S1)) (k:aT F (b.app ts) ρ S1=r):aT F (.cons (.ifs t a b) ts) ρ S=r:=Bi h (by rw[if_neg (by simp)];exact k)
theorem rF {i:Nat} (hl:ρ[i]?=some (some (.lst ds))):isLE ρ i=true:=by unfold isLE;rw[hl]
theorem rR {i:Nat} (hl:ρ[i]?=some (some (.lst ds))):oy ρ i= .ok ds:=by unfold oy;rw[hl]
theorem Ca {i:Nat} {c:C} (hl:ρ[i]?=some (some (.lst ds))) (h:ev F c ρ S= .ok (d,S1)) (hs:bu c d=true) (hz:ds.length<=lim):ex F (.app i c) ρ S= .ok (.next,ρ.set i (some (.lst (ds++[d]))),S1):=by rw[ex,rF hl,guard_true,h,R.ah,hs,guard_true,rR hl,R.ah,Qc hz];rfl
theorem qW {i:Nat} {k v:C} {n:Int} {j:Nat} (hl:ρ[i]?=some (some (.lst ds))) (h:ev F v ρ S= .ok (d,S1)) (h2:ev F k ρ S1= .ok (.int n,S2)) (hs:bu v d=true) (hz:mF ds.length n=some j):ex F (.qr i k v) ρ S= .ok (.next,ρ.set i (some (.lst (ds.set j d))),S2):=by rw[ex,rF hl,guard_true,h,R.ah,h2,R.ah,hs,guard_true,rR hl,R.ah];show (match mF ds.length n with | some j=>R.ok (Fl.next,ρ.set i (some (.lst (ds.set j d))),S2) | none=> .bad)=_;rw[hz]
theorem qc {i:Nat} {c:C} (hl:ρ[i]?=some (some (.lst ds))) (h:ev F c ρ S= .ok (d,S1)) (hs:bu c d=true) (hz:ds.length<=lim) (k:aT F ts (ρ.set i (some (.lst (ds++[d])))) S1=r):aT F (.cons (.app i c) ts) ρ S=r:=nx (Ca hl h hs hz) k
theorem jK {c:C} (h:ev F c ρ S= .ok (d,S1)) (hd:itemsOf d=some ds):dE F (.seq c) ρ S= .ok (ds,S1):=by show (ev F c ρ S).bind (λx=>match itemsOf x.1 with | some ds=>R.ok (ds,x.2) | none=> .bad)=_;rw[h,R.ah];show (match itemsOf d with | some ds=>R.ok (ds,S1) | none=> .bad)=_;rw[hd]
theorem eU {c:C} {n:Nat} (h:ev F c ρ S= .ok (.int n,S1)) (hn:n<=lim):dE F (.rng1 c) ρ S= .ok (bg 0 n,S1):=by show (ev F c ρ S).bind (λx=>match x.1 with | .int j=>ae (decide (j<=lim)&&decide (-lim<=j)) (.ok (bg 0 j.toNat,x.2)) | _=> .bad)=_;rw[h,R.ah];show ae (decide ((n:Int)<=lim)&&decide (-lim<=(n:Int))) (R.ok (bg 0 (n:Int).toNat,S1))=_;rw[show (decide ((n:Int)<=lim)&&decide (-lim<=(n:Int)))=true by have:lim=1000000:=rfl;simp;lia];simp
theorem hU {a b:C} {da db:Dt} {xs ys:List Dt} (ha:ev F a ρ S= .ok (da,S1)) (hb:ev F b ρ S1= .ok (db,S2)) (h1:cT da=some xs) (h2:cT db=some ys):dE F (.zip a b) ρ S= .ok (cK xs ys,S2):=by show (ev F a ρ S).bind (λx=>(ev F b ρ x.2).bind λy=>match cT x.1,cT y.1 with | some xs,some ys=>R.ok (cK xs ys,y.2) | _,_=> .bad)=_;rw[ha,R.ah,hb,R.ah];show (match cT da,cT db with | some xs,some ys=>R.ok (cK xs ys,S2) | _,_=> .bad)=_;rw[h1,h2]
noncomputable def bb (F:FT) (e:C):ai->Sx->R (List Dt×Sx):=λρ1 S1=>(ev F e ρ1 S1).bind λy=>ae (bu e y.1) (.ok ([y.1],y.2))
theorem aR {cap:List (Option Nat)} {it:lK} {tg:Tg} {cs:Cs} {e:C} {out:List Dt} (h:dE F it ρ S= .ok (ds,S1)) (hl:ds.length<=lim) (hk:(decide (rN it<=1)||kB F it ρ S)=true) (hc:aG (aJ tg (a8 F cs) (bb F e) (iQ cap ρ)) ds S1= .ok (out,S2)):
  ev F (.comp cap it tg cs e) ρ S= .ok (.lst out,S2):=by
 rw[ev,h,R.ah,Qc hl,hk,Bool.and_true,guard_true];show (aG (aJ tg (a8 F cs) (bb F e) (iQ cap ρ)) ds S1).bind _=_;rw[hc];rfl
theorem aK {tg:Tg} {e:C} {y:Dt} (hs:dU tg d ρ= .ok ρ1) (he:ev F e ρ1 S= .ok (y,S1)) (hb:bu e y=true):aJ tg (a8 F .nil) (bb F e) ρ d S= .ok ([y],S1):=by unfold aJ bb;rw[hs,R.ah,a8,R.ah];simp only[if_true,he,R.ah,hb,guard_true]
theorem turn_if {tg:Tg} {c e:C} {b:Bool} {y:Dt} (hs:dU tg d ρ= .ok ρ1) (hc:bV F c ρ1 S= .ok (b,S)) (he:b=true->ev F e ρ1 S= .ok (y,S)/\bu e y=true):aJ tg (a8 F (.cons c .nil)) (bb F e) ρ d S= .ok (if b=true then[y] else[],S):=by
 unfold aJ bb;rw[hs,R.ah,a8,hc,R.ah];cases b with
 | false=>rfl
 | true=>simp only[if_true,(he rfl).1,R.ah,(he rfl).2,guard_true]
theorem mD {k:Nat} (h:ds[k]?=some d):dg (.tup ds) (.int k)= .ok d/\dg (.lst ds) (.int k)= .ok d:=by
 have:sU ds k= .ok d:=by unfold sU;rw[L2.iZ h]
 exact⟨this,this⟩
end
mutual
theorem Fv:∀a b:Mx.D,bP (ofD a) (ofD b)=Mx.D.fI a b
 | .int i,.int j=>by simp[ofD,bP,Mx.D.fI]
 | .str i,.str j=>by simp[ofD,bP,Mx.D.fI]
 | .tup i,.tup j=>by simp[ofD,bP,Mx.D.fI,mn i j]
 | .int _,.str _=>by simp[ofD,bP,Mx.D.fI]
 | .int _,.tup _=>by simp[ofD,bP,Mx.D.fI]
 | .str _,.int _=>by simp[ofD,bP,Mx.D.fI]
 | .str _,.tup _=>by simp[ofD,bP,Mx.D.fI]
 | .tup _,.int _=>by simp[ofD,bP,Mx.D.fI]
 | .tup _,.str _=>by simp[ofD,bP,Mx.D.fI]
theorem mn:∀a b:List Mx.D,b8 (bC a) (bC b)=Mx.D.eqs a b
 | [],[]=>by simp[bC,b8,Mx.D.eqs]
 | [],_::_=>by simp[bC,b8,Mx.D.eqs]
 | _::_,[]=>by simp[bC,b8,Mx.D.eqs]
 | a::as,b::bs=>by simp[bC,b8,Mx.D.eqs,Fv a b,mn as bs]
end
theorem sV {ms:List Mx.D} (h:iP ms=true):cL .sorted [.lst (bC ms)]= .ok (.lst (bC (eA ms)))/\cL .sorted [.tup (bC ms)]= .ok (.lst (bC (eA ms))):=by
 constructor
 ·show (match iC (bC ms) with | some ms=>ae (iP ms) (R.ok (Dt.lst (bC (eA ms)))) | none=> .bad)=_;rw[jn];show ae (iP ms) _=_;rw[h];rfl
 ·show (match iC (bC ms) with | some ms=>ae (iP ms) (R.ok (Dt.lst (bC (eA ms)))) | none=> .bad)=_;rw[jn];show ae (iP ms) _=_;rw[h];rfl
theorem B3 {ms:List Mx.D} (k:Mx.SK) (hl:ms.length < 1000000) (hd:Mx.D.eO ms<=100) (hk:∀d∈ms,Gn k d=true) (hp:∀d∈ms,∀e∈ms,tS d e=true):iP ms=true:=by
 have vZ:([Mx.SK.tt,.ts,.ti,.s,.i].any λk=>ms.all (Gn k))=true:=by rw[Qk];exact⟨k,by cases k <;> simp,Qj.mpr hk⟩
 unfold iP;rw[vZ,Qc hl,Qc hd];simp only[Bool.true_and,Qo,Pw];exact .inr (Qj.mpr λd h=>Qj.mpr λe h2=>hp d h e h2)
theorem qR {n:Nat}:∀{ms:List Mx.D},(∀d∈ms,Mx.D.dep d<=n)->Mx.D.eO ms<=n
 | [],_=>by simp[Mx.D.eO]
 | m::ms,h=>by
  have h1:=h m PH;have h2:=qR λd hd=>h d (PC _ hd)
  simp only[Mx.D.eO]
  lia
theorem qt (ms:List Mx.D):(eA ms).Perm ms:=List.mergeSort_perm ..
variable {fs:List Fn}
noncomputable def uU (ic:Nat):Ts:=(.cons (.asg 3 (.bin .Add (.bin .Mult (.bin .Mod (.call ic (.cons (.var 0) (.cons (.var 1) .nil)) []) (.con (.int 2147483647))) (.bin .Add (.con (.int 48271)) (.bin .Mult (.con (.int 2)) (.var 1)))) (.bin .Mult (.con (.int 31)) (.var 1)))) (.cons (.ret (.bin .Mod (.bin .FloorDiv (.bin .Mod (.var 3) (.con (.int 2147483629))) (.con (.int 7))) (.var 2))) .nil))
noncomputable def ba (ns:List Int) (k many:Nat):Nat:=((((fE ns k % 2147483647) * (48271 + 2 * k) + 31 * k) % 2147483629 / 7) % many).toNat
theorem bt {ns:List Int} {k many:Nat} (h:0 < many):ba ns k many < many:=by
 unfold ba;have h1:=Ql (((fE ns k % 2147483647) * (48271 + 2 * k) + 31 * k) % 2147483629 / 7) (b:=many) (by lia);have h2:=Qm (((fE ns k % 2147483647) * (48271 + 2 * k) + 31 * k) % 2147483629 / 7) (b:=many) (by lia)
 lia
structure qD (fs:List Fn) (ip:Nat):Prop where
 ex:∃ic,fs[ic]?=some ⟨2,3,false,qF⟩/\fs[ip]?=some ⟨3,4,false,uU ic⟩
theorem sj {ip:Nat} (hp:qD fs ip) {n:Nat} (hn:2<=n) {ns:List Int} {k many:Nat} (hk:k < 1000000) (hm:0 < many):aq fs n ip [.bJ ns,.int k,.int many] none= .ok (.int (ba ns k many),none):=by
 obtain⟨ic,h1,h2⟩:=hp.ex;refine aA h2 (by lia) rfl ?_;show fin (aT (aq fs (n - 1)) (uU ic) [some (.bJ ns),some (.int k),some (.int many),none] none)=_;have hc:=qN h1 (n:=n - 1) (by lia) (ns:=ns) hk;generalize hx:fE ns k=x at hc;have r1:=Ql x (b:=2147483647) (by decide);have r2:=Qm x (b:=2147483647) (by decide);have m1:=cX (i:=x) (j:=2147483647) (by decide);have m2:=aO (i:=2) (j:=k) (.inl (by decide));have m3:=aO (i:=x % 2147483647) (j:=48271 + 2 * k) (.inl (by lia));have m4:=aO (i:=31) (j:=k) (.inl (by decide));have m5:=cX (i:=x % 2147483647 * (48271 + 2 * k) + 31 * k) (j:=2147483629) (by decide);have m6:=qh (i:=(x % 2147483647 * (48271 + 2 * k) + 31 * k) % 2147483629) (j:=7) (by decide) (by decide);have m7:=cX (i:=(x % 2147483647 * (48271 + 2 * k) + 31 * k) % 2147483629 / 7) (j:=many) (by lia);refine ao (d:= .int (x % 2147483647 * (48271 + 2 * k) + 31 * k)) (S1:=none) (by simp only[RX,hc,m1,m2,m3,m4]) rfl ?_;refine(ay (d:=_) (S1:=none) (by simp only[RX,m5,m6,m7];rfl)).trans ?_;have h1:=Ql (((x % 2147483647) * (48271 + 2 * k) + 31 * k) % 2147483629 / 7) (b:=many) (by lia);have e:((ba ns k many:Nat):Int)=((x % 2147483647) * (48271 + 2 * k) + 31 * k) % 2147483629 / 7 % many:=by unfold ba;rw[hx];omega
 rw[e]
theorem ir {n:Nat} {pre post:List Dt} {x:Dt} (h:bg 0 n=pre++x::post):pre.length < n/\x= .int pre.length:=by
 have hl:(bg 0 n).length=n:=by simp[bg]
 have h1:pre.length < n:=by rw[<-hl,h];simp
 refine⟨h1,?_⟩;have e:(bg 0 n)[pre.length]?=some x:=by rw[h];simp
 unfold bg at e;simp[h1] at e;exact e.symm
variable {fs:List Fn}
theorem wx {α:Type}:∀l:List α,l=[]\/∃a x,l=a++[x]
 | []=> .inl rfl
 | x::l=> .inr ⟨(x::l).dropLast,(x::l).getLast (by simp),(List.dropLast_concat_getLast (by simp)).symm⟩
variable {fs:List Fn}
theorem nU {α β:Type} {f:α->List β} {k:Nat}:∀{l:List α},(∀x∈l,(f x).length<=k)->(l.flatMap f).length<=l.length * k
 | [],_=>by simp
 | x::l,h=>by
  have h1:=h x PH;have h2:=nU λy hy=>h y (PC _ hy)
  rw[List.flatMap_cons,PY,P0,Nat.succ_mul]
  lia
theorem zZ {a b:List Dt} (h:a.length + b.length<=lim):iK .Add (.lst a) (.lst b)= .ok (.lst (a++b)):=by show ae (decide (a.length + b.length<=lim)) _=_;rw[Qc h];rfl
variable {fs:List Fn}
section
variable {F:FT} {S:Sx} {ρ:ai}
theorem bW (b:BI) (e:C):ev F (.bi b (.cons e .nil)) ρ S=(ev F e ρ S).bind λx=>(cL b [x.1]).bind λd=> .ok (d,x.2):=by simp only[RX];cases ev F e ρ S <;> rfl
theorem ints_map (l:List Int):intsOf (l.map Dt.int)=some l:=by
 induction l with
 | nil=>rfl
 | cons x l ih=>rw[Qr,intsOf,ih];rfl
theorem BR (l:List Int):cL .sum [.lst (l.map Dt.int)]= .ok (.int l.sum):=by show (match intsOf (l.map Dt.int) with | some ns=>R.ok (Dt.int ns.sum) | none=> .bad)=_;rw[ints_map]
end
variable {fs:List Fn}
theorem jf {a b:List Dt} (h:a.length + b.length<=lim):iK .Add (.tup a) (.tup b)= .ok (.tup (a++b)):=by show ae (decide (a.length + b.length<=lim)) _=_;rw[Qc h];rfl
variable {fs:List Fn}
noncomputable def jv (F:FT) (n:Nat) (fL:lK) (iB:Tg) (A2:Cs) (e:C):ai->Sx->R (List Dt×Sx):=λρ1 S1=>(dE F fL ρ1 S1).bind λx2=>ae (decide (n * x2.1.length<=lim)&&decide (rN fL=0)) (aG (aJ iB (a8 F A2) (bb F e) ρ1) x2.1 x2.2)
theorem jC {F:FT} {ρ:ai} {S S1 S2:Sx} {ds:List Dt} {cap:List (Option Nat)} {it fL:lK} {tg iB:Tg} {cs A2:Cs} {e:C} {out:List Dt} (h:dE F it ρ S= .ok (ds,S1)) (hl:ds.length<=lim) (hk:(decide (rN it<=1)||kB F it ρ S)=true) (hc:aG (aJ tg (a8 F cs) (jv F ds.length fL iB A2 e) (iQ cap ρ)) ds S1= .ok (out,S2)):
  ev F (.fH cap it tg cs fL iB A2 e) ρ S= .ok (.lst out,S2):=by
 rw[ev,h,R.ah,Qc hl,hk,Bool.and_true,guard_true];show (aG (aJ tg (a8 F cs) (jv F ds.length fL iB A2 e) (iQ cap ρ)) ds S1).bind _=_;rw[hc];rfl
theorem xR {F:FT} {ρ ρ1:ai} {S S1 S2:Sx} {d:Dt} {ds out:List Dt} {n:Nat} {fL:lK} {tg iB:Tg} {A2:Cs} {e:C} (hs:dU tg d ρ= .ok ρ1) (h:dE F fL ρ1 S= .ok (ds,S1)) (hl:n * ds.length<=lim) (hk:rN fL=0) (hc:aG (aJ iB (a8 F A2) (bb F e) ρ1) ds S1= .ok (out,S2)):
  aJ tg (a8 F .nil) (jv F n fL iB A2 e) ρ d S= .ok (out,S2):=by
 unfold aJ jv;rw[hs,R.ah,a8,R.ah];simp only[if_true,h,R.ah,Qc hl,Qc hk,Bool.and_true,guard_true,hc]
variable {fs:List Fn}
noncomputable def tI (l:List Int):Dt:= .tup (l.map Dt.int)
noncomputable def lI (R:List (List Int)):Dt:= .lst (R.map tI)
section
variable {F:FT} {S:Sx} {ρ:ai}
theorem cu {f:Dt->Sx->R (List Dt×Sx)} {g:Int->Dt}:∀{l:List Int},(∀x∈l,f (.int x) S= .ok ([g x],S))->aG f (l.map Dt.int) S= .ok (l.map g,S)
 | [],_=>rfl
 | x::l,h=>by rw[Qr,aG,h x PH,R.ah,cu λy hy=>h y (PC _ hy)];rfl
theorem bw {α:Type} {t:α->Dt} {f:Dt->Sx->R (List Dt×Sx)} {g:α->List Dt}:∀{l:List α},(∀x∈l,f (t x) S= .ok (g x,S))->aG f (l.map t) S= .ok (l.flatMap g,S)
 | [],_=>rfl
 | x::l,h=>by rw[Qr,aG,h x PH,R.ah,bw λy hy=>h y (PC _ hy)];rfl
theorem aS {α:Type} {t:α->Dt} {f:Dt->Sx->R (List Dt×Sx)} {g:α->Dt} {l:List α} (h:∀x∈l,f (t x) S= .ok ([g x],S)):aG f (l.map t) S= .ok (l.map g,S):=by rw[bw (g:=λx=>[g x]) h,iH]
theorem dc (a b:List Int):cK (a.map Dt.int) (b.map Dt.int)=(a.zip b).map λp=> .tup [.int p.1,.int p.2]:=by
 unfold cK
 induction a generalizing b with
 | nil=>rfl
 | cons x a ih=>cases b with | nil=>rfl | cons y b=>simp[ih]
theorem AB (l:List Int):cL .sum [tI l]= .ok (.int l.sum):=by show (match intsOf (l.map Dt.int) with | some ns=>R.ok (Dt.int ns.sum) | none=> .bad)=_;rw[ints_map]
end
noncomputable def cQ (a b:List Int):Int:=((a.zip b).map λp=>p.1 * p.2).sum
noncomputable abbrev Hk (x:Int):Prop:=x.natAbs < 2 ^ 64
noncomputable def nN:Ts:=(.cons (.ret (.bi .sum (.cons (.comp [none,none,none] (.zip (.var 0) (.var 1)) (.tp [1,2]) .nil (.bin .Mult (.var 1) (.var 2))) .nil))) .nil)
theorem sv {ip N:Nat} (hf:fs[ip]?=some ⟨2,2,false,nN⟩) (hN:1<=N) {a b:List Int} (hb:∀x∈b,Hk x) (hl:a.length<=1000):aq fs N ip [tI a,tI b] none= .ok (.int (cQ a b),none):=by
 have cW:lim=1000000:=rfl;refine aA hf hN rfl ?_;show fin (aT (aq fs (N - 1)) nN [some (tI a),some (tI b)] none)=_;refine ay ?_;have hc:aG (aJ (.tp [1,2]) (a8 (aq fs (N - 1)) .nil) (bb (aq fs (N - 1)) (.bin .Mult (.var 1) (.var 2))) [none,none,none]) (cK (a.map Dt.int) (b.map Dt.int)) none= .ok ((a.zip b).map λp=> .int (p.1 * p.2),none):=by
  rw[dc];refine aS λp hp=>?_
  have m:=aO (i:=p.1) (j:=p.2) (.inr (hb p.2 (List.of_mem_zip hp).2));exact aK (ρ1:=[none,some (.int p.1),some (.int p.2)]) rfl (by simp only[RX,m]) rfl
 rw[bW,aR (ds:=cK (a.map Dt.int) (b.map Dt.int)) (S1:=none) (hU (S1:=none) (S2:=none) rfl rfl rfl rfl) (by rw[dc,PL,List.length_zip];lia) rfl hc,R.ah];have e:((a.zip b).map λp=>Dt.int (p.1 * p.2))=((a.zip b).map λp=>p.1 * p.2).map Dt.int:=by rw[List.map_map];rfl
 rw[e,BR];rfl
noncomputable def gI (l:List Int) (p:Nat):Int:=l.getD p 0
noncomputable def cq (r:List Int) (p:Nat) (b:List Int):List Int:=(r.zip b).map λq=>gI b p * q.1 - gI r p * q.2
theorem jI {l:List Int} {p:Nat} (h:p < l.length):dg (tI l) (.int p)= .ok (.int (gI l p)):=by refine(mD (ds:=l.map Dt.int) (k:=p) (d:= .int (gI l p)) ?_).1;rw[P1,P7 h];simp[gI,List.getD,P7 h]
noncomputable def uP:Ts:=(.cons (.ret (.bi .tuple (.cons (.comp [none,none,none,some 2,some 1,some 0] (.zip (.var 0) (.var 2)) (.tp [1,2]) .nil (.bin .Sub (.bin .Mult (.idx (.var 3) (.var 4)) (.var 1)) (.bin .Mult (.idx (.var 5) (.var 4)) (.var 2)))) .nil))) .nil)
theorem pP {l:List Int} {p:Nat} (h:p < l.length):gI l p∈l:=by simp[gI,List.getD,P7 h]
theorem vn {ic N:Nat} (hf:fs[ic]?=some ⟨3,3,false,uP⟩) (hN:1<=N) {r b:List Int} {p:Nat} (hr:p < r.length) (hb:p < b.length) (N9:∀x∈r,Hk x) (Iq:∀x∈b,Hk x) (hl:r.length<=1000):aq fs N ic [tI r,.int p,tI b] none= .ok (tI (cq r p b),none):=by
 have cW:lim=1000000:=rfl;refine aA hf hN rfl ?_;show fin (aT (aq fs (N - 1)) uP [some (tI r),some (.int p),some (tI b)] none)=_;refine ay ?_;have i1:=jI hr;have i2:=jI hb;have hc:aG (aJ (.tp [1,2]) (a8 (aq fs (N - 1)) .nil) (bb (aq fs (N - 1)) (.bin .Sub (.bin .Mult (.idx (.var 3) (.var 4)) (.var 1)) (.bin .Mult (.idx (.var 5) (.var 4)) (.var 2)))) [none,none,none,some (tI b),some (.int p),some (tI r)]) (cK (r.map Dt.int) (b.map Dt.int)) none= .ok ((r.zip b).map λq=> .int (gI b p * q.1 - gI r p * q.2),none):=by
  rw[dc];refine aS λq hq=>?_
  have m1:=aO (i:=gI b p) (j:=q.1) (.inr (N9 _ (List.of_mem_zip hq).1));have m2:=aO (i:=gI r p) (j:=q.2) (.inr (Iq _ (List.of_mem_zip hq).2));exact aK (ρ1:=[none,some (.int q.1),some (.int q.2),some (tI b),some (.int p),some (tI r)]) rfl (by simp only[RX,i1,i2,m1,m2]) rfl
 rw[bW,aR (ds:=cK (r.map Dt.int) (b.map Dt.int)) (S1:=none) (hU (S1:=none) (S2:=none) rfl rfl rfl rfl) (by rw[dc,PL,List.length_zip];lia) rfl hc,R.ah];have e:((r.zip b).map λq=>Dt.int (gI b p * q.1 - gI r p * q.2))=(cq r p b).map Dt.int:=by unfold cq;rw[List.map_map];rfl
 rw[e];rfl
theorem qP {r b:List Int} (h:r.length=b.length) (p:Nat):(cq r p b).length=r.length:=by
 unfold cq;rw[PL,List.length_zip]
 lia
theorem pI {r b:List Int} {p k:Nat} (h:r.length=b.length) (hk:k < r.length):gI (cq r p b) k=gI b p * gI r k - gI r p * gI b k:=by
 have hz:k < (r.zip b).length:=by rw[List.length_zip];lia
 unfold cq gI;rw[List.getD,P1,P7 hz,List.getElem_zip];simp[List.getD,P7 hk,P7 (h▸hk:k < b.length)]
theorem vm {r b:List Int} {p:Nat} {B:Nat} (hr:p < r.length) (hb:p < b.length) (h1:∀x∈r,x.natAbs<=B) (h2:∀x∈b,x.natAbs<=B):∀x∈cq r p b,x.natAbs<=2 * B * B:=by
 intro x hx;obtain⟨q,hq,rfl⟩:=Qi.mp hx;have a1:=Nat.mul_le_mul (h2 _ (pP hb)) (h1 _ (List.of_mem_zip hq).1);have a2:=Nat.mul_le_mul (h1 _ (pP hr)) (h2 _ (List.of_mem_zip hq).2);have e1:(gI b p * q.1).natAbs=(gI b p).natAbs * q.1.natAbs:=Int.natAbs_mul ..;have e2:(gI r p * q.2).natAbs=(gI r p).natAbs * q.2.natAbs:=Int.natAbs_mul ..;have:2 * B * B=B * B + B * B:=by rw[Nat.mul_assoc,Nat.two_mul]
 lia
theorem jB {F:FT} {ρ:ai} {S S1:Sx} {b:BI} {es:Cs} {v:Bool} (h:ev F (.bi b es) ρ S= .ok (.bl v,S1)):bV F (.bi b es) ρ S= .ok (v,S1):=by
 rw[ev] at h;rw[bV];cases h1:fR F es ρ S with
 | ok x=>
  rw[h1] at h;simp only[R.ah] at h ⊢;cases h2:cL b x.1 with
  | ok d=>rw[h2] at h;simp only[R.ah] at h ⊢;cases h;rfl
  | ex k=>rw[h2] at h;cases h
  | bad=>rw[h2] at h;cases h
 | ex k=>rw[h1] at h;cases h
 | bad=>rw[h1] at h;cases h
theorem qL (l:List Bool):eM (l.map Dt.bl)=some l:=by
 induction l with
 | nil=>rfl
 | cons x l ih=>rw[Qr,eM,ih];rfl
theorem jt (l:List Bool):cL .any [.lst (l.map Dt.bl)]= .ok (.bl (l.any id)):=by show (match eM (l.map Dt.bl) with | some ns=>R.ok (Dt.bl (ns.any id)) | none=> .bad)=_;rw[qL]
theorem BQ (l:List Bool):cL .all [.lst (l.map Dt.bl)]= .ok (.bl (l.all id)):=by show (match eM (l.map Dt.bl) with | some ns=>R.ok (Dt.bl (ns.all id)) | none=> .bad)=_;rw[qL]
theorem lS (i:Int):cL .abs [.int i]= .ok (.int i.natAbs):=by show R.ok (Dt.int (if i < 0 then -i else i))=_;congr 2;split <;> lia
noncomputable def qG:C:=(.bi .any (.cons (.fH [none,none,none] (.seq (.var 0)) (.nm 1) .nil (.seq (.var 1)) (.nm 2) .nil (.cmp .Gt (.bi .abs (.cons (.var 2) .nil)) (.con (.int 3)))) .nil))
noncomputable def qH:C:=(.bi .any (.cons (.comp [none,none] (.seq (.var 2)) (.nm 1) .nil (.cmp .Gt (.bi .abs (.cons (.var 1) .nil)) (.con (.int 20)))) .nil))
noncomputable def yL:Ts:=(.cons (.ifs (.cmp .Gt (.bi .len (.cons (.var 0) .nil)) (.con (.int 16))) (.cons (.rs 0 []) .nil) .nil) (.cons (.ifs (.cmp .Gt (.var 1) (.con (.int 4))) (.cons (.rs 0 []) .nil) .nil) (.cons (.ifs qG (.cons (.rs 0 []) .nil) .nil) (.cons (.ifs qH (.cons (.rs 0 []) .nil) .nil) .nil))))
noncomputable def nO (M:List (List Int)):Bool:=M.any λr=>r.any λx=>decide (3 < x.natAbs)
noncomputable def lU (r:List Int):Bool:=r.any λx=>decide (20 < x.natAbs)
noncomputable def brk (M:List (List Int)) (many:Int) (r:List Int):Bool:=decide (16 < M.length)||decide (4 < many)||nO M||lU r
theorem gZ {ik N:Nat} (hf:fs[ik]?=some ⟨3,3,false,yL⟩) (hN:1<=N) {M:List (List Int)} {many:Int} {r:List Int} (hR:M.length<=1000) (Nz:∀q∈M,q.length<=100) (hr:r.length<=1000):
  aq fs N ik [lI M,.int many,tI r] none=if brk M many r=true then .ex 0 else .ok (.aP,none):=by
 have cW:lim=1000000:=rfl;refine aA hf hN rfl ?_;show fin (aT (aq fs (N - 1)) yL [some (lI M),some (.int many),some (tI r)] none)=_;have ln:cL .len [lI M]= .ok (.int M.length):=by show R.ok (Dt.int ((M.map tI).length:Nat))=_;rw[PL]
 have raise:∀ts,fin (aT (aq fs (N - 1)) (.cons (.rs 0 []) ts) [some (lI M),some (.int many),some (tI r)] none)= .ex 0:=λts=>by rw[aT,ex];rfl
 unfold brk;by_cases h1:16 < M.length
 ·have:(16:Int) < M.length:=by lia
  rw[Qc h1];exact cG (S1:=none) (by simp only[RX,ln,Qc this]) (raise _)
 rw[P8 h1];refine bM (S1:=none) (by simp only[RX,ln];rw[P8 (by lia)]) ?_;by_cases h2:4 < many
 ·rw[Qc h2];exact cG (S1:=none) (by simp only[RX,Qc h2]) (raise _)
 rw[P8 h2];refine bM (S1:=none) (by simp only[RX,P8 h2]) ?_;have hA:ev (aq fs (N - 1)) qG [some (lI M),some (.int many),some (tI r)] none= .ok (.bl (nO M),none):=by
  have hc:aG (aJ (.nm 1) (a8 (aq fs (N - 1)) .nil) (jv (aq fs (N - 1)) (M.map tI).length (.seq (.var 1)) (.nm 2) .nil (.cmp .Gt (.bi .abs (.cons (.var 2) .nil)) (.con (.int 3)))) [none,none,none]) (M.map tI) none= .ok (M.flatMap λq=>q.map λx=> .bl (decide ((3:Int) < x.natAbs)),none):=bw λq hq=>by have hl:=Nz q hq;refine xR (ρ1:=[none,some (tI q),none]) (ds:=q.map Dt.int) (S1:=none) rfl rfl ?_ rfl (cu λx hx=>aK (ρ1:=[none,some (tI q),some (.int x)]) rfl (by simp only[RX,lS]) rfl);rw[PL,PL];exact PP (Nat.mul_le_mul hR hl) (by decide)
  unfold qG;rw[bW,jC (ds:=M.map tI) (S1:=none) rfl (by rw[PL];lia) rfl hc,R.ah];have e:(M.flatMap λq=>q.map λx=>Dt.bl (decide ((3:Int) < x.natAbs)))=(M.flatMap λq=>q.map λx=>decide ((3:Int) < x.natAbs)).map Dt.bl:=by rw[List.map_flatMap];congr 1;funext q;rw[List.map_map];rfl
  rw[e,jt];show R.ok (Dt.bl _,none)=_;congr 3;unfold nO;rw[List.any_flatMap];congr 1;funext q;rw[List.any_map];congr 1;funext x;show decide _=decide _;congr 1;exact propext (by lia)
 have hB:ev (aq fs (N - 1)) qH [some (lI M),some (.int many),some (tI r)] none= .ok (.bl (lU r),none):=by
  have hc:aG (aJ (.nm 1) (a8 (aq fs (N - 1)) .nil) (bb (aq fs (N - 1)) (.cmp .Gt (.bi .abs (.cons (.var 1) .nil)) (.con (.int 20)))) [none,none]) (r.map Dt.int) none= .ok (r.map λx=> .bl (decide ((20:Int) < x.natAbs)),none):=cu λx hx=>aK (ρ1:=[none,some (.int x)]) rfl (by simp only[RX,lS]) rfl
  unfold qH;rw[bW,aR (ds:=r.map Dt.int) (S1:=none) rfl (by rw[PL];lia) rfl hc,R.ah];have e:(r.map λx=>Dt.bl (decide ((20:Int) < x.natAbs)))=(r.map λx=>decide ((20:Int) < x.natAbs)).map Dt.bl:=by rw[List.map_map];rfl
  rw[e,jt];show R.ok (Dt.bl _,none)=_;congr 3;unfold lU;rw[List.any_map];congr 1;funext x;show decide _=decide _;congr 1;exact propext (by lia)
 have tA:bV (aq fs (N - 1)) qG [some (lI M),some (.int many),some (tI r)] none= .ok (nO M,none):=jB hA;have tB:bV (aq fs (N - 1)) qH [some (lI M),some (.int many),some (tI r)] none= .ok (lU r,none):=jB hB;cases h3:nO M with
 | true=>rw[h3] at tA;exact cG (S1:=none) tA (raise _)
 | false=>
  rw[h3] at tA;refine bM (S1:=none) tA ?_;cases h4:lU r with
  | true=>rw[h4] at tB;exact cG (S1:=none) tB (raise _)
  | false=>rw[h4] at tB;exact bM (S1:=none) tB rfl
noncomputable def yS:Ts:=(.cons (.fr (.tp [2,3]) (.zip (.var 0) (.var 1)) (.cons (.ifs (.cmp .Gt (.var 2) (.var 3)) (.cons (.ret (.con (.bl false))) .nil) .nil) .nil)) (.cons (.ret (.con (.bl true))) .nil))
theorem Ee {iu N:Nat} (hf:fs[iu]?=some ⟨2,4,false,yS⟩) (hN:1<=N) (a b:List Int):∃v,aq fs N iu [tI a,tI b] none= .ok (.bl v,none):=by
 have loop:=jF (S:=none) (tg:= .tp [2,3]) (body:=aT (aq fs (N - 1)) (.cons (.ifs (.cmp .Gt (.var 2) (.var 3)) (.cons (.ret (.con (.bl false))) .nil) .nil) .nil)) (ds:=cK (a.map Dt.int) (b.map Dt.int)) (ρ:=[some (tI a),some (tI b),none,none])
  (λpre ρ=>∃x y,ρ=[some (tI a),some (tI b),x,y]) (λd=>d= .bl false) ⟨none,none,rfl⟩ (by
   rintro pre x post ρ e ⟨x2,x3,rfl⟩;have hx:x∈cK (a.map Dt.int) (b.map Dt.int):=by rw[e];simp
   rw[dc] at hx;obtain⟨q,_,rfl⟩:=Qi.mp hx;refine⟨_,[some (tI a),some (tI b),some (.int q.1),some (.int q.2)],rfl,?_⟩;by_cases h:q.2 < q.1
   ·exact .inr ⟨_,mL (S1:=none) (by simp only[RX,Qc h]) (qd rfl),rfl⟩
   ·exact .inl ⟨fY (S1:=none) (by simp only[RX,P8 h]) rfl,_,_,rfl⟩)
 have it:dE (aq fs (N - 1)) (.zip (.var 0) (.var 1)) [some (tI a),some (tI b),none,none] none= .ok (cK (a.map Dt.int) (b.map Dt.int),none):=hU (S1:=none) (S2:=none) rfl rfl rfl rfl;rcases loop with ⟨ρ',h1,x,y,rfl⟩ | ⟨d,ρ',h1,rfl⟩
 ·exact⟨true,aA hf hN rfl (cV it rfl h1 (ay rfl))⟩
 ·refine⟨false,aA hf hN rfl (gz (ρ1:=ρ') (S1:=none) ?_)⟩;rw[ex];exact(congrArg (R.bind · _) it).trans h1
noncomputable def BM (iu:Nat):Ts:=(.cons (.fr (.nm 2) (.seq (.var 1)) (.cons (.ifs (.call iu (.cons (.var 2) (.cons (.var 0) .nil)) []) (.cons (.ret (.con (.bl true))) .nil) .nil) .nil)) (.cons (.ret (.con (.bl false))) .nil))
theorem wK {iu io N:Nat} (hu:fs[iu]?=some ⟨2,4,false,yS⟩) (hf:fs[io]?=some ⟨2,3,false,BM iu⟩) (hN:2<=N) (a:List Int) (M:List (List Int)):∃v,aq fs N io [tI a,lI M] none= .ok (.bl v,none):=by
 have loop:=jF (S:=none) (tg:= .nm 2) (body:=aT (aq fs (N - 1)) (.cons (.ifs (.call iu (.cons (.var 2) (.cons (.var 0) .nil)) []) (.cons (.ret (.con (.bl true))) .nil) .nil) .nil)) (ds:=M.map tI) (ρ:=[some (tI a),some (lI M),none])
  (λpre ρ=>∃x,ρ=[some (tI a),some (lI M),x]) (λd=>d= .bl true) ⟨none,rfl⟩ (by
   rintro pre x post ρ e ⟨x2,rfl⟩;have hx:x∈M.map tI:=by rw[e];simp
   obtain⟨q,_,rfl⟩:=Qi.mp hx;refine⟨_,[some (tI a),some (lI M),some (tI q)],rfl,?_⟩;obtain⟨v,hv⟩:=Ee hu (N:=N - 1) (by lia) q a;cases v with
   | true=>exact .inr ⟨_,mL (S1:=none) (by simp only[RX,hv]) (qd rfl),rfl⟩
   | false=>exact .inl ⟨fY (S1:=none) (by simp only[RX,hv]) rfl,_,rfl⟩)
 rcases loop with ⟨ρ',h1,x,rfl⟩ | ⟨d,ρ',h1,rfl⟩
 ·exact⟨false,aA hf (by lia) rfl (cV (ds:=M.map tI) (S1:=none) rfl rfl h1 (ay rfl))⟩
 ·refine⟨true,aA hf (by lia) rfl (gz (ρ1:=ρ') (S1:=none) ?_)⟩;rw[ex];exact h1
variable {fs:List Fn}
noncomputable def pD (q:Nat×List Int):Dt:= .tup [.int q.1,tI q.2]
noncomputable def iO:Nat->Nat
 | 0=>20
 | p + 1=>2 * iO p * iO p
theorem qJ:∀p,1<=iO p
 | 0=>by decide
 | p + 1=>by have:=qJ p;have h:1 * 1<=2 * iO p * iO p:=Nat.mul_le_mul (by lia) this;simpa [iO] using h
theorem lR (p:Nat):iO p<=iO (p + 1):=by have:=qJ p;have h:1 * iO p<=2 * iO p * iO p:=Nat.mul_le_mul (by lia) (PF _);simpa [iO] using h
theorem pB {p q:Nat} (h:p<=q):iO p<=iO q:=by
 induction h with
 | refl=>exact PF _
 | step _ ih=>exact PP ih (lR _)
structure yh (m p:Nat) (PS:List (Nat×List Int)) (LS:List (List Int)):Prop where
 len:∀r∈LS,r.length=m + 1
 bd:∀r∈LS,∀x∈r,x.natAbs<=iO p
 pl:∀q∈PS,q.1 < p/\q.2.length=m + 1/\gI q.2 q.1≠0
 pb:∀q∈PS,∀x∈q.2,x.natAbs<=iO p
 zr:∀q∈PS,∀r∈LS,gI r q.1=0
 nd:(PS.map (·.1)).Nodup
 ct:PS.length<=p
theorem yh.next {m p:Nat} {PS:List (Nat×List Int)} {LS:List (List Int)} (h:yh m p PS LS):yh m (p + 1) PS LS:=
 ⟨h.len,λr hr x hx=>PP (h.bd r hr x hx) (lR p),λq hq=>⟨by have:=(h.pl q hq).1;lia,(h.pl q hq).2⟩,λq hq x hx=>PP (h.pb q hq x hx) (lR p),h.zr,h.nd,by have:=h.ct;lia⟩
theorem yh.clear {m p:Nat} {PS:List (Nat×List Int)} {LS:List (List Int)} {b:List Int} (h:yh m p PS LS) (hp:p < m) (hb:b∈LS) (hn:gI b p≠0):yh m (p + 1) (PS.map (λq=>(q.1,cq q.2 p b))++[(p,b)]) (LS.map λr=>cq r p b):=by
 have lb:=h.len b hb;refine⟨?_,?_,?_,?_,?_,?_,?_⟩
 ·intro r hr;obtain⟨r0,h0,rfl⟩:=Qi.mp hr;rw[qP (by rw[h.len r0 h0,lb]),h.len r0 h0]
 ·intro r hr x hx;obtain⟨r0,h0,rfl⟩:=Qi.mp hr;exact vm (by rw[h.len r0 h0];lia) (by rw[lb];lia) (h.bd r0 h0) (h.bd b hb) x hx
 ·intro q hq;rcases P5.mp hq with hq | hq
  ·obtain⟨q0,h0,rfl⟩:=Qi.mp hq;obtain⟨h1,h2,h3⟩:=h.pl q0 h0;refine⟨by show q0.1 < p + 1;lia,by show (cq q0.2 p b).length=_;rw[qP (by rw[h2,lb]),h2],?_⟩;show gI (cq q0.2 p b) q0.1≠0;rw[pI (by rw[h2,lb]) (by rw[h2];lia),h.zr q0 h0 b hb,Int.mul_zero,Int.sub_zero];exact Int.mul_ne_zero hn h3
  ·rw[Qh] at hq;subst hq;exact⟨by show p < p + 1;lia,lb,hn⟩
 ·intro q hq x hx;rcases P5.mp hq with hq | hq
  ·obtain⟨q0,h0,rfl⟩:=Qi.mp hq;exact vm (by rw[(h.pl q0 h0).2.1];lia) (by rw[lb];lia) (h.pb q0 h0) (h.bd b hb) x hx
  ·rw[Qh] at hq;subst hq;exact PP (h.bd b hb x hx) (lR p)
 ·intro q hq r hr;obtain⟨r0,h0,rfl⟩:=Qi.mp hr;have l0:=h.len r0 h0;rcases P5.mp hq with hq | hq
  ·obtain⟨q0,h1,rfl⟩:=Qi.mp hq;show gI (cq r0 p b) q0.1=0;rw[pI (by rw[l0,lb]) (by rw[l0];have:=(h.pl q0 h1).1;lia),h.zr q0 h1 r0 h0,h.zr q0 h1 b hb,Int.mul_zero,Int.mul_zero,Int.sub_zero]
  ·rw[Qh] at hq;subst hq;show gI (cq r0 p b) p=0;rw[pI (by rw[l0,lb]) (by rw[l0];lia),Int.mul_comm,Int.sub_self]
 ·rw[Qs,List.map_map,List.nodup_append];refine⟨h.nd,by simp,λa ha c hc e=>?_⟩;obtain⟨q,hq,rfl⟩:=Qi.mp ha;rw[Qr,List.map_nil,Qh] at hc;have:=(h.pl q hq).1;have e:q.1=c:=e
  lia
 ·rw[PY,PL];have:=h.ct;simp only[P0,List.length_nil]
  lia
noncomputable def AU:C:=(.comp [none,none,some 5] (.seq (.var 3)) (.nm 1) (.cons (.cmp .NotEq (.idx (.var 1) (.var 2)) (.con (.int 0))) .nil) (.var 1))
noncomputable def uW (ic:Nat):C:=(.comp [none,none,none,some 7,some 5] (.seq (.var 4)) (.tp [1,2]) .nil (.tup (.cons (.var 1) (.cons (.call ic (.cons (.var 2) (.cons (.var 4) (.cons (.var 3) .nil))) []) .nil))))
noncomputable def AV (ic:Nat):C:=(.comp [none,none,some 7,some 5] (.seq (.var 3)) (.nm 1) .nil (.call ic (.cons (.var 1) (.cons (.var 3) (.cons (.var 2) .nil))) []))
noncomputable def AR (ic:Nat):Ts:=(.cons (.asg 6 AU) (.cons (.ifs (.var 6) (.cons (.asg 7 (.idx (.var 6) (.con (.int 0)))) (.cons (.asg 4 (.bin .Add (uW ic) (.lst (.cons (.tup (.cons (.var 5) (.cons (.var 7) .nil))) .nil)))) (.cons (.asg 3 (AV ic)) .nil))) .nil) .nil))
noncomputable def AS:C:=(.comp [none,none,none] (.zip (.var 0) (.var 2)) (.tp [1,2]) .nil (.bin .Add (.bi .tuple (.cons (.var 1) .nil)) (.tup (.cons (.var 2) .nil))))
noncomputable def uV:C:=(.bi .any (.cons (.comp [none,none,some 1] (.seq (.var 3)) (.nm 1) .nil (.cmp .NotEq (.idx (.var 1) (.var 2)) (.con (.int 0)))) .nil))
noncomputable def yP (ic:Nat):Ts:=(.cons (.asg 3 AS) (.cons (.asg 4 (.lst .nil)) (.cons (.fr (.nm 5) (.rng1 (.var 1)) (AR ic)) (.cons (.ifs uV (.cons (.ret (.con .aP)) .nil) .nil) (.cons (.ret (.var 4)) .nil)))))
theorem zip_rows (M:List (List Int)) (r:List Int):cK (M.map tI) (r.map Dt.int)=(M.zip r).map λq=> .tup [tI q.1,.int q.2]:=by
 unfold cK
 induction M generalizing r with
 | nil=>rfl
 | cons x a ih=>cases r with | nil=>rfl | cons y b=>simp[ih]
theorem bz (l:List Int):lz (tI l)=true:=by
 show ij (l.map Dt.int)=true
 induction l with
 | nil=>rfl
 | cons x l ih=>rw[Qr,ij,ih];rfl
theorem DU {ic is N:Nat} (hc:fs[ic]?=some ⟨3,3,false,uP⟩) (hf:fs[is]?=some ⟨3,8,false,yP ic⟩) (hN:2<=N) {M:List (List Int)} {r:List Int} {m:Nat} (hm:m<=4) (hM:M.length<=16) (hr:r.length<=16) (FG:∀q∈M,q.length=m) (JM:∀q∈M,∀x∈q,x.natAbs<=3) (J8:∀x∈r,x.natAbs<=20):
  aq fs N is [lI M,.int m,tI r] none= .ok (.aP,none)\/∃PS LS,aq fs N is [lI M,.int m,tI r] none= .ok (.lst (PS.map pD),none)/\yh m m PS LS:=by
 have cW:lim=1000000:=rfl;have b4:iO 3 < 2 ^ 64:=by decide
 let L0:=(M.zip r).map λq=>q.1++[q.2]
 have s0:yh m 0 [] L0:=by
  refine⟨λq hq=>?_,λq hq x hx=>?_,by simp,by simp,by simp,by simp,by simp⟩
  ·obtain⟨z,hz,rfl⟩:=Qi.mp hq;rw[PY,FG _ (List.of_mem_zip hz).1];rfl
  ·obtain⟨z,hz,rfl⟩:=Qi.mp hq;show x.natAbs<=20;rcases P5.mp hx with hx | hx
   ·have:=JM _ (List.of_mem_zip hz).1 x hx;lia
   ·rw[Qh] at hx;subst hx;exact J8 _ (List.of_mem_zip hz).2
 have l0:L0.length<=16:=by show ((M.zip r).map _).length<=16;rw[PL,List.length_zip];lia
 have hF:ev (aq fs (N - 1)) AS [some (lI M),some (.int m),some (tI r),none,none,none,none,none] none= .ok (.lst (L0.map tI),none):=by
  have tK:aG (aJ (.tp [1,2]) (a8 (aq fs (N - 1)) .nil) (bb (aq fs (N - 1)) (.bin .Add (.bi .tuple (.cons (.var 1) .nil)) (.tup (.cons (.var 2) .nil)))) [none,none,none]) (cK (M.map tI) (r.map Dt.int)) none= .ok ((M.zip r).map λq=>tI (q.1++[q.2]),none):=by
   rw[zip_rows];refine aS λq hq=>?_
   have hl:=FG _ (List.of_mem_zip hq).1;have ha:iK .Add (tI q.1) (.tup [.int q.2])= .ok (tI (q.1++[q.2])):=by show ae (decide ((q.1.map Dt.int).length + 1<=lim)) (R.ok (Dt.tup (q.1.map Dt.int++[.int q.2])))=_;rw[Qc (by rw[PL];lia),guard_true];unfold tI;rw[Qs];rfl
   have ht:cL .tuple [tI q.1]= .ok (tI q.1):=rfl;exact aK (ρ1:=[none,some (tI q.1),some (.int q.2)]) rfl (by simp only[RX,ht,ha]) (by unfold bu;rw[bz,Bool.or_true])
  have e:((M.zip r).map λq=>tI (q.1++[q.2]))=L0.map tI:=by show _=((M.zip r).map _).map tI;rw[List.map_map];rfl
  rw[e] at tK;exact aR (ds:=cK (M.map tI) (r.map Dt.int)) (S1:=none) (hU (S1:=none) (S2:=none) rfl rfl rfl rfl) (by rw[zip_rows,PL,List.length_zip];lia) rfl tK
 have loop:=dH (S:=none) (tg:= .nm 5) (body:=aT (aq fs (N - 1)) (AR ic)) (ds:=bg 0 m) (ρ:=[some (lI M),some (.int m),some (tI r),some (.lst (L0.map tI)),some (.lst []),none,none,none])
  (λpre ρ=>∃PS LS x5 x6 x7,yh m pre.length PS LS/\LS.length<=16/\ρ=[some (lI M),some (.int m),some (tI r),some (.lst (LS.map tI)),some (.lst (PS.map pD)),x5,x6,x7]) ⟨[],L0,none,none,none,s0,l0,rfl⟩ (by
   rintro pre x post ρ e ⟨PS,LS,x5,x6,x7,st,hl,rfl⟩;obtain⟨h1,rfl⟩:=ir e;generalize hp:pre.length=p at *;have e1:(pre++[Dt.int p]).length=p + 1:=by rw[PY,hp];rfl
   have hB:iO p < 2 ^ 64:=Nat.lt_of_le_of_lt (pB (by lia)) b4;have hH:ev (aq fs (N - 1)) AU [some (lI M),some (.int m),some (tI r),some (.lst (LS.map tI)),some (.lst (PS.map pD)),some (.int p),x6,x7] none= .ok (.lst ((LS.filter λq=> !(gI q p==0)).map tI),none):=by
    have tK:aG (aJ (.nm 1) (a8 (aq fs (N - 1)) (.cons (.cmp .NotEq (.idx (.var 1) (.var 2)) (.con (.int 0))) .nil)) (bb (aq fs (N - 1)) (.var 1)) [none,none,some (.int p)]) (LS.map tI) none= .ok (LS.flatMap λq=>if (!(gI q p==0))=true then[tI q] else[],none):=bw λq hq=>by have hi:=jI (l:=q) (p:=p) (by rw[st.len q hq];lia);exact turn_if (ρ1:=[none,some (tI q),some (.int p)]) rfl (by simp only[RX,hi]) λ_=>⟨by simp only[RX],by unfold bu;rw[bz,Bool.or_true]⟩
    rw[cZ] at tK;exact aR (ds:=LS.map tI) (S1:=none) rfl (by rw[PL];lia) rfl tK
   generalize hv:(LS.filter λq=> !(gI q p==0))=hav at hH;cases hav with
   | nil=>refine⟨_,_,rfl,fZ (d:= .lst []) (S1:=none) hH rfl (fY (S1:=none) rfl rfl),PS,LS,some (.int p),some (.lst []),x7,by rw[e1];exact st.next,hl,rfl⟩
   | cons b bs=>
    have Ip:b∈LS/\gI b p≠0:=by
     have:b∈LS.filter λq=> !(gI q p==0):=by rw[hv];exact PH
     have:=List.mem_filter.mp this;exact⟨this.1,by simpa using this.2⟩
    have lb:=st.len b Ip.1;have Iq:∀x∈b,Hk x:=λx hx=>Nat.lt_of_le_of_lt (st.bd b Ip.1 x hx) hB
    have hP:ev (aq fs (N - 1)) (uW ic) [some (lI M),some (.int m),some (tI r),some (.lst (LS.map tI)),some (.lst (PS.map pD)),some (.int p),some (.lst ((b::bs).map tI)),some (tI b)] none= .ok (.lst ((PS.map λq=>(q.1,cq q.2 p b)).map pD),none):=by
     have tK:aG (aJ (.tp [1,2]) (a8 (aq fs (N - 1)) .nil) (bb (aq fs (N - 1)) (.tup (.cons (.var 1) (.cons (.call ic (.cons (.var 2) (.cons (.var 4) (.cons (.var 3) .nil))) []) .nil)))) [none,none,none,some (tI b),some (.int p)]) (PS.map pD) none= .ok (PS.map λq=>pD (q.1,cq q.2 p b),none):=aS λq hq=>by have d9:=(st.pl q hq).2.1;have:=vn hc (N:=N - 1) (by lia) (r:=q.2) (b:=b) (p:=p) (by lia) (by lia) (λx hx=>Nat.lt_of_le_of_lt (st.pb q hq x hx) hB) Iq (by lia);exact aK (ρ1:=[none,some (.int q.1),some (tI q.2),some (tI b),some (.int p)]) rfl (by simp only[RX,this];rfl) (by unfold bu;simp only[pD,lz,ij,bz,Bool.and_true,Bool.or_true])
     have e2:(PS.map λq=>pD (q.1,cq q.2 p b))=(PS.map λq=>(q.1,cq q.2 p b)).map pD:=by rw[List.map_map];rfl
     rw[e2] at tK;exact aR (ds:=PS.map pD) (S1:=none) rfl (by rw[PL];have:=st.ct;lia) rfl tK
    have hL:∀y4,ev (aq fs (N - 1)) (AV ic) [some (lI M),some (.int m),some (tI r),some (.lst (LS.map tI)),y4,some (.int p),some (.lst ((b::bs).map tI)),some (tI b)] none= .ok (.lst ((LS.map λq=>cq q p b).map tI),none):=λy4=>by
     have tK:aG (aJ (.nm 1) (a8 (aq fs (N - 1)) .nil) (bb (aq fs (N - 1)) (.call ic (.cons (.var 1) (.cons (.var 3) (.cons (.var 2) .nil))) [])) [none,none,some (tI b),some (.int p)]) (LS.map tI) none= .ok (LS.map λq=>tI (cq q p b),none):=aS λq hq=>by have d9:=st.len q hq;have:=vn hc (N:=N - 1) (by lia) (r:=q) (b:=b) (p:=p) (by lia) (by lia) (λx hx=>Nat.lt_of_le_of_lt (st.bd q hq x hx) hB) Iq (by lia);exact aK (ρ1:=[none,some (tI q),some (tI b),some (.int p)]) rfl (by simp only[RX,this]) (by unfold bu;rw[bz,Bool.or_true])
     have e2:(LS.map λq=>tI (cq q p b))=(LS.map λq=>cq q p b).map tI:=by rw[List.map_map];rfl
     rw[e2] at tK;exact aR (ds:=LS.map tI) (S1:=none) rfl (by rw[PL];lia) rfl tK
    have hAdd:ev (aq fs (N - 1)) (.bin .Add (uW ic) (.lst (.cons (.tup (.cons (.var 5) (.cons (.var 7) .nil))) .nil))) [some (lI M),some (.int m),some (tI r),some (.lst (LS.map tI)),some (.lst (PS.map pD)),some (.int p),some (.lst ((b::bs).map tI)),some (tI b)] none= .ok (.lst ((PS.map (λq=>(q.1,cq q.2 p b))++[(p,b)]).map pD),none):=by rw[ev,hP,R.ah];simp only[RX];show (iK .Add (.lst ((PS.map λq=>(q.1,cq q.2 p b)).map pD)) (.lst [pD (p,b)])).bind _=_;show (ae (decide (((PS.map λq=>(q.1,cq q.2 p b)).map pD).length + 1<=lim)) _).bind _=_;rw[Qc (by rw[PL,PL];have:=st.ct;lia),guard_true,Qs];rfl
    refine⟨_,_,rfl,fZ (d:= .lst ((b::bs).map tI)) (S1:=none) hH rfl (mL (S1:=none) rfl (fZ (d:=tI b) (S1:=none) (by have h0:=(mD (ds:=(b::bs).map tI) (k:=0) (d:=tI b) rfl).2;simp only[RX];exact congrArg (R.bind · _) h0) (by unfold bu;rw[bz,Bool.or_true]) (fZ (S1:=none) hAdd rfl (fZ (S1:=none) (hL _) rfl rfl)))),PS.map (λq=>(q.1,cq q.2 p b))++[(p,b)],LS.map λq=>cq q p b,some (.int p),_,some (tI b),by rw[e1];exact st.clear (by lia) Ip.1 Ip.2,by rw[PL];exact hl,rfl⟩)
 obtain⟨ρ1,ek,PS,LS,x5,x6,x7,st,hl,rfl⟩:=loop;have em:(bg 0 m).length=m:=by simp[bg]
 rw[em] at st;have hA:bV (aq fs (N - 1)) uV [some (lI M),some (.int m),some (tI r),some (.lst (LS.map tI)),some (.lst (PS.map pD)),x5,x6,x7] none= .ok ((LS.map λq=> !(gI q m==0)).any id,none):=by
  have tK:aG (aJ (.nm 1) (a8 (aq fs (N - 1)) .nil) (bb (aq fs (N - 1)) (.cmp .NotEq (.idx (.var 1) (.var 2)) (.con (.int 0)))) [none,none,some (.int m)]) (LS.map tI) none= .ok (LS.map λq=> .bl (!(gI q m==0)),none):=aS λq hq=>by have hi:=jI (l:=q) (p:=m) (by rw[st.len q hq];lia);exact aK (ρ1:=[none,some (tI q),some (.int m)]) rfl (by simp only[RX,hi]) rfl
  refine jB ?_;rw[bW,aR (ds:=LS.map tI) (S1:=none) rfl (by rw[PL];lia) rfl tK,R.ah];have e:(LS.map λq=>Dt.bl (!(gI q m==0)))=(LS.map λq=> !(gI q m==0)).map Dt.bl:=by rw[List.map_map];rfl
  rw[e,jt];rfl
 have body:∀{x:R (Dt×Sx)},fin (aT (aq fs (N - 1)) (.cons (.ifs uV (.cons (.ret (.con .aP)) .nil) .nil) (.cons (.ret (.var 4)) .nil)) [some (lI M),some (.int m),some (tI r),some (.lst (LS.map tI)),some (.lst (PS.map pD)),x5,x6,x7] none)=x->aq fs N is [lI M,.int m,tI r] none=x:=λ {x} h=>by refine aA hf (by lia) rfl ?_;show fin (aT (aq fs (N - 1)) (yP ic) [some (lI M),some (.int m),some (tI r),none,none,none,none,none] none)=_;exact ao (S1:=none) hF rfl (ao (d:= .lst []) (S1:=none) rfl rfl (cV (ds:=bg 0 m) (S1:=none) (eU (n:=m) rfl (by lia)) rfl ek h))
 cases hb:((LS.map λq=> !(gI q m==0)).any id) with
 | true=>rw[hb] at hA;exact .inl (body (cG (S1:=none) hA (ay rfl)))
 | false=>rw[hb] at hA;exact .inr ⟨PS,LS,body (bM (S1:=none) hA (ay rfl)),st⟩
variable {fs:List Fn}
theorem lT {l:List Int} (h:l≠[]):cL .maxL [.lst (l.map Dt.int)]= .ok (.int (cO l)):=by
 show (match intsOf (l.map Dt.int) with | some ns=>ae (!ns.isEmpty) (R.ok (Dt.int (cO ns))) | none=> .bad)=_;rw[ints_map];cases l with
 | nil=>exact absurd rfl h
 | cons=>rfl
theorem yW {l:List Int} (h:l≠[]):cL .minL [.lst (l.map Dt.int)]= .ok (.int (iT l)):=by
 show (match intsOf (l.map Dt.int) with | some ns=>ae (!ns.isEmpty) (R.ok (Dt.int (iT ns))) | none=> .bad)=_;rw[ints_map];cases l with
 | nil=>exact absurd rfl h
 | cons=>rfl
noncomputable def gB:Nat->Nat->Nat
 | 0,_=>1
 | 1,f=>20 + 3 * f
 | 2,f=>6 * (20 + 3 * f)
 | 3,f=>36 * (20 + 3 * f)
 | _,_=>0
noncomputable def uT:C:=(.bi .maxL (.cons (.fH [none,none,none] (.seq (.var 0)) (.nm 1) .nil (.seq (.var 1)) (.nm 2) .nil (.bi .abs (.cons (.var 2) .nil))) .nil))
noncomputable def uS:C:=(.bi .maxL (.cons (.comp [none,none] (.seq (.var 1)) (.nm 1) .nil (.bi .abs (.cons (.var 1) .nil))) .nil))
noncomputable def uR:Ts:=(.cons (.ifs (.cmp .Eq (.var 2) (.con (.int 0))) (.cons (.ret (.con (.int 1))) .nil) .nil) (.cons (.asg 4 uT) (.cons (.asg 5 uS) (.cons (.asg 6 (.tup (.cons (.con (.int 1)) (.cons (.bin .Mult (.con (.int 2)) (.var 4)) (.cons (.bin .Mult (.bin .Mult (.con (.int 4)) (.var 4)) (.var 4)) (.cons (.con (.int 0)) .nil)))))) (.cons (.ret (.bin .Mult (.idx (.var 6) (.bin .Sub (.var 2) (.con (.int 1)))) (.bin .Add (.var 5) (.bin .Mult (.var 3) (.var 4))))) .nil)))))
theorem Cm {ig N:Nat} (hf:fs[ig]?=some ⟨4,7,false,uR⟩) (hN:1<=N) {M:List (List Int)} {r:List Int} {m s f:Nat} (hm:1<=m) (Nt:M≠[]) (J7:r≠[]) (hM:M.length<=16) (hr:r.length<=16) (FG:∀q∈M,q.length=m) (J4:m<=4) (JM:∀q∈M,∀x∈q,x.natAbs<=3) (J8:∀x∈r,x.natAbs<=20) (hs:s<=4) (Pe:f<=4):
  ∃g:Nat,aq fs N ig [lI M,tI r,.int s,.int f] none= .ok (.int g,none)/\g<=gB s f:=by
 have cW:lim=1000000:=rfl;by_cases h0:s=0
 ·subst h0;refine⟨1,aA hf hN rfl ?_,PF _⟩;show fin (aT (aq fs (N - 1)) uR [some (lI M),some (tI r),some (.int 0),some (.int f),none,none,none] none)=_;exact cG (S1:=none) rfl (ay rfl)
 let A:=M.flatMap λq=>q.map λx=>(x.natAbs:Int)
 have LL:A≠[]:=by obtain⟨q,hq⟩:=List.exists_mem_of_ne_nil M Nt;have hl:=FG q hq;obtain⟨x,hx⟩:=List.exists_mem_of_ne_nil q (by intro z;rw[z] at hl;simp at hl;lia);intro z;have:(x.natAbs:Int)∈A:=List.mem_flatMap.mpr ⟨q,hq,Qi.mpr ⟨x,hx,rfl⟩⟩;rw[z] at this;cases this
 let G:=r.map λx=>(x.natAbs:Int)
 have LN:G≠[]:=λz=>J7 (List.map_eq_nil_iff.mp z)
 have tA:=dQ A LL;have tG:=dQ G LN;have bA:0<=cO A/\cO A<=3:=by
  obtain⟨q,hq,h⟩:=List.mem_flatMap.mp tA.1;obtain⟨x,hx,e⟩:=Qi.mp h;have:=JM q hq x hx
  lia
 have bG:0<=cO G/\cO G<=20:=by
  obtain⟨x,hx,e⟩:=Qi.mp tG.1;have:=J8 x hx
  lia
 have hT:ev (aq fs (N - 1)) uT [some (lI M),some (tI r),some (.int s),some (.int f),none,none,none] none= .ok (.int (cO A),none):=by
  have hc:aG (aJ (.nm 1) (a8 (aq fs (N - 1)) .nil) (jv (aq fs (N - 1)) (M.map tI).length (.seq (.var 1)) (.nm 2) .nil (.bi .abs (.cons (.var 2) .nil))) [none,none,none]) (M.map tI) none= .ok (M.flatMap λq=>q.map λx=> .int x.natAbs,none):=bw λq hq=>by have hl:=FG q hq;refine xR (ρ1:=[none,some (tI q),none]) (ds:=q.map Dt.int) (S1:=none) rfl rfl ?_ rfl (cu λx hx=>aK (ρ1:=[none,some (tI q),some (.int x)]) rfl (by simp only[RX,lS]) rfl);rw[PL,PL];exact PP (Nat.mul_le_mul hM (by lia:q.length<=4)) (by decide)
  unfold uT;rw[bW,jC (ds:=M.map tI) (S1:=none) rfl (by rw[PL];lia) rfl hc,R.ah];have e:(M.flatMap λq=>q.map λx=>Dt.int x.natAbs)=A.map Dt.int:=by show _=(M.flatMap _).map Dt.int;rw[List.map_flatMap];congr 1;funext q;rw[List.map_map];rfl
  rw[e,lT LL];rfl
 have hG:ev (aq fs (N - 1)) uS [some (lI M),some (tI r),some (.int s),some (.int f),some (.int (cO A)),none,none] none= .ok (.int (cO G),none):=by
  have hc:aG (aJ (.nm 1) (a8 (aq fs (N - 1)) .nil) (bb (aq fs (N - 1)) (.bi .abs (.cons (.var 1) .nil))) [none,none]) (r.map Dt.int) none= .ok (r.map λx=> .int x.natAbs,none):=cu λx hx=>aK (ρ1:=[none,some (.int x)]) rfl (by simp only[RX,lS]) rfl
  unfold uS;rw[bW,aR (ds:=r.map Dt.int) (S1:=none) rfl (by rw[PL];lia) rfl hc,R.ah];have e:(r.map λx=>Dt.int x.natAbs)=G.map Dt.int:=by show _=(r.map _).map Dt.int;rw[List.map_map];rfl
  rw[e,lT LN];rfl
 generalize cO A=top at hT hG bA;generalize cO G=goal at hG bG;have m1:=aO (i:=2) (j:=top) (.inl (by decide));have m2:=aO (i:=4) (j:=top) (.inl (by decide));have m3:=aO (i:=4 * top) (j:=top) (.inr (by lia));have m4:=aO (i:=(f:Int)) (j:=top) (.inr (by lia));have h4:∃mi:Int,dg (.tup [.int 1,.int (2 * top),.int (4 * top * top),.int 0]) (.int ((s:Int) - 1))= .ok (.int mi)/\0<=mi/\(s=1->mi=1)/\(s=2->mi<=6)/\(s=3->mi<=36)/\(s=4->mi=0):=by
  have q:0<=top * top/\top * top<=9:=⟨Int.mul_nonneg bA.1 bA.1,by have:=Int.mul_le_mul bA.2 bA.2 bA.1 (by decide:(0:Int)<=3);lia⟩;have e3:4 * top * top=4 * (top * top):=Int.mul_assoc ..
  match s,h0,hs with
  | 1,_,_=>exact⟨1,rfl,by lia,λ_=>rfl,by lia,by lia,by lia⟩
  | 2,_,_=>exact⟨2 * top,rfl,by lia,by lia,by lia,by lia,by lia⟩
  | 3,_,_=>exact⟨4 * top * top,rfl,by lia,by lia,by lia,by lia,by lia⟩
  | 4,_,_=>exact⟨0,rfl,by lia,by lia,by lia,by lia,by lia⟩
 obtain⟨mi,hi,i0,i1,i2,i3,i4⟩:=h4;have ft:0<=(f:Int) * top/\(f:Int) * top<=3 * f:=⟨Int.mul_nonneg (by lia) bA.1,by have:=Int.mul_le_mul_of_nonneg_left bA.2 (show (0:Int)<=f by lia);lia⟩;have m5:=aO (i:=mi) (j:=goal + (f:Int) * top) (.inr (by lia));have nn:0<=mi * (goal + (f:Int) * top):=Int.mul_nonneg i0 (by lia);have s0:((s:Int)==0)=false:=beq_eq_false_iff_ne.mpr (by lia);refine⟨(mi * (goal + (f:Int) * top)).toNat,aA hf hN rfl ?_,?_⟩
 ·show fin (aT (aq fs (N - 1)) uR [some (lI M),some (tI r),some (.int s),some (.int f),none,none,none] none)=_;refine bM (S1:=none) (by simp only[RX,s0]) (ao (S1:=none) hT rfl (ao (S1:=none) hG rfl (ao (d:= .tup [.int 1,.int (2 * top),.int (4 * top * top),.int 0]) (S1:=none) (by simp only[RX,m1,m2,m3]) rfl (ay ?_))));simp only[RX,hi,m4,m5];rw[Int.toNat_of_nonneg nn]
 ·have hx:goal + (f:Int) * top<=20 + 3 * f:=by lia
  have ub:∀k:Nat,mi<=k->mi * (goal + (f:Int) * top)<=k * (20 + 3 * f):=λk hk=>Int.mul_le_mul hk hx (by lia) (by lia)
  match s,h0,hs with
  | 1,_,_=>have:=ub 1 (by have:=i1 rfl;lia);simp only[gB];lia
  | 2,_,_=>have:=ub 6 (by have:=i2 rfl;lia);simp only[gB];lia
  | 3,_,_=>have:=ub 36 (by have:=i3 rfl;lia);simp only[gB];lia
  | 4,_,_=>rw[i4 rfl,Int.zero_mul];exact Nat.zero_le _
theorem B6 {α:Type} (xs:List α) {p:Nat} (h:p<=xs.length):cutD xs none (some (p:Int))=xs.take p:=by unfold cutD;rw[HT.j5,HT.sH,List.drop_zero,Nat.sub_zero,Nat.min_eq_left h]
theorem B7 {α:Type} (xs:List α) {p:Nat} (h:p<=xs.length):cutD xs (some (p:Int)) none=xs.drop p:=by unfold cutD;rw[HT.j5,HT.sH,Nat.min_eq_left h,List.take_of_length_le (by rw[List.length_drop];lia)]
noncomputable def AW:C:=(.fH [none,none,none,some 2,some 4] (.seq (.var 3)) (.nm 1) .nil (.rng1 (.bin .Add (.var 3) (.con (.int 1)))) (.nm 2) .nil (.bin .Add (.bin .Add (.sliH (.var 1) (.var 4)) (.tup (.cons (.var 2) .nil))) (.sliL (.var 1) (.bin .Add (.var 4) (.con (.int 1))))))
noncomputable def yT:Ts:=(.cons (.asg 3 (.lst (.cons (.bin .Mult (.tup (.cons (.con (.int 0)) .nil)) (.var 0)) .nil))) (.cons (.fr (.nm 4) (.seq (.var 1)) (.cons (.asg 3 AW) .nil)) (.cons (.ret (.var 3)) .nil)))
theorem dq {m:Nat} (x:Int) (h:m<=1000):iK .Mult (.tup [.int x]) (.int m)= .ok (tI (List.replicate m x)):=by
 show ae (decide (((m:Int)).natAbs<=lim)&&decide ([Dt.int x].length * ((m:Int)).toNat<=lim)) (R.ok (Dt.tup (List.replicate ((m:Int)).toNat [Dt.int x]).flatten))=_;have cW:lim=1000000:=rfl;rw[Qc (by lia),Qc (by simp;lia)];have e:(List.replicate ((m:Int)).toNat [Dt.int x]).flatten=(List.replicate m x).map Dt.int:=by
  rw[Int.toNat_natCast,List.map_replicate]
  induction m with
  | zero=>rfl
  | succ m ih=>rw[List.replicate_succ,List.flatten_cons,ih (by lia),List.replicate_succ];rfl
 rw[e];rfl
theorem Eg {iw N:Nat} (hf:fs[iw]?=some ⟨3,5,false,yT⟩) (hN:1<=N) {m g:Nat} {FR:List Nat} (hm:m<=4) (Nk:∀p∈FR,p < m) (hg:(g + 1) ^ FR.length<=900000):
  ∃Q:List (List Int),aq fs N iw [.int m,.lst (FR.map λ(p:Nat)=>Dt.int p),.int g] none= .ok (lI Q,none)/\Q.length<=900000/\∀q∈Q,q.length=m/\∀x∈q,(0:Int)<=x/\x<=(g:Int):=by
 have cW:lim=1000000:=rfl;have loop:=dH (S:=none) (tg:= .nm 4) (body:=aT (aq fs (N - 1)) (.cons (.asg 3 AW) .nil)) (ds:=FR.map λ(p:Nat)=>Dt.int p) (ρ:=[some (.int m),some (.lst (FR.map λ(p:Nat)=>Dt.int p)),some (.int g),some (lI [List.replicate m 0]),none])
  (λpre ρ=>∃Q x4,Q.length<=(g + 1) ^ pre.length/\(∀q∈Q,q.length=m/\∀x∈q,(0:Int)<=x/\x<=(g:Int))/\ρ=[some (.int m),some (.lst (FR.map λ(p:Nat)=>Dt.int p)),some (.int g),some (lI Q),x4])
  ⟨[List.replicate m 0],none,by simp,λq hq=>by rw[Qh] at hq;subst hq;exact⟨by simp,λx hx=>by have:=List.eq_of_mem_replicate hx;lia⟩,rfl⟩ (by
   rintro pre x post ρ e ⟨Q,x4,hl,hQ,rfl⟩;have hx:x∈FR.map λ(p:Nat)=>Dt.int p:=by rw[e];simp
   obtain⟨p,hp,rfl⟩:=Qi.mp hx;have Pj:=Nk p hp;have k7:pre.length + 1<=FR.length:=by
    have:=congrArg List.length e;simp at this
    lia
   have Mb:(g + 1) ^ (pre.length + 1)<=900000:=PP (Nat.pow_le_pow_right (by lia) k7) hg;have Pb:Q.length * (g + 1)<=(g + 1) ^ (pre.length + 1):=by rw[Nat.pow_succ];exact Nat.mul_le_mul_right _ hl
   have EC:Q.length<=Q.length * (g + 1):=Nat.le_mul_of_pos_right _ (by lia);have hc:aG (aJ (.nm 1) (a8 (aq fs (N - 1)) .nil) (jv (aq fs (N - 1)) (Q.map tI).length (.rng1 (.bin .Add (.var 3) (.con (.int 1)))) (.nm 2) .nil (.bin .Add (.bin .Add (.sliH (.var 1) (.var 4)) (.tup (.cons (.var 2) .nil))) (.sliL (.var 1) (.bin .Add (.var 4) (.con (.int 1)))))) [none,none,none,some (.int g),some (.int p)]) (Q.map tI) none= .ok (Q.flatMap λq=>(List.range (g + 1)).map λ(n:Nat)=>tI (q.set p n),none):=bw λq hq=>by
    have lq:=(hQ q hq).1;refine xR (ρ1:=[none,some (tI q),none,some (.int g),some (.int p)]) (ds:=bg 0 (g + 1)) (S1:=none) rfl (eU (n:=g + 1) (by simp only[RX];rfl) ?_) ?_ rfl ?_
    ·have:g + 1<=(g + 1) ^ (pre.length + 1):=by rw[Nat.pow_succ];exact Nat.le_mul_of_pos_left _ (Nat.pow_pos (by lia))
     lia
    ·rw[PL];simp only[bg,PL,List.length_range]
     lia
    ·have er:bg 0 (g + 1)=(List.range (g + 1)).map λ(n:Nat)=>Dt.int n:=by unfold bg;exact List.map_congr_left λi _=>by rw[Int.zero_add]
     rw[er];refine aS λn hn=>?_
     have c1:f9 (tI q) none (some (p:Int))= .ok (tI (q.take p)):=by show R.ok (Dt.tup (cutD (q.map Dt.int) none (some (p:Int))))=_;rw[B6 _ (by rw[PL];lia),<-List.map_take];rfl
     have c2:f9 (tI q) (some ((p:Int) + 1)) none= .ok (tI (q.drop (p + 1))):=by show R.ok (Dt.tup (cutD (q.map Dt.int) (some (((p + 1:Nat)):Int)) none))=_;rw[B7 _ (by rw[PL];lia),<-List.map_drop];rfl
     have a1:iK .Add (tI (q.take p)) (.tup [.int n])= .ok (tI (q.take p++[(n:Int)])):=by show ae (decide (((q.take p).map Dt.int).length + 1<=lim)) (R.ok (Dt.tup ((q.take p).map Dt.int++[.int n])))=_;rw[Qc (by rw[PL,List.length_take];lia),guard_true];unfold tI;rw[Qs];rfl
     have a2:iK .Add (tI (q.take p++[(n:Int)])) (tI (q.drop (p + 1)))= .ok (tI (q.set p n)):=by show ae (decide (((q.take p++[(n:Int)]).map Dt.int).length + ((q.drop (p + 1)).map Dt.int).length<=lim)) (R.ok (Dt.tup ((q.take p++[(n:Int)]).map Dt.int++(q.drop (p + 1)).map Dt.int)))=_;rw[Qc (by simp only[PL,PY,List.length_take,List.length_drop,P0,List.length_nil];lia),guard_true,<-Qs,List.set_eq_take_append_cons_drop,if_pos (by lia),PV];rfl
     exact aK (ρ1:=[none,some (tI q),some (.int n),some (.int g),some (.int p)]) rfl (by simp only[RX,c1,c2,a1,a2]) (by unfold bu;rw[bz,Bool.or_true])
   have yu:=jC (F:=aq fs (N - 1)) (cap:=[none,none,none,some 2,some 4]) (it:= .seq (.var 3)) (ρ:=[some (.int m),some (.lst (FR.map λ(p:Nat)=>Dt.int p)),some (.int g),some (lI Q),some (.int p)]) (S:=none) (ds:=Q.map tI) (S1:=none) rfl (by rw[PL];lia) rfl hc;have e2:(Q.flatMap λq=>(List.range (g + 1)).map λ(n:Nat)=>tI (q.set p n))=(Q.flatMap λq=>(List.range (g + 1)).map λ(n:Nat)=>q.set p (n:Int)).map tI:=by rw[List.map_flatMap];congr 1;funext q;rw[List.map_map];rfl
   rw[e2] at yu;refine⟨_,_,rfl,fZ (S1:=none) yu rfl rfl,Q.flatMap λq=>(List.range (g + 1)).map λ(n:Nat)=>q.set p (n:Int),some (.int p),?_,?_,rfl⟩
   ·have:=nU (f:=λq=>(List.range (g + 1)).map λ(n:Nat)=>q.set p (n:Int)) (k:=g + 1) (l:=Q) λq _=>by simp
    rw[PY,List.length_singleton]
    lia
   ·intro q' rz;obtain⟨q,hq,h⟩:=List.mem_flatMap.mp rz;obtain⟨n,hn,rfl⟩:=Qi.mp h;have hn:=Qu.mp hn;refine⟨by rw[List.length_set];exact(hQ q hq).1,λx hx=>?_⟩;rcases List.mem_or_eq_of_mem_set hx with hx | hx
    ·exact(hQ q hq).2 x hx
    ·lia)
 obtain⟨ρ1,ek,Q,x4,hl,hQ,rfl⟩:=loop;rw[PL] at hl;refine⟨Q,aA hf hN rfl ?_,by lia,hQ⟩;show fin (aT (aq fs (N - 1)) yT [some (.int m),some (.lst (FR.map λ(p:Nat)=>Dt.int p)),some (.int g),none,none] none)=_;have h0:=dq (m:=m) 0 (by lia);exact ao (d:=lI [List.replicate m 0]) (S1:=none) (by simp only[RX,h0];rfl) rfl (cV (ds:=FR.map λ(p:Nat)=>Dt.int p) (S1:=none) rfl rfl ek (ay rfl))
variable {fs:List Fn}
noncomputable abbrev yg (m:Nat) (q:List Int):Prop:=q.length=m/\∀x∈q,(0:Int)<=x/\x.natAbs < 2 ^ 200
theorem su {A B:Nat}:∀{l q:List Int},(∀x∈l,x.natAbs<=A)->(∀x∈q,x.natAbs<=B)->(cQ l q).natAbs<=l.length * (A * B)
 | [],q,_,_=>by simp[cQ]
 | x::l,[],_,_=>by simp[cQ]
 | x::l,y::q,h1,h2=>by
  have ih:=su (l:=l) (q:=q) (λz hz=>h1 z (PC _ hz)) λz hz=>h2 z (PC _ hz)
  have e:cQ (x::l) (y::q)=x * y + cQ l q:=rfl;have h3:=Nat.mul_le_mul (h1 x PH) (h2 y PH);have h4:(x * y).natAbs=x.natAbs * y.natAbs:=Int.natAbs_mul ..;have h5:=Int.natAbs_add_le (x * y) (cQ l q);rw[e,P0,Nat.succ_mul]
  lia
theorem vq {α:Type} (xs:List α) (h:xs≠[]):cutD xs none (some (-1))=xs.dropLast:=by
 unfold cutD;have:xs.length≠0:=λz=>h (List.eq_nil_of_length_eq_zero z)
 have e:HT.bF xs.length xs.length (some (-1))=xs.length - 1:=by
  show (if (-1:Int) < 0 then((-1:Int) + (xs.length:Int)).toNat else min (-1:Int).toNat xs.length)=_;rw[if_pos (by decide)]
  lia
 rw[HT.j5,e,List.drop_zero,Nat.sub_zero,List.dropLast_eq_take]
noncomputable def uQ (ip:Nat):Ts:=(.cons (.asgT [5,6] (.bi .dvm (.cons (.bin .Sub (.idx (.var 4) (.neg (.con (.int 1)))) (.call ip (.cons (.sliH (.var 4) (.neg (.con (.int 1)))) (.cons (.var 0) .nil)) [])) (.cons (.idx (.var 4) (.var 3)) .nil)))) (.cons (.ifs (.or (.cmp .NotEq (.var 6) (.con (.int 0))) (.cmp .Lt (.var 5) (.con (.int 0)))) (.cons (.ret (.con .aP)) .nil) .nil) (.cons (.qr 2 (.var 3) (.var 5)) .nil)))
noncomputable def yM (ip:Nat):Ts:=(.cons (.asgM 2 (.bi .list (.cons (.var 0) .nil))) (.cons (.fr (.tp [3,4]) (.seq (.var 1)) (uQ ip)) (.cons (.ret (.bi .tuple (.cons (.mvr 2) .nil))) .nil)))
theorem tT {x:Int} (h:x.natAbs<=iO 4) (h0:x≠0):x.natAbs.log2 < 9000:=by
 have h1:x.natAbs < 2 ^ 100:=Nat.lt_of_le_of_lt h (by decide);have h2:x.natAbs.log2 < 100:=(Nat.log2_lt (by lia)).mpr h1
 lia
theorem B4 {ip ic N:Nat} (hp:fs[ip]?=some ⟨2,2,false,nN⟩) (hf:fs[ic]?=some ⟨2,7,false,yM ip⟩) (hN:2<=N) {m:Nat} {PS:List (Nat×List Int)} {LS:List (List Int)} (hm:m<=4) (st:yh m m PS LS) {q:List Int} (hq:yg m q) (hs:∀x∈q,Hk x):
  aq fs N ic [tI q,.lst (PS.map pD)] none= .ok (.aP,none)\/∃q',yg m q'/\aq fs N ic [tI q,.lst (PS.map pD)] none= .ok (tI q',none):=by
 have cW:lim=1000000:=rfl;have loop:=jF (S:=none) (tg:= .tp [3,4]) (body:=aT (aq fs (N - 1)) (uQ ip)) (ds:=PS.map pD) (ρ:=[some (tI q),some (.lst (PS.map pD)),some (.lst (q.map Dt.int)),none,none,none,none])
  (λpre ρ=>∃w x3 x4 x5 x6,yg m w/\ρ=[some (tI q),some (.lst (PS.map pD)),some (.lst (w.map Dt.int)),x3,x4,x5,x6]) (λd=>d= .aP) ⟨q,none,none,none,none,hq,rfl⟩ (by
   rintro pre x post ρ e ⟨w,x3,x4,x5,x6,hw,rfl⟩;have hx:x∈PS.map pD:=by rw[e];simp
   obtain⟨z,hz,rfl⟩:=Qi.mp hx;obtain⟨z1,z2,z3⟩:=st.pl z hz;have MJ:z.2≠[]:=λh=>by rw[h] at z2;simp at z2
   obtain⟨l,y,ey⟩:∃l y,z.2=l++[y]:=(wx z.2).resolve_left MJ;have hi:dg (tI z.2) (.int (-1))= .ok (.int y):=by show sU (z.2.map Dt.int) (-1)=_;rw[ey,Qs];unfold sU;have:km (l.map Dt.int++[y].map Dt.int) (-1)=some (.int y):=Mx.nL _ _;rw[this]
   have hc:f9 (tI z.2) none (some (-1))= .ok (tI l):=by show R.ok (Dt.tup (cutD (z.2.map Dt.int) none (some (-1))))=_;rw[vq _ (by rw[Ne,List.map_eq_nil_iff];exact MJ),ey,Qs];simp[tI]
   have hl:l.length=m:=by rw[ey,PY] at z2;simpa using z2
   have Iz:=sv (N:=N - 1) hp (by lia) (a:=l) (b:=q) hs (by lia);have FZ:=jI (l:=z.2) (p:=z.1) (by lia);have NH:=PP (st.pb z hz _ (pP (by lia:z.1 < z.2.length))) (pB hm);have Ir:cL .dvm [.int (y - cQ l q),.int (gI z.2 z.1)]= .ok (.tup [.int ((y - cQ l q).fdiv (gI z.2 z.1)),.int ((y - cQ l q).fmod (gI z.2 z.1))]):=by show ae (decide (gI z.2 z.1≠0)&&decide ((gI z.2 z.1).natAbs.log2 < 9000)) _=_;rw[Qc z3,Qc (tT NH z3)];rfl
   have kF:=Int.mul_fdiv_add_fmod (y - cQ l q) (gI z.2 z.1);have FK:(y - cQ l q).natAbs < 2 ^ 200:=by
    have NG:=pB hm;have b1:∀x∈z.2,x.natAbs<=iO 4:=λx hx=>PP (st.pb z hz x hx) NG
    have b2:=su (A:=iO 4) (B:=2 ^ 64) (l:=l) (q:=q) (λx hx=>b1 x (by rw[ey];exact List.mem_append_left _ hx)) λx hx=>Nat.le_of_lt (hs x hx)
    have b3:=b1 y (by rw[ey];simp);have b5:l.length * (iO 4 * 2 ^ 64)<=4 * (iO 4 * 2 ^ 64):=Nat.mul_le_mul_right _ (by lia);have b6:=Int.natAbs_sub_le y (cQ l q);have b7:iO 4 + 4 * (iO 4 * 2 ^ 64) < 2 ^ 200:=by decide
    exact Nat.lt_of_le_of_lt (PP b6 (Nat.add_le_add b3 (PP b2 b5))) b7
   generalize EI:y - cQ l q=nm at Ir kF FK;generalize nm.fdiv (gI z.2 z.1)=n at Ir kF;generalize nm.fmod (gI z.2 z.1)=rest at Ir kF;have kZ:∀{ts:Ts} {r:RS},aT (aq fs (N - 1)) ts [some (tI q),some (.lst (PS.map pD)),some (.lst (w.map Dt.int)),some (.int z.1),some (tI z.2),some (.int n),some (.int rest)] none=r->
     aT (aq fs (N - 1)) (.cons (.asgT [5,6] (.bi .dvm (.cons (.bin .Sub (.idx (.var 4) (.neg (.con (.int 1)))) (.call ip (.cons (.sliH (.var 4) (.neg (.con (.int 1)))) (.cons (.var 0) .nil)) [])) (.cons (.idx (.var 4) (.var 3)) .nil)))) ts) [some (tI q),some (.lst (PS.map pD)),some (.lst (w.map Dt.int)),some (.int z.1),some (tI z.2),x5,x6] none=r:=λ {ts r} h=>by
    refine nx (ρ1:=[some (tI q),some (.lst (PS.map pD)),some (.lst (w.map Dt.int)),some (.int z.1),some (tI z.2),some (.int n),some (.int rest)]) (S1:=none) ?_ h;have hv:ev (aq fs (N - 1)) (.bi .dvm (.cons (.bin .Sub (.idx (.var 4) (.neg (.con (.int 1)))) (.call ip (.cons (.sliH (.var 4) (.neg (.con (.int 1)))) (.cons (.var 0) .nil)) [])) (.cons (.idx (.var 4) (.var 3)) .nil))) [some (tI q),some (.lst (PS.map pD)),some (.lst (w.map Dt.int)),some (.int z.1),some (tI z.2),x5,x6] none= .ok (.tup [.int n,.int rest],none):=by simp only[RX,hi,hc,Iz,FZ,EI,Ir]
    rw[ex,hv];rfl
   refine⟨[some (tI q),some (.lst (PS.map pD)),some (.lst (w.map Dt.int)),some (.int z.1),some (tI z.2),x5,x6],?_⟩;by_cases hb:(!(rest==0))=true\/n < 0
   ·refine⟨[some (tI q),some (.lst (PS.map pD)),some (.lst (w.map Dt.int)),some (.int z.1),some (tI z.2),some (.int n),some (.int rest)],rfl,.inr ⟨.aP,kZ (mL (S1:=none) ?_ (qd rfl)),rfl⟩⟩;simp only[RX];rcases hb with h | h
    ·rw[h];rfl
    ·cases (!(rest==0)) with
     | true=>rfl
     | false=>rw[if_neg (by simp),Qc h]
   ·have h1:(!(rest==0))=false:=by cases h:(!(rest==0)) with | true=>exact absurd (.inl h) hb | false=>rfl
    have h2:¬n < 0:=λz=>hb (.inr z)
    refine⟨_,rfl,.inl ⟨kZ (fY (S1:=none) (by simp only[RX,h1,P8 h2];rfl) (nx (qW (ds:=w.map Dt.int) (d:= .int n) (S1:=none) (S2:=none) (n:=(z.1:Int)) (j:=z.1) rfl rfl rfl rfl ?_) rfl)),w.set z.1 n,some (.int z.1),some (tI z.2),some (.int n),some (.int rest),⟨by rw[List.length_set];exact hw.1,λx hx=>?_⟩,?_⟩⟩
    ·unfold mF;rw[PL,if_pos (by lia),if_pos (by rw[hw.1];lia)];simp
    ·rcases List.mem_or_eq_of_mem_set hx with hx | hx
     ·exact hw.2 x hx
     ·subst hx;refine⟨by lia,Nat.lt_of_le_of_lt ?_ FK⟩;have r0:rest=0:=by simpa using h1
      have e:nm.natAbs=(gI z.2 z.1).natAbs * x.natAbs:=by rw[<-kF,r0,Int.add_zero,Int.natAbs_mul]
      rw[e];exact Nat.le_mul_of_pos_left _ (Int.natAbs_pos.mpr z3)
    ·rw[List.map_set];rfl)
 have body:∀{x:R (Dt×Sx)},fin (aT (aq fs (N - 1)) (.cons (.fr (.tp [3,4]) (.seq (.var 1)) (uQ ip)) (.cons (.ret (.bi .tuple (.cons (.mvr 2) .nil))) .nil)) [some (tI q),some (.lst (PS.map pD)),some (.lst (q.map Dt.int)),none,none,none,none] none)=x->aq fs N ic [tI q,.lst (PS.map pD)] none=x:=λ {x} h=>by refine aA hf (by lia) rfl ?_;show fin (aT (aq fs (N - 1)) (yM ip) [some (tI q),some (.lst (PS.map pD)),none,none,none,none,none] none)=_;exact gw (d:= .lst (q.map Dt.int)) (S1:=none) rfl rfl h
 rcases loop with ⟨ρ',h1,w,x3,x4,x5,x6,hw,rfl⟩ | ⟨d,ρ',h1,rfl⟩
 ·exact .inr ⟨w,hw,body (cV (ds:=PS.map pD) (S1:=none) rfl rfl h1 (ay rfl))⟩
 ·refine .inl (body (gz (ρ1:=ρ') (S1:=none) ?_));rw[ex];exact h1
noncomputable def yR (is ig iw ic:Nat):Ts:=(.cons (.asg 3 (.call is (.cons (.var 0) (.cons (.var 1) (.cons (.var 2) .nil))) [])) (.cons (.ifs (.cmp .Is (.var 3) (.con .aP)) (.cons (.ret (.lst .nil)) .nil) .nil) (.cons (.asg 4 (.comp [none,none,none] (.seq (.var 3)) (.tp [1,2]) .nil (.var 1))) (.cons (.asg 5 (.comp [none,none,some 4] (.rng1 (.var 1)) (.nm 1) (.cons (.cmp .NotIn (.var 1) (.var 2)) .nil) (.var 1))) (.cons (.asg 6 (.call ig (.cons (.var 0) (.cons (.var 2) (.cons (.bi .len (.cons (.var 4) .nil)) (.cons (.bi .len (.cons (.var 5) .nil)) .nil)))) [])) (.cons (.asg 7 (.comp [none,none,some 3] (.seq (.call iw (.cons (.var 1) (.cons (.var 5) (.cons (.var 6) .nil))) [])) (.nm 1) .nil (.call ic (.cons (.var 1) (.cons (.var 2) .nil)) []))) (.cons (.ret (.comp [none,none] (.seq (.var 7)) (.nm 1) (.cons (.cmp .IsNot (.var 1) (.con .aP)) .nil) (.var 1))) .nil)))))))
structure uJ (fs:List Fn) (ip il is ig iw ic io:Nat):Prop where
 p:fs[ip]?=some ⟨2,2,false,nN⟩
 l:fs[il]?=some ⟨3,3,false,uP⟩
 s:fs[is]?=some ⟨3,8,false,yP il⟩
 g:fs[ig]?=some ⟨4,7,false,uR⟩
 w:fs[iw]?=some ⟨3,5,false,yT⟩
 c:fs[ic]?=some ⟨2,7,false,yM ip⟩
 o:fs[io]?=some ⟨3,8,false,yR is ig iw ic⟩
structure kv (m:Nat) (M:List (List Int)) (r:List Int):Prop where
 m1:1<=m
 m4:m<=4
 ne:M≠[]
 ln:M.length<=16
 rl:r.length=M.length
 wd:∀q∈M,q.length=m
 bd:∀q∈M,∀x∈q,x.natAbs<=3
 rb:∀x∈r,x.natAbs<=20
theorem lG {α:Type} (p:α->Bool):∀l:List α,(l.filter p).length + (l.filter λx=> !p x).length=l.length
 | []=>rfl
 | x::l=>by have:=lG p l;rw[List.filter_cons,List.filter_cons];cases p x <;> simp <;> lia
theorem vI {m:Nat} {L:List Nat} (hn:L.Nodup) (hl:∀p∈L,p < m):((List.range m).filter λp=> !decide (p∈L)).length + L.length=m:=by
 have h1:(((List.range m).filter λp=>decide (p∈L))).Perm L:=kH (List.Pairwise.filter _ List.nodup_range) hn λx=>by rw[List.mem_filter,Qu,decide_eq_true_eq];exact⟨λh=>h.2,λh=>⟨hl x h,h⟩⟩
 have h2:=h1.length_eq;have h3:=lG (λp=>decide (p∈L)) (List.range m);rw[List.length_range] at h3
 lia
theorem GW {m s f g:Nat} (hs:s + f=m) (hm:m<=4) (hg:g<=gB s f):(g + 1) ^ f<=900000:=by
 refine PP (Nat.pow_le_pow_left (Nat.succ_le_succ hg) f) ?_;have hf:f<=4:=by lia
 have Ob:s<=4:=by lia
 match s,f,Ob,hf,hs with
 | 0,0,_,_,_=>decide
 | 0,1,_,_,_=>decide
 | 0,2,_,_,_=>decide
 | 0,3,_,_,_=>decide
 | 0,4,_,_,_=>decide
 | 1,0,_,_,_=>decide
 | 1,1,_,_,_=>decide
 | 1,2,_,_,_=>decide
 | 1,3,_,_,_=>decide
 | 1,4,_,_,h=>lia
 | 2,0,_,_,_=>decide
 | 2,1,_,_,_=>decide
 | 2,2,_,_,_=>decide
 | 2,3,_,_,h=>lia
 | 2,4,_,_,h=>lia
 | 3,0,_,_,_=>decide
 | 3,1,_,_,_=>decide
 | 3,2,_,_,h=>lia
 | 3,3,_,_,h=>lia
 | 3,4,_,_,h=>lia
 | 4,0,_,_,_=>decide
 | 4,1,_,_,h=>lia
 | 4,2,_,_,h=>lia
 | 4,3,_,_,h=>lia
 | 4,4,_,_,h=>lia
theorem zE (p:Nat) (L:List Nat):cU .NotIn (.int p) (.lst (L.map λ(q:Nat)=>Dt.int q))= .ok (!decide (p∈L)):=by
 have h:∀L:List Nat,lA (L.map λ(q:Nat)=>Dt.int q)=true/\pK (L.map λ(q:Nat)=>Dt.int q)=0/\inD (.int p) (L.map λ(q:Nat)=>Dt.int q)=decide (p∈L):=by
  intro L
  induction L with
  | nil=>exact⟨rfl,rfl,rfl⟩
  | cons q L ih=>
   refine⟨by rw[Qr,lA,ih.1];rfl,by rw[Qr,pK,ih.2.1];rfl,?_⟩;have e:bP (.int (q:Int)) (.int (p:Int))=decide (p=q):=by
    simp only[bP];rw[Bool.eq_iff_iff];simp
    lia
   have:=ih.2.2;unfold inD at this ⊢;rw[Qr,List.any_cons,this,e,Bool.eq_iff_iff];simp
 obtain⟨h1,h2,h3⟩:=h L;show ae (pl (.int (p:Int))&&lA (L.map λ(q:Nat)=>Dt.int q)&&decide (pK (L.map λ(q:Nat)=>Dt.int q)<=100)) (R.ok (!inD (.int p) (L.map λ(q:Nat)=>Dt.int q)))=_;rw[h1,h2,h3];rfl
section
variable {ip il is ig iw ic io:Nat} (H:uJ fs ip il is ig iw ic io)
include H
theorem xB {N m:Nat} {M:List (List Int)} {r:List Int} (hN:4<=N) (E:kv m M r):∃Q:List (List Int),aq fs N io [lI M,.int m,tI r] none= .ok (lI Q,none)/\Q.length<=900000/\∀q∈Q,yg m q:=by
 have cW:lim=1000000:=rfl;have Kb:=DU H.l H.s (N:=N - 1) (by lia) E.m4 E.ln (by rw[E.rl];exact E.ln) E.wd E.bd E.rb;rcases Kb with h | ⟨PS,LS,h,st⟩
 ·refine⟨[],aA H.o (by lia) rfl ?_,by simp,by simp⟩;show fin (aT (aq fs (N - 1)) (yR is ig iw ic) [some (lI M),some (.int m),some (tI r),none,none,none,none,none] none)=_;exact ao (d:= .aP) (S1:=none) (by simp only[RX,h]) rfl (cG (S1:=none) (by simp only[RX];rfl) (ay rfl))
 have i7:∀p∈PS.map (·.1),p < m:=λp hp=>by obtain⟨q,hq,rfl⟩:=Qi.mp hp;exact(st.pl q hq).1
 have LX:=vI st.nd i7;rw[PL] at LX
 let FR:=(List.range m).filter λp=> !decide (p∈PS.map (·.1))
 have h4:ev (aq fs (N - 1)) (.comp [none,none,none] (.seq (.var 3)) (.tp [1,2]) .nil (.var 1)) [some (lI M),some (.int m),some (tI r),some (.lst (PS.map pD)),none,none,none,none] none= .ok (.lst ((PS.map (·.1)).map λ(p:Nat)=>Dt.int p),none):=by
  have hc:aG (aJ (.tp [1,2]) (a8 (aq fs (N - 1)) .nil) (bb (aq fs (N - 1)) (.var 1)) [none,none,none]) (PS.map pD) none= .ok (PS.map λq=> .int q.1,none):=aS λq hq=>aK (ρ1:=[none,some (.int q.1),some (tI q.2)]) rfl rfl rfl
  have e:(PS.map λq=>Dt.int (q.1:Int))=(PS.map (·.1)).map λ(p:Nat)=>Dt.int p:=by rw[List.map_map];rfl
  rw[e] at hc;exact aR (ds:=PS.map pD) (S1:=none) rfl (by rw[PL];have:=E.m4;lia) rfl hc
 have h5:ev (aq fs (N - 1)) (.comp [none,none,some 4] (.rng1 (.var 1)) (.nm 1) (.cons (.cmp .NotIn (.var 1) (.var 2)) .nil) (.var 1)) [some (lI M),some (.int m),some (tI r),some (.lst (PS.map pD)),some (.lst ((PS.map (·.1)).map λ(p:Nat)=>Dt.int p)),none,none,none] none= .ok (.lst (FR.map λ(p:Nat)=>Dt.int p),none):=by
  have er:bg 0 m=(List.range m).map λ(n:Nat)=>Dt.int n:=by unfold bg;exact List.map_congr_left λi _=>by rw[Int.zero_add]
  have hc:aG (aJ (.nm 1) (a8 (aq fs (N - 1)) (.cons (.cmp .NotIn (.var 1) (.var 2)) .nil)) (bb (aq fs (N - 1)) (.var 1)) [none,none,some (.lst ((PS.map (·.1)).map λ(p:Nat)=>Dt.int p))]) (bg 0 m) none= .ok ((List.range m).flatMap λp=>if (!decide (p∈PS.map (·.1)))=true then[Dt.int p] else[],none):=by
   rw[er];refine bw λp hp=>?_
   have Iu:=zE p (PS.map (·.1));exact turn_if (ρ1:=[none,some (.int p),some (.lst ((PS.map (·.1)).map λ(p:Nat)=>Dt.int p))]) rfl (by rw[bV];show (cU .NotIn (.int p) _).bind _=_;rw[Iu];rfl) λ_=>⟨rfl,rfl⟩
  rw[cZ] at hc;exact aR (ds:=bg 0 m) (S1:=none) (eU (n:=m) rfl (by have:=E.m4;lia)) (by simp[bg];have:=E.m4;lia) rfl hc
 have tL:FR.length + PS.length=m:=LX;have m4:=E.m4;obtain⟨g,hg,LY⟩:=Cm H.g (N:=N - 1) (by lia) E.m1 E.ne (by intro z;have:=E.rl;rw[z] at this;exact E.ne (List.eq_nil_of_length_eq_zero this.symm)) E.ln (by rw[E.rl];exact E.ln) E.wd E.m4 E.bd E.rb (s:=PS.length) (f:=FR.length) (by lia) (by lia);have Mb:=GW (m:=m) (by lia) E.m4 LY;obtain⟨Q,hq,EC,hQ⟩:=Eg H.w (N:=N - 1) (by lia) (FR:=FR) E.m4 (λp hp=>Qu.mp (List.mem_filter.mp hp).1) Mb;have O6:g < 2 ^ 64:=Nat.lt_of_le_of_lt LY (by
  have hs:PS.length<=4:=by lia
  have hf:FR.length<=4:=by lia
  generalize PS.length=s at hs;generalize FR.length=f at hf
  match s,hs with
  | 0,_=>simp only[gB];lia
  | 1,_=>simp only[gB];lia
  | 2,_=>simp only[gB];lia
  | 3,_=>simp only[gB];lia
  | 4,_=>simp only[gB];lia)
 have Cn:∀q∈Q,∃d,aq fs (N - 1) ic [tI q,.lst (PS.map pD)] none= .ok (d,none)/\(d= .aP\/∃q',yg m q'/\d=tI q'):=λq rz=>by
  have CC:=hQ q rz;rcases B4 H.p H.c (N:=N - 1) (by lia) E.m4 st (q:=q) ⟨CC.1,λx hx=>⟨(CC.2 x hx).1,by have:=CC.2 x hx;lia⟩⟩ (λx hx=>by have:=CC.2 x hx;show x.natAbs < _;lia) with h | ⟨q',h1,h2⟩
  ·exact⟨_,h,.inl rfl⟩
  ·exact⟨_,h2,.inr ⟨q',h1,rfl⟩⟩
 classical
 let cf:List Int->Dt:=λq=>if h:∃d,aq fs (N - 1) ic [tI q,.lst (PS.map pD)] none= .ok (d,none)/\(d= .aP\/∃q',yg m q'/\d=tI q') then h.choose else .aP
 have Ie:∀q∈Q,aq fs (N - 1) ic [tI q,.lst (PS.map pD)] none= .ok (cf q,none)/\(cf q= .aP\/∃q',yg m q'/\cf q=tI q'):=λq rz=>by have h:=Cn q rz;have e:cf q=h.choose:=dif_pos h;rw[e];exact h.choose_spec
 have vV:ev (aq fs (N - 1)) (.call iw (.cons (.var 1) (.cons (.var 5) (.cons (.var 6) .nil))) []) [some (lI M),some (.int m),some (tI r),some (.lst (PS.map pD)),some (.lst ((PS.map (·.1)).map λ(p:Nat)=>Dt.int p)),some (.lst (FR.map λ(p:Nat)=>Dt.int p)),some (.int g),none] none= .ok (lI Q,none):=by simp only[RX,hq]
 have h7:ev (aq fs (N - 1)) (.comp [none,none,some 3] (.seq (.call iw (.cons (.var 1) (.cons (.var 5) (.cons (.var 6) .nil))) [])) (.nm 1) .nil (.call ic (.cons (.var 1) (.cons (.var 2) .nil)) [])) [some (lI M),some (.int m),some (tI r),some (.lst (PS.map pD)),some (.lst ((PS.map (·.1)).map λ(p:Nat)=>Dt.int p)),some (.lst (FR.map λ(p:Nat)=>Dt.int p)),some (.int g),none] none= .ok (.lst (Q.map cf),none):=by
  have hc:aG (aJ (.nm 1) (a8 (aq fs (N - 1)) .nil) (bb (aq fs (N - 1)) (.call ic (.cons (.var 1) (.cons (.var 2) .nil)) [])) [none,none,some (.lst (PS.map pD))]) (Q.map tI) none= .ok (Q.map cf,none):=aS λq rz=>by
   obtain⟨k1,k2⟩:=Ie q rz;exact aK (ρ1:=[none,some (tI q),some (.lst (PS.map pD))]) rfl (by simp only[RX,k1]) (by
    unfold bu;rcases k2 with e | ⟨q',_,e⟩
    ·rw[e];exact Bool.or_true _
    ·rw[e,bz,Bool.or_true])
  exact aR (ds:=Q.map tI) (S1:=none) (jK vV rfl) (by rw[PL];lia) rfl hc
 let keep:List (List Int):=Q.filterMap λq=>match cf q with | .tup ds=>intsOf ds | _=>none
 have hk:∀q∈keep,yg m q:=λq rz=>by
  obtain⟨q0,h0,h1⟩:=List.mem_filterMap.mp rz;rcases (Ie q0 h0).2 with e | ⟨q',hr,e⟩
  ·rw[e] at h1;cases h1
  ·rw[e] at h1;have h1:intsOf (q'.map Dt.int)=some q:=h1;rw[ints_map] at h1;cases h1;exact hr
 have h8:ev (aq fs (N - 1)) (.comp [none,none] (.seq (.var 7)) (.nm 1) (.cons (.cmp .IsNot (.var 1) (.con .aP)) .nil) (.var 1)) [some (lI M),some (.int m),some (tI r),some (.lst (PS.map pD)),some (.lst ((PS.map (·.1)).map λ(p:Nat)=>Dt.int p)),some (.lst (FR.map λ(p:Nat)=>Dt.int p)),some (.int g),some (.lst (Q.map cf))] none= .ok (lI keep,none):=by
  have hc:aG (aJ (.nm 1) (a8 (aq fs (N - 1)) (.cons (.cmp .IsNot (.var 1) (.con .aP)) .nil)) (bb (aq fs (N - 1)) (.var 1)) [none,none]) (Q.map cf) none= .ok (Q.flatMap λq=>(match cf q with | .tup ds=>[Dt.tup ds] | _=>[]),none):=bw λq rz=>by
   rcases (Ie q rz).2 with e | ⟨q',_,e⟩
   ·rw[e];exact turn_if (b:=false) (y:= .aP) (ρ1:=[none,some .aP]) rfl rfl λz=>by cases z
   ·rw[e];exact turn_if (b:=true) (y:=tI q') (ρ1:=[none,some (tI q')]) rfl rfl λz=>⟨rfl,by unfold bu;rw[bz,Bool.or_true]⟩
  have e:(Q.flatMap λq=>(match cf q with | .tup ds=>[Dt.tup ds] | _=>[]))=keep.map tI:=by
   have:∀l:List (List Int),(∀q∈l,q∈Q)->(l.flatMap λq=>(match cf q with | .tup ds=>[Dt.tup ds] | _=>[]))=(l.filterMap λq=>match cf q with | .tup ds=>intsOf ds | _=>none).map tI:=by
    intro l
    induction l with
    | nil=>intro _;rfl
    | cons q l ih=>
     intro h;rw[List.flatMap_cons,List.filterMap_cons,ih λz hz=>h z (PC _ hz)];rcases (Ie q (h q PH)).2 with e | ⟨q',_,e⟩
     ·rw[e];rfl
     ·rw[e];have e1:(match tI q' with | .tup ds=>intsOf ds | _=>none)=some q':=ints_map q';rw[e1];rfl
   exact this Q λq h=>h
  rw[e] at hc;exact aR (ds:=Q.map cf) (S1:=none) rfl (by rw[PL];lia) rfl hc
 refine⟨keep,aA H.o (by lia) rfl ?_,PP (List.length_filterMap_le _ _) EC,hk⟩;show fin (aT (aq fs (N - 1)) (yR is ig iw ic) [some (lI M),some (.int m),some (tI r),none,none,none,none,none] none)=_;refine ao (d:= .lst (PS.map pD)) (S1:=none) (by simp only[RX,h]) rfl (bM (S1:=none) (by simp only[RX];rfl) (ao (S1:=none) h4 rfl (ao (S1:=none) h5 rfl (ao (d:= .int g) (S1:=none) ?_ rfl (ao (S1:=none) h7 rfl (ay h8))))));have l4:cL .len [.lst ((PS.map (·.1)).map λ(p:Nat)=>Dt.int p)]= .ok (.int PS.length):=by show R.ok (Dt.int (((PS.map (·.1)).map λ(p:Nat)=>Dt.int p).length:Nat))=_;rw[PL,PL]
 have l5:cL .len [.lst (FR.map λ(p:Nat)=>Dt.int p)]= .ok (.int FR.length):=by show R.ok (Dt.int ((FR.map λ(p:Nat)=>Dt.int p).length:Nat))=_;rw[PL]
 simp only[RX,l4,l5,hg]
end
variable {fs:List Fn}
theorem zW (rs:List Mx.D):ofD (.tup rs)= .tup (bC rs):=by simp[ofD]
variable {fs:List Fn}
section
variable {F:FT} {S:Sx} {ρ:ai} {ts:Ts} {k:Nat}
theorem vC {t:T} (h:ex F t ρ S= .ex k):fin (aT F (.cons t ts) ρ S)= .ex k:=by rw[aT,h];rfl
theorem zV {t:T} (h:ex F t ρ S= .ex k):aT F (.cons t ts) ρ S= .ex k:=by rw[aT,h];rfl
end
variable {fs:List Fn}
noncomputable def dI (q:List Int):Mx.D:= .tup (q.map Mx.D.int)
noncomputable def Ec:Mx.D->List Int
 | .tup ds=>ds.filterMap λd=>match d with | .int i=>some i | _=>none
 | _=>[]
theorem Bx (q:List Int):Ec (dI q)=q:=by
 show (q.map Mx.D.int).filterMap _=q;rw[List.filterMap_map]
 induction q with
 | nil=>rfl
 | cons x q ih=>rw[List.filterMap_cons];simp only[Function.comp];exact congrArg _ ih
theorem Hu (q:List Int):tI q=ofD (dI q):=by unfold dI;rw[zW,jW,List.map_map];exact congrArg Dt.tup (List.map_congr_left λx _=>by simp[ofD])
theorem Be (Q:List (List Int)):lI Q= .lst (bC (Q.map dI)):=by unfold lI;rw[jW,List.map_map];congr 1;exact List.map_congr_left λq _=>Hu q
theorem rO:∀a b:List Int,ow (a.map Mx.D.int) (b.map Mx.D.int)=true
 | [],_=>by simp[ow]
 | _::_,[]=>by simp[ow]
 | x::a,y::b=>by simp only[Qr,ow,tS,Bool.true_and];exact rO a b
theorem xD {Q:List (List Int)} {m:Nat} (hm:1<=m) (hl:Q.length<=900000) (h:∀q∈Q,q.length=m):∃Q',cL .sorted [lI Q]= .ok (lI Q')/\Q'.Perm Q:=by
 have hd:∀q:List Int,Mx.D.eO (q.map Mx.D.int)=0:=λq=>by
  induction q with
  | nil=>rfl
  | cons x q ih=>simp[Mx.D.eO,Mx.D.dep,ih]
 have MW:iP (Q.map dI)=true:=by
  refine B3 .ti (by rw[PL];lia) (qR λd kE=>?_) (λd kE=>?_) λd kE e he=>?_
  ·obtain⟨q,_,rfl⟩:=Qi.mp kE;simp[dI,Mx.D.dep,hd]
  ·obtain⟨q,hq,rfl⟩:=Qi.mp kE;have:=h q hq;cases q with
   | nil=>simp at this;lia
   | cons x q=>rfl
  ·obtain⟨q,_,rfl⟩:=Qi.mp kE;obtain⟨q2,_,rfl⟩:=Qi.mp he;simp only[dI,tS];exact rO q q2
 have pm:=qt (Q.map dI);refine⟨(eA (Q.map dI)).map Ec,?_,?_⟩
 ·rw[Be,(sV MW).1,Be,List.map_map];congr 3;have:∀l:List Mx.D,(∀y∈l,y∈Q.map dI)->l.map (dI ∘ Ec)=l:=by
   intro l
   induction l with
   | nil=>intro _;rfl
   | cons y l ih=>intro h;obtain⟨q,_,rfl⟩:=Qi.mp (h y PH);rw[Qr,ih λz hz=>h z (PC _ hz)];simp only[Function.comp,Bx]
  exact(this _ λy hy=>pm.mem_iff.mp hy).symm
 ·have:=pm.map Ec;rw[List.map_map,show (Ec ∘ dI)=id from funext Bx,List.map_id] at this;exact this
noncomputable def yO (ik io iv:Nat):Ts:=(.cons (.yl (.call ik (.cons (.var 0) (.cons (.var 1) (.cons (.tup .nil) .nil))) [])) (.cons (.asgM 2 (.lst .nil)) (.cons (.fr (.nm 3) (.seq (.bi .sorted (.cons (.call io (.cons (.var 0) (.cons (.var 1) (.cons (.bin .Mult (.tup (.cons (.con (.int 0)) .nil)) (.bi .len (.cons (.var 0) .nil))) .nil))) []) .nil))) (.cons (.ifs (.and (.cmp .Gt (.bi .sum (.cons (.var 3) .nil)) (.con (.int 0))) (.nt (.call iv (.cons (.var 3) (.cons (.mvr 2) .nil)) []))) (.cons (.app 2 (.var 3)) .nil) .nil) .nil)) (.cons (.ret (.mvr 2)) .nil))))
noncomputable def yN (ik io iv ie:Nat):Ts:=(.cons (.yl (.call ik (.cons (.var 0) (.cons (.var 1) (.cons (.var 2) .nil))) [])) (.cons (.asg 3 (.call ie (.cons (.var 0) (.cons (.var 1) .nil)) [])) (.cons (.ret (.bi .sorted (.cons (.comp [none,none,some 3] (.seq (.call io (.cons (.var 0) (.cons (.var 1) (.cons (.var 2) .nil))) [])) (.nm 1) (.cons (.nt (.call iv (.cons (.var 1) (.cons (.var 2) .nil)) [])) .nil) (.var 1)) .nil))) .nil)))
noncomputable def BO (ip:Nat):Ts:=(.cons (.ifs (.cmp .Is (.var 2) (.con .aP)) (.cons (.asg 2 (.bin .Mult (.lst (.cons (.con (.int 0)) .nil)) (.bi .len (.cons (.var 0) .nil)))) .nil) .nil) (.cons (.ifs (.bi .any (.cons (.comp [none,none] (.seq (.var 1)) (.nm 1) .nil (.cmp .Lt (.var 1) (.con (.int 0)))) .nil)) (.cons (.ret (.con (.bl false))) .nil) .nil) (.cons (.ret (.bi .all (.cons (.comp [none,none,none,some 1] (.zip (.var 0) (.var 2)) (.tp [1,2]) .nil (.cmp .Eq (.call ip (.cons (.var 1) (.cons (.var 3) .nil)) []) (.var 2))) .nil))) .nil)))
noncomputable def uX:C:=(.bi .maxL (.cons (.bin .Add (.lst (.cons (.var 2) .nil)) (.comp [none,none] (.seq (.var 0)) (.nm 1) .nil (.bi .len (.cons (.var 1) .nil)))) .nil))
noncomputable def E8:C:=(.bi .any (.cons (.comp [none,none,some 2] (.seq (.var 0)) (.nm 1) .nil (.cmp .NotEq (.bi .len (.cons (.var 1) .nil)) (.var 2))) .nil))
noncomputable def BN:C:=(.bi .minL (.cons (.comp [none,none,none] (.zip (.var 3) (.var 5)) (.tp [1,2]) (.cons (.cmp .Gt (.var 2) (.con (.int 0))) .nil) (.bin .FloorDiv (.var 1) (.var 2))) .nil))
noncomputable def E9:Ts:=(.cons (.asg 6 BN) (.cons (.ifs (.cmp .Gt (.var 6) (.con (.int 0))) (.cons (.app 4 (.tup (.cons (.var 5) (.cons (.var 6) .nil)))) (.cons (.asg 3 (.bi .tuple (.cons (.comp [none,none,none,some 6] (.zip (.var 3) (.var 5)) (.tp [1,2]) .nil (.bin .Sub (.var 1) (.bin .Mult (.var 3) (.var 2)))) .nil))) .nil)) .nil) .nil))
noncomputable def yQ (ik iz ie:Nat):Ts:=(.cons (.asg 2 (.bi .len (.cons (.var 1) .nil))) (.cons (.yl (.call ik (.cons (.var 0) (.cons uX (.cons (.tup .nil) .nil))) [])) (.cons (.ifs (.or E8 (.nt (.call iz (.cons (.var 0) (.cons (.var 1) .nil)) [.aP]))) (.cons (.rs 1 []) .nil) .nil) (.cons (.asg 3 (.var 1)) (.cons (.asgM 4 (.lst .nil)) (.cons (.fr (.nm 5) (.seq (.call ie (.cons (.var 0) (.cons (.var 2) .nil)) [])) E9) (.cons (.ret (.mvr 4)) .nil)))))))
structure uI (fs:List Fn) (ip il is ig iw ic io ik iu iv ie it iz ih:Nat):Prop where
 S:uJ fs ip il is ig iw ic io
 k:fs[ik]?=some ⟨3,3,false,yL⟩
 u:fs[iu]?=some ⟨2,4,false,yS⟩
 v:fs[iv]?=some ⟨2,3,false,BM iu⟩
 e:fs[ie]?=some ⟨2,4,false,yO ik io iv⟩
 t:fs[it]?=some ⟨3,4,false,yN ik io iv ie⟩
 z:fs[iz]?=some ⟨3,3,false,BO ip⟩
 h:fs[ih]?=some ⟨2,7,false,yQ ik iz ie⟩
theorem kv.zero {m:Nat} {M:List (List Int)} {r:List Int} (E:kv m M r):kv m M (List.replicate M.length 0):=⟨E.m1,E.m4,E.ne,E.ln,by simp,E.wd,E.bd,λx hx=>by rw[List.eq_of_mem_replicate hx];decide⟩
theorem kv.brk {m:Nat} {M:List (List Int)} {r:List Int} (E:kv m M r) {r':List Int} (h:∀x∈r',x.natAbs<=20):Rx.brk M m r'=false:=by
 have h1:nO M=false:=by
  unfold nO;rw[List.any_eq_false];intro q hq z;obtain⟨x,hx,hz⟩:=Qk.mp z;have:=Py hz;have:=E.bd q hq x hx
  lia
 have h2:lU r'=false:=by
  unfold lU;rw[List.any_eq_false];intro x hx z;have:=Py z;have:=h x hx
  lia
 unfold Rx.brk;rw[h1,h2,P8 (by have:=E.ln;lia),P8 (by have:=E.m4;lia)];rfl
section
variable {ip il is ig iw ic io ik iu iv ie it iz ih:Nat} (H:uI fs ip il is ig iw ic io ik iu iv ie it iz ih)
include H
theorem p7 {N m:Nat} {M:List (List Int)} {r:List Int} (hN:6<=N) (E:kv m M r):∃F:List (List Int),aq fs N ie [lI M,.int m] none= .ok (lI F,none)/\F.length<=900000/\∀q∈F,yg m q/\0 < q.sum:=by
 have cW:lim=1000000:=rfl;have hk:=gZ H.k (N:=N - 1) (by lia) (M:=M) (many:=m) (r:=[]) (by have:=E.ln;lia) (λq hq=>by rw[E.wd q hq];have:=E.m4;lia) (by simp);rw[E.brk (r':=[]) (by simp),if_neg (by simp)] at hk;have hk:aq fs (N - 1) ik [lI M,.int m,.tup []] none= .ok (.aP,none):=hk;obtain⟨Q,hq,EC,hQ⟩:=xB H.S (N:=N - 1) (by lia) E.zero;obtain⟨Q',hs,pm⟩:=xD E.m1 EC λq h=>(hQ q h).1
 have ln:cL .len [lI M]= .ok (.int M.length):=by show R.ok (Dt.int ((M.map tI).length:Nat))=_;rw[PL]
 have J7:=dq (m:=M.length) 0 (by have:=E.ln;lia);have loop:=dH (S:=none) (tg:= .nm 3) (body:=aT (aq fs (N - 1)) (.cons (.ifs (.and (.cmp .Gt (.bi .sum (.cons (.var 3) .nil)) (.con (.int 0))) (.nt (.call iv (.cons (.var 3) (.cons (.mvr 2) .nil)) []))) (.cons (.app 2 (.var 3)) .nil) .nil) .nil)) (ds:=Q'.map tI) (ρ:=[some (lI M),some (.int m),some (lI []),none])
  (λpre ρ=>∃F x,F.length<=pre.length/\(∀q∈F,yg m q/\0 < q.sum)/\ρ=[some (lI M),some (.int m),some (lI F),x]) ⟨[],none,by simp,by simp,rfl⟩ (by
   rintro pre x post ρ e ⟨F,x3,hl,hF,rfl⟩;have hx:x∈Q'.map tI:=by rw[e];simp
   obtain⟨q,rz,rfl⟩:=Qi.mp hx;have Ka:=hQ q (pm.mem_iff.mp rz);have k7:pre.length < 900000:=by
    have:=congrArg List.length e;rw[PL,PY,P0,pm.length_eq] at this
    lia
   obtain⟨v,hv⟩:=wK H.u H.v (N:=N - 1) (by lia) q F;have Kc:=AB q;by_cases h0:0 < q.sum
   ·cases v with
    | true=>exact⟨_,_,rfl,fY (S1:=none) (by simp only[RX,Kc,Qc h0,hv];rfl) rfl,F,some (tI q),by simp;lia,hF,rfl⟩
    | false=>
     refine⟨_,_,rfl,mL (S1:=none) (by simp only[RX,Kc,Qc h0,hv];rfl) (qc (ds:=F.map tI) (d:=tI q) (S1:=none) rfl rfl (by unfold bu;rw[bz,Bool.or_true]) (by rw[PL];lia) rfl),F++[q],some (tI q),by simp;lia,λz hz=>?_,by unfold lI;rw[Qs];rfl⟩;rcases P5.mp hz with hz | hz
     ·exact hF z hz
     ·rw[Qh] at hz;subst hz;exact⟨Ka,h0⟩
   ·exact⟨_,_,rfl,fY (S1:=none) (by simp only[RX,Kc,P8 h0];rfl) rfl,F,some (tI q),by simp;lia,hF,rfl⟩)
 obtain⟨ρ1,ek,F,x3,hl,hF,rfl⟩:=loop;refine⟨F,aA H.e (by lia) rfl ?_,by rw[PL,pm.length_eq] at hl;lia,hF⟩;show fin (aT (aq fs (N - 1)) (yO ik io iv) [some (lI M),some (.int m),none,none] none)=_;refine dF (ρ1:=[some (lI M),some (.int m),none,none]) (S1:=none) (by rw[ex];simp only[RX,hk]) (gw (d:= .lst []) (S1:=none) rfl rfl (cV (ds:=Q'.map tI) (S1:=none) (jK (d:=lI Q') ?_ rfl) rfl ek (ay rfl)));simp only[RX,ln,J7,hq,hs]
theorem zL {N:Nat} {M:List (List Int)} {many:Int} (hN:2<=N) (hM:M.length<=1000) (hl:∀q∈M,q.length<=100) (hb:brk M many []=true):aq fs N ie [lI M,.int many] none= .ex 0:=by have hk:=gZ H.k (N:=N - 1) (by lia) (M:=M) (many:=many) (r:=[]) hM hl (by simp);rw[hb,if_pos rfl] at hk;have hk:aq fs (N - 1) ik [lI M,.int many,.tup []] none= .ex 0:=hk;refine aA H.e (by lia) rfl ?_;show fin (aT (aq fs (N - 1)) (yO ik io iv) [some (lI M),some (.int many),none,none] none)=_;exact vC (by rw[ex];simp only[RX,hk];rfl)
theorem zK {N:Nat} {M:List (List Int)} {many:Int} {r:List Int} (hN:2<=N) (hM:M.length<=1000) (hl:∀q∈M,q.length<=100) (hr:r.length<=1000) (hb:brk M many r=true):aq fs N it [lI M,.int many,tI r] none= .ex 0:=by have hk:=gZ H.k (N:=N - 1) (by lia) (M:=M) (many:=many) (r:=r) hM hl hr;rw[hb,if_pos rfl] at hk;refine aA H.t (by lia) rfl ?_;show fin (aT (aq fs (N - 1)) (yN ik io iv ie) [some (lI M),some (.int many),some (tI r),none] none)=_;exact vC (by rw[ex];simp only[RX,hk];rfl)
theorem CY {N m:Nat} {M:List (List Int)} {r:List Int} (hN:7<=N) (E:kv m M r):∃F:List (List Int),aq fs N it [lI M,.int m,tI r] none= .ok (lI F,none):=by
 have cW:lim=1000000:=rfl;have hk:=gZ H.k (N:=N - 1) (by lia) (M:=M) (many:=m) (r:=r) (by have:=E.ln;lia) (λq hq=>by rw[E.wd q hq];have:=E.m4;lia) (by have:=E.rl;have:=E.ln;lia);rw[E.brk E.rb,if_neg (by simp)] at hk;obtain⟨F,hF,_,_⟩:=p7 H (N:=N - 1) (by lia) E;obtain⟨Q,hq,EC,hQ⟩:=xB H.S (N:=N - 1) (by lia) E
 classical
 let vf:List Int->Bool:=λq=>if h:∃v,aq fs (N - 1) iv [tI q,lI F] none= .ok (.bl v,none) then h.choose else false
 have hv:∀q,aq fs (N - 1) iv [tI q,lI F] none= .ok (.bl (vf q),none):=λq=>by have h:=wK H.u H.v (N:=N - 1) (by lia) q F;have e:vf q=h.choose:=dif_pos h;rw[e];exact h.choose_spec
 have vV:ev (aq fs (N - 1)) (.call io (.cons (.var 0) (.cons (.var 1) (.cons (.var 2) .nil))) []) [some (lI M),some (.int m),some (tI r),some (lI F)] none= .ok (lI Q,none):=by simp only[RX,hq]
 have hc:aG (aJ (.nm 1) (a8 (aq fs (N - 1)) (.cons (.nt (.call iv (.cons (.var 1) (.cons (.var 2) .nil)) [])) .nil)) (bb (aq fs (N - 1)) (.var 1)) [none,none,some (lI F)]) (Q.map tI) none= .ok (Q.flatMap λq=>if (!vf q)=true then[tI q] else[],none):=bw λq rz=>by have:=hv q;exact turn_if (ρ1:=[none,some (tI q),some (lI F)]) rfl (by simp only[RX,this]) λ_=>⟨rfl,by unfold bu;rw[bz,Bool.or_true]⟩
 rw[cZ] at hc;have n9:=aR (F:=aq fs (N - 1)) (cap:=[none,none,some 3]) (ρ:=[some (lI M),some (.int m),some (tI r),some (lI F)]) (ds:=Q.map tI) (S1:=none) (jK vV rfl) (by rw[PL];lia) rfl hc;obtain⟨Q',hs,_⟩:=xD (Q:=Q.filter λq=> !vf q) E.m1 (PP (List.length_filter_le _ _) EC) λq h=>(hQ q (List.mem_filter.mp h).1).1
 refine⟨Q',aA H.t (by lia) rfl ?_⟩;show fin (aT (aq fs (N - 1)) (yN ik io iv ie) [some (lI M),some (.int m),some (tI r),none] none)=_;refine dF (ρ1:=[some (lI M),some (.int m),some (tI r),none]) (S1:=none) (by rw[ex];simp only[RX,hk]) (ao (d:=lI F) (S1:=none) (by simp only[RX,hF]) rfl (ay ?_));rw[bW];refine(congrArg (R.bind · _) n9).trans ?_;show (cL .sorted [lI (Q.filter λq=> !vf q)]).bind _=_;rw[hs];rfl
omit H in
theorem xu {F:FT} {M:List (List Int)} {w:Nat} {q:List Int} {x3 x4 x5 x6:Option Dt} (hM:M.length<=1000):ev F uX [some (lI M),some (tI q),some (.int w),x3,x4,x5,x6] none= .ok (.int (cO ((w:Int)::M.map λq=>(q.length:Int))),none):=by
 have cW:lim=1000000:=rfl;have hc:aG (aJ (.nm 1) (a8 F .nil) (bb F (.bi .len (.cons (.var 1) .nil))) [none,none]) (M.map tI) none= .ok (M.map λq=> .int q.length,none):=aS λq _=>by
  have ln:cL .len [tI q]= .ok (.int q.length):=by show R.ok (Dt.int ((q.map Dt.int).length:Nat))=_;rw[PL]
  exact aK (ρ1:=[none,some (tI q)]) rfl (by simp only[RX,ln]) rfl
 have n9:=aR (F:=F) (cap:=[none,none]) (it:= .seq (.var 0)) (ρ:=[some (lI M),some (tI q),some (.int w),x3,x4,x5,x6]) (S:=none) (ds:=M.map tI) (S1:=none) rfl (by rw[PL];lia) rfl hc;have JT:ev F (.bin .Add (.lst (.cons (.var 2) .nil)) (.comp [none,none] (.seq (.var 0)) (.nm 1) .nil (.bi .len (.cons (.var 1) .nil)))) [some (lI M),some (tI q),some (.int w),x3,x4,x5,x6] none= .ok (.lst (((w:Int)::M.map λq=>(q.length:Int)).map Dt.int),none):=by rw[ev];show ((ev F _ _ none).bind λy=>(iK .Add (.lst [.int w]) y.1).bind λd=>R.ok (d,y.2))=_;rw[n9,R.ah];show (ae (decide (1 + (M.map λq=>Dt.int q.length).length<=lim)) _).bind _=_;rw[Qc (by rw[PL];lia),guard_true];rw[Qr,List.map_map];rfl
 unfold uX;rw[bW,JT,R.ah,lT (by simp)];rfl
theorem Ay {N:Nat} {M:List (List Int)} {q:List Int} (hN:2<=N) (hM:M.length<=1000) (hl:∀z∈M,z.length<=100) (hb:brk M (cO ((q.length:Int)::M.map λz=>(z.length:Int))) []=true):aq fs N ih [lI M,tI q] none= .ex 0:=by
 have hk:=gZ H.k (N:=N - 1) (by lia) (M:=M) (many:=cO ((q.length:Int)::M.map λz=>(z.length:Int))) (r:=[]) hM hl (by simp);rw[hb,if_pos rfl] at hk;have hk:aq fs (N - 1) ik [lI M,.int (cO ((q.length:Int)::M.map λz=>(z.length:Int))),.tup []] none= .ex 0:=hk;have ln:cL .len [tI q]= .ok (.int q.length):=by show R.ok (Dt.int ((q.map Dt.int).length:Nat))=_;rw[PL]
 refine aA H.h (by lia) rfl ?_;show fin (aT (aq fs (N - 1)) (yQ ik iz ie) [some (lI M),some (tI q),none,none,none,none,none] none)=_;refine ao (d:= .int q.length) (S1:=none) (by simp only[RX,ln]) rfl (vC ?_);have hm:=xu (F:=aq fs (N - 1)) (M:=M) (w:=q.length) (q:=q) (x3:=none) (x4:=none) (x5:=none) (x6:=none) hM;rw[ex];show ((ev (aq fs (N - 1)) (.call ik (.cons (.var 0) (.cons uX (.cons (.tup .nil) .nil))) []) [some (lI M),some (tI q),some (.int q.length),none,none,none,none] none).bind _)=_;simp only[RX,hm,hk];rfl
omit H in
theorem ua (l:List Int) (m:Nat):cQ l (List.replicate m 0)=0:=by
 unfold cQ
 induction l generalizing m with
 | nil=>rfl
 | cons x l ih=>
  cases m with
  | zero=>rfl
  | succ m=>rw[List.replicate_succ,List.zip_cons_cons,Qr,List.sum_cons,ih m,Int.mul_zero];rfl
theorem xA {N m:Nat} {M:List (List Int)} {r:List Int} (hN:2<=N) (E:kv m M r):aq fs N iz [lI M,tI (List.replicate m 0),.aP] none= .ok (.bl true,none):=by
 have cW:lim=1000000:=rfl;have m4:=E.m4;have Kv:=E.ln;have ln:cL .len [lI M]= .ok (.int M.length):=by show R.ok (Dt.int ((M.map tI).length:Nat))=_;rw[PL]
 have J9:iK .Mult (.lst [.int 0]) (.int M.length)= .ok (.lst ((List.replicate M.length 0).map Dt.int)):=by
  show ae (decide (((M.length:Int)).natAbs<=lim)&&decide ([Dt.int 0].length * ((M.length:Int)).toNat<=lim)) (R.ok (Dt.lst (List.replicate ((M.length:Int)).toNat [Dt.int 0]).flatten))=_;rw[Qc (by lia),Qc (by simp;lia)];have e:∀n:Nat,(List.replicate n [Dt.int 0]).flatten=(List.replicate n 0).map Dt.int:=λn=>by
   rw[List.map_replicate]
   induction n with
   | zero=>rfl
   | succ n ih=>rw[List.replicate_succ,List.flatten_cons,ih,List.replicate_succ];rfl
  rw[Int.toNat_natCast,e];rfl
 refine aA H.z (by lia) rfl ?_;show fin (aT (aq fs (N - 1)) (BO ip) [some (lI M),some (tI (List.replicate m 0)),some .aP] none)=_;refine cG (S1:=none) (by simp only[RX];rfl) (ao (d:= .lst ((List.replicate M.length 0).map Dt.int)) (S1:=none) (by simp only[RX,ln,J9]) rfl ?_);have JU:bV (aq fs (N - 1)) (.bi .any (.cons (.comp [none,none] (.seq (.var 1)) (.nm 1) .nil (.cmp .Lt (.var 1) (.con (.int 0)))) .nil)) [some (lI M),some (tI (List.replicate m 0)),some (.lst ((List.replicate M.length 0).map Dt.int))] none= .ok (false,none):=by
  have hc:aG (aJ (.nm 1) (a8 (aq fs (N - 1)) .nil) (bb (aq fs (N - 1)) (.cmp .Lt (.var 1) (.con (.int 0)))) [none,none]) ((List.replicate m (0:Int)).map Dt.int) none= .ok ((List.replicate m (0:Int)).map λx=> .bl (decide (x < 0)),none):=cu λx hx=>aK (ρ1:=[none,some (.int x)]) rfl (by simp only[RX]) rfl
  refine jB ?_;rw[bW,aR (ds:=(List.replicate m (0:Int)).map Dt.int) (S1:=none) rfl (by rw[PL,List.length_replicate];lia) rfl hc,R.ah];have e:((List.replicate m (0:Int)).map λx=>Dt.bl (decide (x < 0)))=(List.replicate m false).map Dt.bl:=by rw[List.map_replicate,List.map_replicate];rfl
  have ea:(List.replicate m false).any id=false:=by rw[List.any_eq_false];intro x hx;rw[List.eq_of_mem_replicate hx];simp
  rw[e,jt,ea];rfl
 refine bM (S1:=none) JU (ay ?_);have hc:aG (aJ (.tp [1,2]) (a8 (aq fs (N - 1)) .nil) (bb (aq fs (N - 1)) (.cmp .Eq (.call ip (.cons (.var 1) (.cons (.var 3) .nil)) []) (.var 2))) [none,none,none,some (tI (List.replicate m 0))]) (cK (M.map tI) ((List.replicate M.length (0:Int)).map Dt.int)) none= .ok ((M.zip (List.replicate M.length (0:Int))).map λq=> .bl true,none):=by
  rw[zip_rows];refine aS λq hq=>?_
  have CC:=List.of_mem_zip hq;have h0:q.2=0:=List.eq_of_mem_replicate CC.2;have Iz:=sv (N:=N - 1) H.S.p (by lia) (a:=q.1) (b:=List.replicate m 0) (λx hx=>by rw[List.eq_of_mem_replicate hx];show (0:Int).natAbs < _;decide) (by rw[E.wd _ CC.1];lia);rw[ua] at Iz;exact aK (ρ1:=[none,some (tI q.1),some (.int q.2),some (tI (List.replicate m 0))]) rfl (by simp only[RX,Iz,h0];rfl) rfl
 rw[bW,aR (ds:=cK (M.map tI) ((List.replicate M.length (0:Int)).map Dt.int)) (S1:=none) (hU (S1:=none) (S2:=none) rfl rfl rfl rfl) (by rw[zip_rows,PL,List.length_zip];lia) rfl hc,R.ah];have e:((M.zip (List.replicate M.length (0:Int))).map λq=>Dt.bl true)=((M.zip (List.replicate M.length (0:Int))).map λq=>true).map Dt.bl:=by rw[List.map_map];rfl
 have ea:((M.zip (List.replicate M.length (0:Int))).map λq=>true).all id=true:=by simp
 rw[e,BQ,ea];rfl
omit H in
theorem oU:∀{q:List Int},(∀y∈q,y=0)->q.sum=0
 | [],_=>rfl
 | y::q,h=>by rw[List.sum_cons,h y PH,oU λz hz=>h z (PC _ hz)];rfl
theorem xx {N m:Nat} {M:List (List Int)} {r:List Int} (hN:8<=N) (E:kv m M r):aq fs N ih [lI M,tI (List.replicate m 0)] none= .ok (.lst [],none):=by
 have cW:lim=1000000:=rfl;have m4:=E.m4;have Kv:=E.ln;have N3:cO (((List.replicate m (0:Int)).length:Int)::M.map λz=>(z.length:Int))=m:=by
  have:=dQ (((List.replicate m (0:Int)).length:Int)::M.map λz=>(z.length:Int)) (by simp);rcases PQ.mp this.1 with e | e
  ·rw[e,List.length_replicate]
  ·obtain⟨z,hz,e⟩:=Qi.mp e;rw[<-e,E.wd z hz]
 have hk:=gZ H.k (N:=N - 1) (by lia) (M:=M) (many:=m) (r:=[]) (by lia) (λq hq=>by rw[E.wd q hq];lia) (by simp);rw[E.brk (r':=[]) (by simp),if_neg (by simp)] at hk;have hk:aq fs (N - 1) ik [lI M,.int m,.tup []] none= .ok (.aP,none):=hk;have hm:=xu (F:=aq fs (N - 1)) (M:=M) (w:=(List.replicate m (0:Int)).length) (q:=List.replicate m 0) (x3:=none) (x4:=none) (x5:=none) (x6:=none) (by lia);rw[N3,List.length_replicate] at hm;have hz:=xA H (N:=N - 1) (by lia) E;have Kl:aq fs (N - 1) iz ([lI M,tI (List.replicate m 0)]++[Dt.aP]) none= .ok (.bl true,none):=hz;obtain⟨F,hF,O9,Nl⟩:=p7 H (N:=N - 1) (by lia) E;have ln:cL .len [tI (List.replicate m 0)]= .ok (.int m):=by show R.ok (Dt.int (((List.replicate m (0:Int)).map Dt.int).length:Nat))=_;rw[PL,List.length_replicate]
 have hA:bV (aq fs (N - 1)) E8 [some (lI M),some (tI (List.replicate m 0)),some (.int m),none,none,none,none] none= .ok (false,none):=by
  have hc:aG (aJ (.nm 1) (a8 (aq fs (N - 1)) .nil) (bb (aq fs (N - 1)) (.cmp .NotEq (.bi .len (.cons (.var 1) .nil)) (.var 2))) [none,none,some (.int m)]) (M.map tI) none= .ok (M.map λq=> .bl false,none):=aS λq hq=>by
   have ln:cL .len [tI q]= .ok (.int m):=by show R.ok (Dt.int ((q.map Dt.int).length:Nat))=_;rw[PL,E.wd q hq]
   exact aK (ρ1:=[none,some (tI q),some (.int m)]) rfl (by simp only[RX,ln];simp) rfl
  refine jB ?_;rw[bW,aR (ds:=M.map tI) (S1:=none) rfl (by rw[PL];lia) rfl hc,R.ah];have e:(M.map λq=>Dt.bl false)=(M.map λq=>false).map Dt.bl:=by rw[List.map_map];rfl
  have ea:(M.map λq=>false).any id=false:=by rw[List.any_eq_false];intro x hx;obtain⟨_,_,rfl⟩:=Qi.mp hx;simp
  rw[e,jt,ea];rfl
 have loop:=dH (S:=none) (tg:= .nm 5) (body:=aT (aq fs (N - 1)) E9) (ds:=F.map tI) (ρ:=[some (lI M),some (tI (List.replicate m 0)),some (.int m),some (tI (List.replicate m 0)),some (.lst []),none,none])
  (λpre ρ=>∃x5 x6,ρ=[some (lI M),some (tI (List.replicate m 0)),some (.int m),some (tI (List.replicate m 0)),some (.lst []),x5,x6]) ⟨none,none,rfl⟩ (by
   rintro pre x post ρ e ⟨x5,x6,rfl⟩;have hx:x∈F.map tI:=by rw[e];simp
   obtain⟨q,hq,rfl⟩:=Qi.mp hx;obtain⟨⟨Pl,Mc⟩,Pm⟩:=Nl q hq
   let Z:=((List.replicate m (0:Int)).zip q).filter λp=>decide (0 < p.2)
   have LU:Z≠[]:=by
    intro hz;have Jf:∀y∈q,y=0:=λy hy=>by
     obtain⟨k,hk,rfl⟩:=List.getElem_of_mem hy;have hn:=Mc q[k] (List.getElem_mem hk);by_cases h:0 < q[k]
     ·have NY:k < ((List.replicate m (0:Int)).zip q).length:=by rw[List.length_zip,List.length_replicate];lia
      have F4:((List.replicate m (0:Int)).zip q)[k]∈(List.replicate m (0:Int)).zip q:=List.getElem_mem NY;have:((List.replicate m (0:Int)).zip q)[k]∈Z:=List.mem_filter.mpr ⟨F4,by rw[List.getElem_zip];exact Qc h⟩;rw[hz] at this;cases this
     ·lia
    have:=oU Jf
    lia
   have Nu:ev (aq fs (N - 1)) BN [some (lI M),some (tI (List.replicate m 0)),some (.int m),some (tI (List.replicate m 0)),some (.lst []),some (tI q),x6] none= .ok (.int 0,none):=by
    have hc:aG (aJ (.tp [1,2]) (a8 (aq fs (N - 1)) (.cons (.cmp .Gt (.var 2) (.con (.int 0))) .nil)) (bb (aq fs (N - 1)) (.bin .FloorDiv (.var 1) (.var 2))) [none,none,none]) (cK ((List.replicate m (0:Int)).map Dt.int) (q.map Dt.int)) none= .ok (((List.replicate m (0:Int)).zip q).flatMap λp=>if decide (0 < p.2)=true then[Dt.int 0] else[],none):=by
     rw[dc];refine bw λp hp=>?_
     have h1:=List.of_mem_zip hp;have h0:p.1=0:=List.eq_of_mem_replicate h1.1;refine turn_if (ρ1:=[none,some (.int p.1),some (.int p.2)]) rfl (by simp only[RX]) λhb=>⟨?_,rfl⟩
     have eE:0 < p.2:=Py hb;have d9:p.2.natAbs.log2 < 200:=(Nat.log2_lt (by lia)).mpr (Mc p.2 h1.2).2;have fd:=qh (i:=0) (j:=p.2) eE (by lia);simp only[RX,h0,fd,Int.zero_ediv]
    rw[cZ] at hc;unfold BN;rw[bW,aR (ds:=cK ((List.replicate m (0:Int)).map Dt.int) (q.map Dt.int)) (S1:=none) (hU (S1:=none) (S2:=none) rfl rfl rfl rfl) (by rw[dc,PL,List.length_zip,List.length_replicate];lia) rfl hc,R.ah];have e1:(Z.map λp=>Dt.int 0)=(Z.map λp=>(0:Int)).map Dt.int:=by rw[List.map_map];rfl
    have e2:iT (Z.map λp=>(0:Int))=0:=by have:=(jQ (Z.map λp=>(0:Int)) (by rw[Ne,List.map_eq_nil_iff];exact LU)).1;obtain⟨_,_,e⟩:=Qi.mp this;exact e.symm
    show (cL .minL [.lst (Z.map λp=>Dt.int 0)]).bind _=_;rw[e1,yW (by rw[Ne,List.map_eq_nil_iff];exact LU),e2];rfl
   exact⟨_,_,rfl,fZ (d:= .int 0) (S1:=none) Nu rfl (fY (S1:=none) rfl rfl),some (tI q),some (.int 0),rfl⟩)
 obtain⟨ρ1,ek,x5,x6,rfl⟩:=loop;refine aA H.h (by lia) rfl ?_;show fin (aT (aq fs (N - 1)) (yQ ik iz ie) [some (lI M),some (tI (List.replicate m 0)),none,none,none,none,none] none)=_;refine ao (d:= .int m) (S1:=none) (by simp only[RX,ln]) rfl (dF (ρ1:=[some (lI M),some (tI (List.replicate m 0)),some (.int m),none,none,none,none]) (S1:=none) ?_ (bM (S1:=none) (by rw[bV,hA];simp only[RX,Kl];rfl) (ao (d:=tI (List.replicate m 0)) (S1:=none) rfl (by unfold bu;rw[bz,Bool.or_true]) (gw (d:= .lst []) (S1:=none) rfl rfl (cV (ds:=F.map tI) (S1:=none) (jK (d:=lI F) (by simp only[RX,hF]) rfl) rfl ek (ay rfl))))));rw[ex];show ((ev (aq fs (N - 1)) (.call ik (.cons (.var 0) (.cons uX (.cons (.tup .nil) .nil))) []) [some (lI M),some (tI (List.replicate m 0)),some (.int m),none,none,none,none] none).bind _)=_;simp only[RX,hm,hk]
end
end Rx
end
section
namespace Rx
open PySem PySem.W PySem.Spec PyProof.Rows L2 PySem.SeqAt
theorem xt {fs:List Fn} {n k:Nat} {g:Fn} {args:List Dt} {S:Sx} (h:fs[k]?=some g):aq fs (n + 1) k args S=fN (aq fs n) g args S:=by show (match fs[k]? with | some g=>fN (aq fs n) g args S | none=>R.bad)=_;rw[h]
section
variable {g:G} {K:Frag} {mg:Str->Option Value} {P:Program} {w:World} {base:Heap} {fs:List Fn}
theorem pY {n L m:Nat} {params:Arguments} {body:List Stmt} {scope:Scope} {dV kV doc pm eI ct oc:Value} {an od:Option Addr} {rY:Array (Option Value)} {f:Addr} {N ps:List Str} {M:List Bool} {δ κ:Option Nat} {fF:Bool} {ts:Ts}
  {xv:Nat->Value} (hm:MG g mg) (zC:XG g K mg xv) (ok:nE g K mg 0 g.fns fs) (lk:K.lookup f=some ⟨oc,od,.func (PySem.W.fnOf "law" "law" params body scope dV kV doc pm an eI ct),rY⟩) (ux:PySem.W.codeIn K eI "law"=true) (S:dZ N ps scope)
  (hM:∀i,i < ps.length->M[i]?≠some true) (hp:ps.length=1) (hc:B1 m g ⟨scope.names,N,M,δ,κ⟩ false fF body=some ts) (hf:fs[L]?=some ⟨1,N.length,false,ts⟩)
  (hn:∀ns:List Int,ns.length<=63->∃S,aq fs (n + 1) L [.bJ ns] none= .ok (.bl true,S)):
  gW P w K mg base (ny P w) (n + 1) f (PySem.W.fnOf "law" "law" params body scope dV kV doc pm an eI ct) ps (sM K):=by
 have h:=kX (xv:=xv) (P:=P) (w:=w) (base:=base) lk ux S hm zC (j0 (P:=P) (w:=w) (base:=base) (xv:=xv) hm zC ok n) hM (λz=>by cases z) hc;refine h.imp λvs H Q E q=>?_
 obtain⟨a,ns,rfl,hs,hl,hq⟩:=q;obtain⟨S',hS⟩:=hn ns hl;rw[xt hf] at hS;rw[hp];refine⟨rfl,N0,none,[.bJ ns],none,[.ref a],⟨rfl,rfl,rfl⟩,ak.cons ?_ ak.nil,λb z=>z.elim,?_⟩
 ·unfold RV;refine⟨a,rfl,?_⟩;rcases hs with hs | hs
  ·exact .inl ⟨hs,λz=>z⟩
  ·exact .inr hs
 ·rw[hS];intro v H' fo;rw[fo.val.aw];exact hq H'
end
theorem walkR {l:PySem.W.OpenLaw} {q:Program} {k:Nat} {loose:List Str} {XP:(Str->Option Value)->Heap->Prop} {YP:World->Heap->Prop} {d:DefRec} {K:Params->PySem.W.Frag} (hn:l.most=some 63) (FU:d.params.defaults=[]) (hr:gk k callerA)
  (hY:∀(w:World) (h:Heap),YP w h->(K w.params).In h)
  (F:∀(w:World) (mg:Str->Option Value) (fa:Addr) (h:Heap),(K w.params).In h->h.Ns mainGlobals mg->mg d.name=some (.ref fa)->
   ∃fd:FuncData,(∀(s:Shared) (u:Value),BindsTo s fd ⟨[u],[]⟩ [("_law_script",u)])/\∀base:Heap,(K w.params).In base->base.Ns mainGlobals mg->gW l.prog w (K w.params) mg base (ny l.prog w) k fa fd ["_law_script"] (sM (K w.params))):
  PySem.W.WalkO q loose XP YP l.row.toRowW d [] (λf vs=>PySem.call f vs):=
 L2.AK (n:=63) (k:=k) (x:="_law_script") (CX:=λw=>ny l.prog w) (sp:=λw=>sM (K w.params)) hn (by decide) FU hr hY F (λ_ _ a ns hl _ hS=>⟨a,ns,rfl,hS,hl,λ_=>rfl⟩) λ_ _ _ _ _ z=>by obtain⟨_,_,_,_,_,_,_,_,_,z⟩:=z;exact z
structure Row where
 nm:Str
 s:Stmt
 ps:List Str
 ms:List Str:=[]
 dr:Option Str:=none
 dp:Bool:=false
 eQ:List Dt:=[]
 dk:Option Str:=none
namespace Row
noncomputable def N (r:Row):List Str:=OB (br r.s).names r.ps
noncomputable def gm (r:Row):Gm:=⟨(br r.s).names,r.N,EL r.N r.ms,if r.dp then some 0 else r.dr.bind (wo · r.N),r.dk.bind (wo · r.N)⟩
noncomputable def fn (g:G) (j:Nat) (r:Row):Option Fn:=(B1 60 g r.gm r.dp (g.fr j) (gv r.s)).map λts=>⟨r.ps.length,r.N.length,r.dp,ts⟩
noncomputable def ent (r:Row):Str×Nat×List Dt×Bool:=(r.nm,r.ps.length,r.eQ,r.dp)
noncomputable def ok (r:Row):Bool:=
 ((br r.s).kind== .function)&& !(br r.s).isCoroutine&& !(br r.s).isGenerator&&decide r.N.Nodup&&decide (r.N.take r.ps.length=r.ps)&&
 (r.ps.all λx=>(br r.s).names.lookup x==some .local||(br r.s).names.lookup x==some .cell)&&((br r.s).names.all λy=>y.2 != .free)&&
 ((EL r.N r.ms).take r.ps.length).all (λb=> !b)&&r.eQ.all nC
theorem scope {r:Row} (h:r.ok=true):dZ r.N r.ps (br r.s)/\(∀i,i < r.ps.length->(EL r.N r.ms)[i]?≠some true)/\r.eQ.all nC=true:=by
 unfold ok at h;simp only[Pw] at h;obtain⟨⟨⟨⟨⟨⟨⟨⟨h1,h2⟩,h3⟩,h4⟩,h5⟩,h6⟩,h7⟩,h8⟩,h9⟩:=h;refine⟨⟨P6 h1,by simpa using h2,by simpa using h3,Py h4,Py h5,λx hx=>?_,λy hy e=>?_⟩,Gw h8,h9⟩
 ·have:=Qj.mp h6 x hx;rcases Bool.or_eq_true_iff.mp this with z | z
  ·exact .inl (P6 z)
  ·exact .inr (P6 z)
 ·have:=Qj.mp h7 y hy;rw[e] at this;cases this
end Row
noncomputable def nV (g:G):Nat->List Row->Option (List Fn)
 | _,[]=>some []
 | j,r::rs=>(r.fn g j).bind λf=>(nV g (j + 1) rs).map (f:: ·)
noncomputable def Fd (K:Frag) (nm:Str) (s:Stmt) (ps:List Str) (eQ:List Dt):Prop:=∃(fa:Addr) (oc dV kV doc pm eI ct:Value) (od an:Option Addr) (rY:Array (Option Value)),
 nsIn K mainGlobals nm=some (some (.ref fa))/\K.lookup fa=some ⟨oc,od,.func (fnOf nm nm (mf s) (gv s) (br s) dV kV doc pm an eI ct),rY⟩/\codeIn K eI nm=true/\keepIn K (.ref fa)=true/\(eQ=[]->dV= .none)/\
 ∀j,j<=eQ.length->∃ds,au ((eQ.drop j).map mV) ds/\Binds K (fnOf nm nm (mf s) (gv s) (br s) dV kV doc pm an eI ct) ps ds
noncomputable def HR (K:Frag):List Row->Prop
 | []=>True
 | r::rs=>Fd K r.nm r.s r.ps r.eQ/\HR K rs
section
variable {g:G} {K:Frag} {mg:Str->Option Value} {h:Heap} {fs:List Fn}
theorem vH (X:K.In h) (Gs:h.Ns mainGlobals mg):∀{rs:List Row} {i:Nat} {fs:List Fn},rs.all Row.ok=true->nV g i rs=some fs->HR K rs->nE g K mg i (rs.map Row.ent) fs
 | [],i,fs,_,e,_=>by cases e;trivial
 | r::rs,i,fs,hk,e,F=>by rw[List.all_cons,Pw] at hk;obtain⟨f,e1,e⟩:=Pt.mp e;obtain⟨JA,e2,rfl⟩:=PX.mp e;obtain⟨ts,c1,rfl⟩:=PX.mp e1;obtain⟨⟨fa,oc,dV,kV,doc,pm,eI,ct,od,an,rY,a,l,c,k,_,b⟩,F⟩:=F;obtain⟨s1,s2,s3⟩:=Row.scope hk.1;exact⟨⟨fa,r.ps,r.N,_,_,_,60,oc,od,an,rY,_,_,_,dV,kV,doc,pm,eI,ct,l,c,k,mg_of X Gs a,s1,s2,λz=>if_pos z,rfl,c1,rfl,rfl,rfl,b,s3⟩,vH X Gs hk.2 e2 F⟩
theorem Cd {rs:List Row}:∀{L i:Nat} {fs:List Fn} {r:Row},nV g i rs=some fs->rs[L]?=some r->∃ts,B1 60 g r.gm r.dp (g.fr (i + L)) (gv r.s)=some ts/\fs[L]?=some ⟨r.ps.length,r.N.length,r.dp,ts⟩:=by
 induction rs with
 | nil=>intro L i fs r _ e;simp at e
 | cons r0 rs ih=>
  intro L i fs r e hr;obtain⟨f,e1,e⟩:=Pt.mp e;obtain⟨JA,e2,rfl⟩:=PX.mp e;cases L with
  | zero=>cases hr;obtain⟨ts,c1,rfl⟩:=PX.mp e1;exact⟨ts,c1,rfl⟩
  | succ L=>obtain⟨ts,c1,c2⟩:=ih e2 (by simpa using hr);exact⟨ts,by rw[show i + (L + 1)=i + 1 + L by lia];exact c1,by simpa using c2⟩
theorem vB:∀{rs:List Row} {L:Nat} {r:Row},HR K rs->rs[L]?=some r->Fd K r.nm r.s r.ps r.eQ
 | [],L,r,_,e=>by simp at e
 | r0::rs,0,r,F,e=>by cases e;exact F.1
 | r0::rs,L + 1,r,F,e=>vB F.2 (by simpa using e)
noncomputable def IY (K:Frag):List Str->Prop
 | []=>True
 | x::xs=>nsIn K mainGlobals x=some none/\IY K xs
noncomputable def IU (K:Frag):List (Str×Dt)->Prop
 | []=>True
 | x::xs=>(∃u,nsIn K mainGlobals x.1=some (some u)/\nC x.2=true/\RelV (mV x.2) u)/\IU K xs
theorem wG {x:Str}:∀{xs:List Str},IY K xs->x∈xs->nsIn K mainGlobals x=some none
 | y::xs,h,hx=>by
  rcases PQ.mp hx with rfl | hx
  ·exact h.1
  ·exact wG h.2 hx
theorem vo {x:Str} {d:Dt}:∀{xs:List (Str×Dt)},IU K xs->xs.lookup x=some d->∃u,nsIn K mainGlobals x=some (some u)/\nC d=true/\RelV (mV d) u
 | [],_,e=>by simp at e
 | y::xs,h,e=>by
  rw[P9] at e;split at e
  ·rename_i q;cases e;rw[P6 q];exact h.1
  ·exact vo h.2 e
noncomputable def Jd (K:Frag) (C:Addr):List (Str×Bool)->Prop
 | []=>True
 | x::xs=>(∃c,(nsIn K mainGlobals x.1=some (some c)/\(∃D,c= .ref D)\/nsIn K mainGlobals x.1=some none/\x.1="ValueError"/\c= .type "ValueError")/\kitOne K (.ref C) c=some x.2/\(x.2=true->exmOne K (.ref C) c=some true))/\Jd K C xs
noncomputable def Jc (K:Frag):List (Str×List (Str×Bool))->Prop
 | []=>True
 | x::xs=>(∃C,nsIn K mainGlobals x.1=some (some (.ref C))/\excIn K C BY "ValueError.__new__"=true/\uL K C/\Jd K C x.2)/\Jc K xs
theorem yc (X:K.In h) (Gs:h.Ns mainGlobals mg) {C:Addr} {t:Str} {b:Bool}:∀{xs:List (Str×Bool)},Jd K C xs->xs.lookup t=some b->∃c,(mg t=some c/\(∃D,c= .ref D)\/mg t=none/\t="ValueError"/\c= .type "ValueError")/\kitOne K (.ref C) c=some b/\(b=true->exmOne K (.ref C) c=some true)
 | [],_,e=>by simp at e
 | y::xs,hx,e=>by
  rw[P9] at e;split at e
  ·rename_i q;cases e;rw[P6 q];obtain⟨c,h1,h2⟩:=hx.1;exact⟨c,h1.imp (λz=>⟨mg_of X Gs z.1,z.2⟩) λz=>⟨mg_none_of X Gs z.1,z.2⟩,h2⟩
  ·exact yc X Gs hx.2 e
noncomputable def HQ (g:G) (mg:Str->Option Value) (k:Nat):Value:=((g.xs[k]?).bind λx=>mg x.1).getD .none
theorem x9 (X:K.In h) (Gs:h.Ns mainGlobals mg):∀{xs:List (Str×List (Str×Bool))} {k:Nat} {x:Str} {ts:List (Str×Bool)},Jc K xs->xs[k]?=some (x,ts)->∃C,mg x=some (.ref C)/\Ew K mg C ts
 | [],k,x,ts,_,e=>by simp at e
 | y::xs,0,x,ts,hx,e=>by cases e;obtain⟨C,h1,h2,h3,h4⟩:=hx.1;exact⟨C,mg_of X Gs h1,h2,h3,λt b q=>yc X Gs h4 q⟩
 | y::xs,k + 1,x,ts,hx,e=>x9 X Gs hx.2 (by simpa using e)
theorem law_mk {l:OpenLaw} {w:World} {fa:Addr} {rs:List Row} {cons:List (Str×Dt)} {bls:List Str} {fr:Nat->Bool} {xs:List (Str×List (Str×Bool))} {L n:Nat} {sL:Stmt} {ms:List Str} {dr kd:Option Str} (X:K.In h) (Gs:h.Ns mainGlobals mg) (NO:mg "law"=some (.ref fa))
  (hL:rs[L]?=some ⟨"law",sL,["_law_script"],ms,dr,false,[],kd⟩) (hk:rs.all Row.ok=true) (hfs:nV ⟨rs.map Row.ent,cons,bls,fr,xs⟩ 0 rs=some fs)
  (hb:∀(s:Shared) (v:Value) (kV doc pm eI ct:Value) (an:Option Addr),BindsTo s (fnOf "law" "law" (mf sL) (gv sL) (br sL) .none kV doc pm an eI ct) ⟨[v],[]⟩ [("_law_script",v)])
  (hn:∀ns:List Int,ns.length<=63->∃S,aq fs (n + 1) L [.bJ ns] none= .ok (.bl true,S)) (B:IY K bls) (C:IU K cons) (F:HR K rs) (E:Jc K xs):
  ∃fd:FuncData,(∀(s:Shared) (v:Value),BindsTo s fd ⟨[v],[]⟩ [("_law_script",v)])/\∀base:Heap,K.In base->base.Ns mainGlobals mg->gW l.prog w K mg base (ny l.prog w) (n + 1) fa fd ["_law_script"] (sM K):=by
 have zC:XG ⟨rs.map Row.ent,cons,bls,fr,xs⟩ K mg (HQ ⟨rs.map Row.ent,cons,bls,fr,xs⟩ mg):=λk x ts e=>by obtain⟨C,h1,h2⟩:=x9 X Gs E e;have e:xs[k]?=some (x,ts):=e;exact⟨C,by simp[HQ,e,h1],h1,h2⟩
 have hm:MG ⟨rs.map Row.ent,cons,bls,fr,xs⟩ mg:=⟨λx d hx=>by
   obtain⟨u,k1,k2,k3⟩:=vo C hx;exact⟨u,k2,mg_of X Gs k1,k3⟩,λx hx=>mg_none_of X Gs (wG B hx)⟩
 have ok:=vH (g:=⟨rs.map Row.ent,cons,bls,fr,xs⟩) X Gs hk hfs F;obtain⟨O5,oc,dV,kV,doc,pm,eI,ct,od,an,rY,a,lk,c,k,hd,b⟩:=vB F hL;cases hd rfl;have e:=NO.symm.trans (mg_of X Gs a);cases e;obtain⟨ts,c1,c2⟩:=Cd hfs hL;have hok:=Row.scope (Qj.mp hk _ (List.mem_iff_getElem?.mpr ⟨L,hL⟩));exact⟨_,λs v=>hb s v kV doc pm eI ct an,λbase _ _=>pY hm zC ok lk c hok.1 hok.2.1 rfl c1 c2 hn⟩
end
end Rx
end
section
namespace K26
open PySem PySem.W PySem.Spec PyProof.Rows L2 Mx Rx
noncomputable def top (i:Nat):Stmt:=PySem.Challenge.pw_mixform_k26_too_many.main.body.getD i (.Pass ⟨0,0,0,0⟩)
noncomputable abbrev rows:List Rx.Row:=[⟨"product",top 7,["one","other"],[],none,false,[],none⟩,
 ⟨"solves",top 8,["rows","row","right"],[],none,false,[.aP],none⟩,
 ⟨"cleared",top 10,["row","place","by"],[],none,false,[],none⟩,
 ⟨"settled",top 11,["rows","many","right"],[],none,false,[],none⟩,
 ⟨"greatest",top 12,["rows","right","settled_many","free_many"],[],none,false,[],none⟩,
 ⟨"walked",top 13,["many","free","bound"],[],none,false,[],none⟩,
 ⟨"completed",top 14,["row","pairs"],["whole"],none,false,[],none⟩,
 ⟨"solutions",top 15,["rows","many","right"],[],none,false,[],none⟩,
 ⟨"check_bounds",top 21,["rows","many","right"],[],none,false,[],none⟩,
 ⟨"lies_under",top 22,["one","other"],[],none,false,[],none⟩,
 ⟨"lies_over",top 23,["row","found"],[],none,false,[],none⟩,
 ⟨"least",top 24,["rows","many"],["found"],none,false,[],none⟩,
 ⟨"least_to",top 25,["rows","many","right"],[],none,false,[],none⟩,
 ⟨"shares",top 26,["rows","row"],["pairs"],none,false,[],none⟩,
 ⟨"_law_cell",top 28,["_law_script","_law_k"],[],none,false,[],none⟩,
 ⟨"_law_pick",top 29,["_law_script","_law_k","_law_many"],[],none,false,[],none⟩,
 ⟨"_law_equations",top 30,["_law_deep","_law_many","_law_at","_law_place","_law_number"],["_law_row","_law_rows"],none,false,[],none⟩,
 ⟨"_law_refused",top 31,["_law_way","_law_rows","_law_many","_law_right_here"],[],none,false,[],none⟩,
 ⟨"_law_all_refused",top 32,["_law_script","_law_rows","_law_many","_law_right_here","_law_ways"],[],none,false,[],none⟩,
 ⟨"_law_taken",top 33,["_law_rows","_law_many","_law_right_here"],[],none,false,[],none⟩,
 ⟨"_law_right",top 34,["_law_deep","_law_at","_law_number"],[],none,false,[],none⟩,
 ⟨"law",top 35,["_law_script"],[],none,false,[],none⟩]
noncomputable abbrev cons:List (Str×Dt):=[("MOST_ROWS",(.int 16)),("MOST_MANY",(.int 4)),("MOST_NUMBER",(.int 3)),("MOST_RIGHT",(.int 20))]
noncomputable abbrev bls:List Str:=["abs","all","any","divmod","int","isinstance","len","list","max","min","range","sorted","sum","tuple","zip"]
noncomputable abbrev fr (i:Nat):Bool:=[false,false,false,false,false,false,false,true,false,false,false,true,true,true,false,true,true,false,false,false,false,false].getD i false
noncomputable abbrev xs:List (Str×List (Str×Bool)):=[("TooMany",[("MixError",true),("NoRow",false),("NoRule",false),("NoText",false),("TooMany",true),("ValueError",true)]),("NoRow",[("MixError",true),("NoRow",true),("NoRule",false),("NoText",false),("TooMany",false),("ValueError",true)])]
noncomputable def Jh:Ts:=(.cons (.asgM 5 (.lst .nil)) (.cons (.fr (.nm 6) (.rng1 (.var 0)) (.cons (.asgM 7 (.comp [none,none] (.rng1 (.var 1)) (.nm 1) .nil (.con (.int 0)))) (.cons (.ifs (.cmp .Eq (.var 6) (.var 2)) (.cons (.qr 7 (.var 3) (.var 4)) .nil) .nil) (.cons (.app 5 (.bi .tuple (.cons (.mvr 7) .nil))) .nil)))) (.cons (.ret (.mvr 5)) .nil)))
noncomputable def Ey:Ts:=(.cons (.asg 4 (.bin .Mult (.tup (.cons (.con (.int 1)) .nil)) (.var 2))) (.cons (.tr (.cons (.ifs (.cmp .Eq (.var 0) (.con (.int 0))) (.cons (.yl (.call 11 (.cons (.var 1) (.cons (.var 2) .nil)) [])) .nil) (.cons (.ifs (.cmp .Eq (.var 0) (.con (.int 1))) (.cons (.yl (.call 12 (.cons (.var 1) (.cons (.var 2) (.cons (.var 3) .nil))) [])) .nil) (.cons (.ifs (.cmp .Eq (.var 0) (.con (.int 2))) (.cons (.yl (.call 13 (.cons (.var 1) (.cons (.var 4) .nil)) [])) .nil) (.cons (.yl (.call 13 (.cons (.var 1) (.cons (.bin .Mult (.tup (.cons (.con (.int 0)) .nil)) (.var 2)) .nil)) [])) .nil)) .nil)) .nil)) .nil) [some true,some false]) (.cons (.ret (.con (.bl false))) .nil)))
noncomputable def Ji:Ts:=(.cons (.asg 5 (.call 15 (.cons (.var 0) (.cons (.con (.int 7)) (.cons (.bi .len (.cons (.var 4) .nil)) .nil))) [])) (.cons (.fr (.nm 6) (.rng1 (.bi .len (.cons (.var 4) .nil))) (.cons (.ifs (.nt (.call 17 (.cons (.idx (.var 4) (.bin .Mod (.bin .Add (.var 5) (.var 6)) (.bi .len (.cons (.var 4) .nil)))) (.cons (.var 1) (.cons (.var 2) (.cons (.var 3) .nil)))) [])) (.cons (.ret (.con (.bl false))) .nil) .nil) .nil)) (.cons (.ret (.con (.bl true))) .nil)))
noncomputable def Jj:Ts:=(.cons (.asg 3 (.lst (.cons (.call 11 (.cons (.var 0) (.cons (.var 1) .nil)) []) (.cons (.call 12 (.cons (.var 0) (.cons (.var 1) (.cons (.var 2) .nil))) []) (.cons (.call 13 (.cons (.var 0) (.cons (.bin .Mult (.tup (.cons (.con (.int 0)) .nil)) (.var 1)) .nil)) []) .nil))))) (.cons (.ret (.and (.cmp .Eq (.bi .len (.cons (.comp [none,none] (.seq (.var 3)) (.nm 1) (.cons (.bi (.isi "list") (.cons (.var 1) .nil)) .nil) (.var 1)) .nil)) (.con (.int 3))) (.cmp .Eq (.idx (.var 3) (.con (.int 2))) (.lst .nil)))) .nil))
noncomputable def Jk:Ts:=(.cons (.ret (.bi .tuple (.cons (.comp [none,none,some 1,some 2] (.rng1 (.var 0)) (.nm 1) .nil (.bin .Mult (.var 3) (.bi .int (.cons (.cmp .Eq (.var 1) (.var 2)) .nil)))) .nil))) .nil)
noncomputable def ON:Ts:=(.cons (.ifs (.nt (.call 18 (.cons (.var 0) (.cons (.lst .nil) (.cons (.bin .Add (.con (.int 5)) (.call 15 (.cons (.var 0) (.cons (.con (.int 14)) (.cons (.con (.int 3)) .nil))) [])) (.cons (.tup .nil) (.cons (.lst (.cons (.con (.int 0)) (.cons (.con (.int 1)) (.cons (.con (.int 2)) (.cons (.con (.int 3)) .nil))))) .nil))))) [])) (.cons (.ret (.con (.bl false))) .nil) .nil) (.cons (.ret (.and (.call 19 (.cons (.var 10) (.cons (.var 4) (.cons (.var 11) .nil))) []) (.call 18 (.cons (.var 0) (.cons (.var 12) (.cons (.var 15) (.cons (.var 13) (.cons (.var 16) .nil))))) []))) .nil))
noncomputable def IH:Ts:=(.cons (.ifs (.or (.nt (.call 18 (.cons (.var 0) (.cons (.var 12) (.cons (.var 15) (.cons (.var 13) (.cons (.var 16) .nil))))) [])) (.nt (.call 17 (.cons (.con (.int 2)) (.cons (.var 10) (.cons (.con (.int 5)) (.cons (.var 11) .nil)))) []))) (.cons (.ret (.con (.bl false))) .nil) .nil) ON)
noncomputable def MC:Ts:=(.cons (.asg 16 (.idx (.lst (.cons (.lst (.cons (.con (.int 0)) (.cons (.con (.int 1)) (.cons (.con (.int 2)) (.cons (.con (.int 3)) .nil))))) (.cons (.lst (.cons (.con (.int 1)) .nil)) .nil))) (.bi .int (.cons (.and (.cmp .Eq (.var 1) (.con (.int 3))) (.cmp .Eq (.bi .len (.cons (.var 12) .nil)) (.var 5))) .nil)))) IH)
noncomputable def MB:Ts:=(.cons (.asg 15 (.var 4)) (.cons (.ifs (.cmp .Eq (.var 1) (.con (.int 1))) (.cons (.asg 15 (.bin .Add (.con (.int 5)) (.call 15 (.cons (.var 0) (.cons (.con (.int 13)) (.cons (.con (.int 3)) .nil))) []))) (.cons (.asg 12 (.comp [none,none,some 4,some 15] (.seq (.var 12)) (.nm 1) .nil (.bin .Add (.var 1) (.bin .Mult (.tup (.cons (.con (.int 0)) .nil)) (.bin .Sub (.var 3) (.var 2)))))) .nil)) .nil) MC))
noncomputable def MA:Ts:=(.cons (.ifs (.cmp .Eq (.var 1) (.con (.int 3))) (.cons (.asg 13 (.call 20 (.cons (.bi .len (.cons (.var 13) .nil)) (.cons (.var 7) (.cons (.bin .Add (.var 9) (.bin .Mult (.var 3) (.var 2))) .nil))) [])) .nil) .nil) MB)
noncomputable def Mz:Ts:=(.cons (.ifs (.cmp .Eq (.var 1) (.con (.int 2))) (.cons (.asg 12 (.call 16 (.cons (.bi .len (.cons (.var 12) .nil)) (.cons (.var 4) (.cons (.var 7) (.cons (.var 8) (.cons (.bin .Add (.var 6) (.bin .Mult (.var 3) (.var 2))) .nil))))) [])) .nil) .nil) MA)
noncomputable def My:Ts:=(.cons (.ifs (.or (.cmp .Eq (.var 1) (.con (.int 0))) (.cmp .Eq (.call 15 (.cons (.var 0) (.cons (.con (.int 11)) (.cons (.con (.int 4)) .nil))) []) (.con (.int 0)))) (.cons (.asg 14 (.bin .Add (.bin .Sub (.con (.int 17)) (.bi .len (.cons (.var 12) .nil))) (.call 15 (.cons (.var 0) (.cons (.con (.int 12)) (.cons (.con (.int 3)) .nil))) []))) (.cons (.asg 12 (.bin .Add (.var 12) (.comp [none,none,some 4] (.rng1 (.var 14)) (.nm 1) .nil (.bin .Mult (.tup (.cons (.con (.int 0)) .nil)) (.var 2))))) (.cons (.asg 13 (.bin .Add (.var 13) (.bin .Mult (.tup (.cons (.con (.int 0)) .nil)) (.var 14)))) .nil))) .nil) Mz)
noncomputable def OM:Ts:=(.cons (.asg 9 (.idx (.lst (.cons (.bin .Mult (.var 6) (.call 15 (.cons (.var 0) (.cons (.con (.int 10)) (.cons (.con (.int 4)) .nil))) [])) (.cons (.bin .Mult (.con (.int 20)) (.var 3)) .nil))) (.bin .FloorDiv (.var 1) (.con (.int 3))))) (.cons (.asg 10 (.call 16 (.cons (.var 5) (.cons (.var 4) (.cons (.var 7) (.cons (.var 8) (.cons (.var 6) .nil))))) [])) (.cons (.asg 11 (.call 20 (.cons (.var 5) (.cons (.var 7) (.cons (.var 9) .nil))) [])) (.cons (.asg 12 (.var 10)) (.cons (.asg 13 (.var 11)) My)))))
noncomputable def t8:Ts:=(.cons (.asg 7 (.call 15 (.cons (.var 0) (.cons (.con (.int 8)) (.cons (.var 5) .nil))) [])) (.cons (.asg 8 (.call 15 (.cons (.var 0) (.cons (.con (.int 9)) (.cons (.var 4) .nil))) [])) (.cons (.ifs (.cmp .Eq (.var 1) (.con (.int 2))) (.cons (.asg 6 (.bin .Mult (.con (.int 3)) (.var 3))) .nil) .nil) OM)))
noncomputable def t6:Ts:=(.cons (.ifs (.cmp .Eq (.var 1) (.con (.int 0))) (.cons (.asg 5 (.con (.int 16))) .nil) .nil) (.cons (.ifs (.cmp .Eq (.var 1) (.con (.int 1))) (.cons (.asg 4 (.con (.int 4))) .nil) .nil) t8))
noncomputable def Jl:Ts:=(.cons (.asg 1 (.call 15 (.cons (.var 0) (.cons (.con (.int 0)) (.cons (.con (.int 4)) .nil))) [])) (.cons (.asg 2 (.idx (.lst (.cons (.con (.int 1)) (.cons (.bin .Add (.con (.int 1)) (.bin .Mod (.call 14 (.cons (.var 0) (.cons (.con (.int 1)) .nil)) []) (.bin .Pow (.con (.int 10)) (.con (.int 18))))) .nil))) (.call 15 (.cons (.var 0) (.cons (.con (.int 2)) (.cons (.con (.int 2)) .nil))) []))) (.cons (.asg 3 (.bin .Sub (.con (.int 1)) (.bin .Mult (.con (.int 2)) (.call 15 (.cons (.var 0) (.cons (.con (.int 3)) (.cons (.con (.int 2)) .nil))) [])))) (.cons (.asg 4 (.bin .Add (.con (.int 1)) (.call 15 (.cons (.var 0) (.cons (.con (.int 4)) (.cons (.con (.int 4)) .nil))) []))) (.cons (.asg 5 (.bin .Add (.con (.int 1)) (.call 15 (.cons (.var 0) (.cons (.con (.int 5)) (.cons (.con (.int 3)) .nil))) []))) (.cons (.asg 6 (.bin .Sub (.call 15 (.cons (.var 0) (.cons (.con (.int 6)) (.cons (.con (.int 7)) .nil))) []) (.con (.int 3)))) t6))))))
noncomputable def fs:List Fn:=[⟨2,2,false,nN⟩,⟨3,3,false,BO 0⟩,⟨3,3,false,uP⟩,⟨3,8,false,yP 2⟩,⟨4,7,false,uR⟩,⟨3,5,false,yT⟩,⟨2,7,false,yM 0⟩,⟨3,8,false,yR 3 4 5 6⟩,⟨3,3,false,yL⟩,⟨2,4,false,yS⟩,⟨2,3,false,BM 9⟩,⟨2,4,false,yO 8 7 10⟩,⟨3,4,false,yN 8 7 10 11⟩,⟨2,7,false,yQ 8 1 11⟩,⟨2,3,false,qF⟩,⟨3,4,false,uU 14⟩,⟨5,8,false,Jh⟩,⟨4,7,false,Ey⟩,⟨5,7,false,Ji⟩,⟨3,4,false,Jj⟩,⟨3,3,false,Jk⟩,⟨1,17,false,Jl⟩]
theorem hok:rows.all Rx.Row.ok=true:=by decide +kernel
theorem hfs:nV ⟨rows.map Rx.Row.ent,cons,bls,fr,xs⟩ 0 rows=some fs:=by kernel_rfl
theorem A9:qD fs 15:=⟨14,rfl,rfl⟩
theorem tJ:uI fs 0 2 3 4 5 6 7 8 9 10 11 12 1 13:=⟨⟨rfl,rfl,rfl,rfl,rfl,rfl,rfl⟩,rfl,rfl,rfl,rfl,rfl,rfl,rfl⟩
noncomputable def kW (deep many a p:Nat) (x:Int):List (List Int):=(List.range deep).map λk=>if k=a then(List.replicate many 0).set p x else List.replicate many 0
noncomputable def Aw (deep a:Nat) (x:Int):List Int:=(List.range deep).map λk=>if k=a then x else 0
theorem mT (n:Nat):bg 0 n=(List.range n).map λ(i:Nat)=>Dt.int i:=by unfold bg;exact List.map_congr_left λi _=>by rw[Int.zero_add]
theorem bU (a b:Nat):((a:Int)==(b:Int))=decide (a=b):=by
 rw[Bool.eq_iff_iff,beq_iff_eq,decide_eq_true_iff]
 lia
theorem A5 {N deep many a p:Nat} {x:Int} (hN:1<=N) (hd:deep<=100) (hm:many<=100) (hp:p < many):aq fs N 16 [.int deep,.int many,.int a,.int p,.int x] none= .ok (lI (kW deep many a p x),none):=by
 have cW:lim=1000000:=rfl;have hz:∀x5 x6 x7,ev (aq fs (N - 1)) (.comp [none,none] (.rng1 (.var 1)) (.nm 1) .nil (.con (.int 0))) [some (.int deep),some (.int many),some (.int a),some (.int p),some (.int x),x5,x6,x7] none= .ok (.lst ((List.replicate many (0:Int)).map Dt.int),none):=λx5 x6 x7=>by
  have hc:aG (aJ (.nm 1) (a8 (aq fs (N - 1)) .nil) (bb (aq fs (N - 1)) (.con (.int 0))) [none,none]) (bg 0 many) none= .ok ((List.range many).map λ_=> .int 0,none):=by rw[mT];exact aS λj _=>aK (ρ1:=[none,some (.int j)]) rfl rfl rfl
  have e:((List.range many).map λ_=>Dt.int 0)=(List.replicate many (0:Int)).map Dt.int:=by rw[List.map_const',List.length_range,List.map_replicate]
  rw[e] at hc;exact aR (ds:=bg 0 many) (S1:=none) (eU (n:=many) rfl (by lia)) (by simp[bg];lia) rfl hc
 have loop:=dH (S:=none) (tg:= .nm 6) (body:=aT (aq fs (N - 1)) (.cons (.asgM 7 (.comp [none,none] (.rng1 (.var 1)) (.nm 1) .nil (.con (.int 0)))) (.cons (.ifs (.cmp .Eq (.var 6) (.var 2)) (.cons (.qr 7 (.var 3) (.var 4)) .nil) .nil) (.cons (.app 5 (.bi .tuple (.cons (.mvr 7) .nil))) .nil)))) (ds:=bg 0 deep) (ρ:=[some (.int deep),some (.int many),some (.int a),some (.int p),some (.int x),some (.lst []),none,none])
  (λpre ρ=>∃x6 x7,ρ=[some (.int deep),some (.int many),some (.int a),some (.int p),some (.int x),some (lI (kW pre.length many a p x)),x6,x7]) ⟨none,none,rfl⟩ (by
   rintro pre y post ρ e ⟨x6,x7,rfl⟩;obtain⟨h1,rfl⟩:=ir e;generalize hk:pre.length=k at *;have e1:kW (pre++[Dt.int k]).length many a p x=kW k many a p x++[if k=a then(List.replicate many 0).set p x else List.replicate many 0]:=by rw[PY,hk];unfold kW;rw[List.length_singleton,List.range_succ,Qs];rfl
   have hl:((kW k many a p x).map tI).length<=lim:=by rw[PL];unfold kW;rw[PL,List.length_range];lia
   have hE:=bU k a;by_cases hc:k=a
   ·rw[Qc hc] at hE;have es:((List.replicate many (0:Int)).map Dt.int).set p (.int x)=((List.replicate many (0:Int)).set p x).map Dt.int:=by rw[List.map_set]
    refine⟨_,_,rfl,rW (d:= .lst ((List.replicate many (0:Int)).map Dt.int)) (S1:=none) (hz _ _ _) rfl (mL (S1:=none) (by simp only[RX,hE]) (nx (qW (ds:=(List.replicate many (0:Int)).map Dt.int) (d:= .int x) (S1:=none) (S2:=none) (n:=(p:Int)) (j:=p) rfl rfl rfl rfl ?_) (qc (ds:=(kW k many a p x).map tI) (d:=tI ((List.replicate many (0:Int)).set p x)) (S1:=none) rfl ?_ (by unfold bu;rw[bz,Bool.or_true]) hl rfl))),some (.int k),some (.lst (((List.replicate many (0:Int)).set p x).map Dt.int)),?_⟩
    ·unfold mF;rw[PL,List.length_replicate,if_pos (by lia),if_pos (by lia)];simp
    ·rw[es];rfl
    ·rw[e1,if_pos hc,es];unfold lI;rw[Qs];rfl
   ·rw[P8 hc] at hE;refine⟨_,_,rfl,rW (d:= .lst ((List.replicate many (0:Int)).map Dt.int)) (S1:=none) (hz _ _ _) rfl (fY (S1:=none) (by simp only[RX,hE]) (qc (ds:=(kW k many a p x).map tI) (d:=tI (List.replicate many (0:Int))) (S1:=none) rfl rfl (by unfold bu;rw[bz,Bool.or_true]) hl rfl)),some (.int k),some (.lst ((List.replicate many (0:Int)).map Dt.int)),?_⟩;rw[e1,if_neg hc];unfold lI;rw[Qs];rfl)
 obtain⟨ρ1,ek,x6,x7,rfl⟩:=loop;have em:(bg 0 deep).length=deep:=by simp[bg]
 rw[em] at ek;refine aA (body:=Jh) rfl hN rfl ?_;show fin (aT (aq fs (N - 1)) Jh [some (.int deep),some (.int many),some (.int a),some (.int p),some (.int x),none,none,none] none)=_;exact gw (d:= .lst []) (S1:=none) rfl rfl (cV (ds:=bg 0 deep) (S1:=none) (eU (n:=deep) rfl (by lia)) rfl ek (ay rfl))
theorem Bq {N deep a:Nat} {x:Int} (hN:1<=N) (hd:deep<=100):aq fs N 20 [.int deep,.int a,.int x] none= .ok (tI (Aw deep a x),none):=by
 have cW:lim=1000000:=rfl;have hc:aG (aJ (.nm 1) (a8 (aq fs (N - 1)) .nil) (bb (aq fs (N - 1)) (.bin .Mult (.var 3) (.bi .int (.cons (.cmp .Eq (.var 1) (.var 2)) .nil)))) [none,none,some (.int a),some (.int x)]) (bg 0 deep) none= .ok ((List.range deep).map λk=> .int (if k=a then x else 0),none):=by
  rw[mT];refine aS λk _=>?_
  have hE:=bU k a;by_cases h:k=a
  ·rw[Qc h] at hE;have hi:cL .int [.bl true]= .ok (.int 1):=rfl;have m:=aO (i:=x) (j:=1) (.inr (by decide));rw[if_pos h];exact aK (ρ1:=[none,some (.int k),some (.int a),some (.int x)]) rfl (by simp only[RX,hE,hi,m,Int.mul_one]) rfl
  ·rw[P8 h] at hE;have hi:cL .int [.bl false]= .ok (.int 0):=rfl;have m:=aO (i:=x) (j:=0) (.inr (by decide));rw[if_neg h];exact aK (ρ1:=[none,some (.int k),some (.int a),some (.int x)]) rfl (by simp only[RX,hE,hi,m,Int.mul_zero]) rfl
 have e:((List.range deep).map λk=>Dt.int (if k=a then x else 0))=(Aw deep a x).map Dt.int:=by unfold Aw;rw[List.map_map];rfl
 rw[e] at hc;refine aA (body:=Jk) rfl hN rfl ?_;show fin (aT (aq fs (N - 1)) Jk [some (.int deep),some (.int a),some (.int x)] none)=_;refine ay ?_;rw[bW];refine(congrArg (R.bind · _) (aR (ds:=bg 0 deep) (S1:=none) (eU (n:=deep) rfl (by lia)) (by simp[bg];lia) rfl hc)).trans ?_;rfl
theorem u6 {M:List (List Int)} {many:Int} {r:List Int} (h:Rx.brk M many []=true):Rx.brk M many r=true:=by unfold Rx.brk at h ⊢;have:lU []=false:=rfl;rw[this,Bool.or_false] at h;rw[h,Bool.true_or]
theorem Fc {M:List (List Int)} {a b:Int} (fK:a<=b) (h:Rx.brk M a []=true):Rx.brk M b []=true:=by
 unfold Rx.brk at h ⊢;by_cases h4:4 < b
 ·rw[Qc h4];simp
 ·rw[P8 (show¬4 < a by lia)] at h;rw[P8 h4];exact h
theorem xj {N w many:Nat} {M:List (List Int)} {r:List Int} (hN:4<=N) (hw:w<=3) (hm:many<=1000) (hM:M.length<=1000) (hl:∀q∈M,q.length<=100) (hr:r.length<=1000) (hb:Rx.brk M many r=true) (vT:w≠1->Rx.brk M many []=true):
  aq fs N 17 [.int w,lI M,.int many,tI r] none= .ok (.bl true,none):=by
 have r1:=dq (m:=many) 1 (by lia);have r0:=dq (m:=many) 0 (by lia);have mx:∀q:List Int,q.length=many->Rx.brk M many []=true->aq fs (N - 1) 13 [lI M,tI q] none= .ex 0:=λq hq h=>Ay tJ (N:=N - 1) (by lia) hM hl (Fc (by rw[hq];exact(dQ ((many:Int)::M.map λz=>(z.length:Int)) (by simp)).2 _ PH) h)
 refine aA (body:=Ey) rfl (by lia) rfl ?_;show fin (aT (aq fs (N - 1)) Ey [some (.int w),some (lI M),some (.int many),some (tI r),none,none,none] none)=_;refine ao (d:=tI (List.replicate many 1)) (S1:=none) (by simp only[RX,r1]) (by unfold bu;rw[bz,Bool.or_true]) ?_;refine gz (ρ1:=[some (.int w),some (lI M),some (.int many),some (tI r),some (tI (List.replicate many 1)),none,none]) (S1:=none) ?_;have tr:∀{b:Ts},aT (aq fs (N - 1)) b [some (.int w),some (lI M),some (.int many),some (tI r),some (tI (List.replicate many 1)),none,none] none= .ex 0->ex (aq fs (N - 1)) (.tr b [some true,some false]) [some (.int w),some (lI M),some (.int many),some (tI r),some (tI (List.replicate many 1)),none,none] none= .ok (.ret (.bl true),[some (.int w),some (lI M),some (.int many),some (tI r),some (tI (List.replicate many 1)),none,none],none):=λ {b} h=>by rw[ex,h];rfl
 refine tr ?_
 match w,hw,vT with
 | 0,_,vT=>have h:=zL tJ (N:=N - 1) (by lia) hM hl (vT (by decide));exact mL (S1:=none) rfl (zV (by rw[ex];simp only[RX,h];rfl))
 | 1,_,_=>have h:=zK tJ (N:=N - 1) (by lia) hM hl hr hb;exact fY (S1:=none) rfl (mL (S1:=none) rfl (zV (by rw[ex];simp only[RX,h];rfl)))
 | 2,_,vT=>have h:=mx (List.replicate many 1) (by simp) (vT (by decide));exact fY (S1:=none) rfl (fY (S1:=none) rfl (mL (S1:=none) rfl (zV (by rw[ex];simp only[RX,h];rfl))))
 | 3,_,vT=>have h:=mx (List.replicate many 0) (by simp) (vT (by decide));exact fY (S1:=none) rfl (fY (S1:=none) rfl (fY (S1:=none) rfl (zV (by rw[ex];simp only[RX,r0,h];rfl))))
theorem px {N many:Nat} {M:List (List Int)} {r:List Int} {ns:List Int} {L:List Nat} (hN:5<=N) (hL:L≠[]) (Pa:L.length<=4) (Nr:∀w∈L,w<=3) (hm:many<=1000) (hM:M.length<=1000) (hl:∀q∈M,q.length<=100) (hr:r.length<=1000) (hb:Rx.brk M many r=true) (vT:(∃w∈L,w≠1)->Rx.brk M many []=true):
  aq fs N 18 [.bJ ns,lI M,.int many,tI r,.lst (L.map λ(w:Nat)=>Dt.int w)] none= .ok (.bl true,none):=by
 have cW:lim=1000000:=rfl;have L7:0 < L.length:=List.length_pos_iff.mpr hL;have ln:cL .len [.lst (L.map λ(w:Nat)=>Dt.int w)]= .ok (.int L.length):=by show R.ok (Dt.int ((L.map λ(w:Nat)=>Dt.int w).length:Nat))=_;rw[PL]
 have pk:=sj (fs:=fs) A9 (n:=N - 1) (by lia) (ns:=ns) (k:=7) (many:=L.length) (by decide) L7;have pk:aq fs (N - 1) 15 [.bJ ns,.int 7,.int L.length] none= .ok (.int (ba ns 7 L.length),none):=pk;generalize ba ns 7 L.length=f at pk;have loop:=dH (S:=none) (tg:= .nm 6) (body:=aT (aq fs (N - 1)) (.cons (.ifs (.nt (.call 17 (.cons (.idx (.var 4) (.bin .Mod (.bin .Add (.var 5) (.var 6)) (.bi .len (.cons (.var 4) .nil)))) (.cons (.var 1) (.cons (.var 2) (.cons (.var 3) .nil)))) [])) (.cons (.ret (.con (.bl false))) .nil) .nil) .nil)) (ds:=bg 0 L.length) (ρ:=[some (.bJ ns),some (lI M),some (.int many),some (tI r),some (.lst (L.map λ(w:Nat)=>Dt.int w)),some (.int f),none])
  (λpre ρ=>∃x,ρ=[some (.bJ ns),some (lI M),some (.int many),some (tI r),some (.lst (L.map λ(w:Nat)=>Dt.int w)),some (.int f),x]) ⟨none,rfl⟩ (by
   rintro pre y post ρ e ⟨x,rfl⟩;obtain⟨h1,rfl⟩:=ir e;generalize pre.length=k at *;have md:=cX (i:=(f:Int) + k) (j:=L.length) (by lia);have e1:((f:Int) + k) % (L.length:Int)=((f + k) % L.length:Nat):=by simp
   have hj:(f + k) % L.length < L.length:=Nat.mod_lt _ L7;generalize (f + k) % L.length=j at e1 hj;have FZ:=(mD (ds:=L.map λ(w:Nat)=>Dt.int w) (k:=j) (d:= .int (L[j]:Nat)) (by rw[P1,P7 hj];rfl)).2;have F7:L[j]∈L:=List.getElem_mem hj;have h:=xj (N:=N - 1) (w:=L[j]) (many:=many) (M:=M) (r:=r) (by lia) (Nr _ F7) hm hM hl hr hb λgg=>vT ⟨_,F7,gg⟩
   exact⟨_,_,rfl,fY (S1:=none) (by simp only[RX,ln,md,e1,FZ,h,Bool.not_true]) rfl,some (.int k),rfl⟩)
 obtain⟨ρ1,ek,x,rfl⟩:=loop;refine aA (body:=Ji) rfl (by lia) rfl ?_;show fin (aT (aq fs (N - 1)) Ji [some (.bJ ns),some (lI M),some (.int many),some (tI r),some (.lst (L.map λ(w:Nat)=>Dt.int w)),none,none] none)=_;exact ao (d:= .int f) (S1:=none) (by simp only[RX,ln,pk]) rfl (cV (ds:=bg 0 L.length) (S1:=none) (eU (n:=L.length) (by simp only[RX,ln]) (by lia)) rfl ek (ay rfl))
theorem D7 {N m:Nat} {M:List (List Int)} {r:List Int} (hN:10<=N) (E:kv m M r):aq fs N 19 [lI M,.int m,tI r] none= .ok (.bl true,none):=by obtain⟨F,hF,_⟩:=p7 tJ (N:=N - 1) (by lia) E;obtain⟨G,hG⟩:=CY tJ (N:=N - 1) (by lia) E;have hS:=xx tJ (N:=N - 1) (by lia) E;have r0:=dq (m:=m) 0 (by have:=E.m4;lia);refine aA (body:=Jj) rfl (by lia) rfl ?_;show fin (aT (aq fs (N - 1)) Jj [some (lI M),some (.int m),some (tI r),none] none)=_;refine ao (d:= .lst [lI F,lI G,.lst []]) (S1:=none) (by simp only[RX,hF,hG,r0,hS]) rfl (ay ?_);have n9:ev (aq fs (N - 1)) (.comp [none,none] (.seq (.var 3)) (.nm 1) (.cons (.bi (.isi "list") (.cons (.var 1) .nil)) .nil) (.var 1)) [some (lI M),some (.int m),some (tI r),some (.lst [lI F,lI G,.lst []])] none= .ok (.lst [lI F,lI G,.lst []],none):=rfl;have ln:cL .len [.lst [lI F,lI G,.lst []]]= .ok (.int 3):=rfl;have FZ:=(mD (ds:=[lI F,lI G,.lst []]) (k:=2) (d:= .lst []) rfl).2;have c3:((3:Int)==3)=true:=rfl;have ce:cU .Eq (.lst []) (.lst [])= .ok true:=rfl;simp only[RX,n9,ln,FZ,c3,ce];rfl
theorem A0 (p:Nat):(5:Int) + (p:Int)=((5 + p:Nat):Int):=by lia
theorem AM (ns:List Int) (k many:Nat) (h1:k < 1000000) (h2:0 < many):aq fs 59 15 [.bJ ns,.int k,.int many] none= .ok (.int (ba ns k many),none):=sj (fs:=fs) A9 (n:=59) (by decide) (ns:=ns) h1 h2
theorem CU (B:List (List Int)):cL .len [lI B]= .ok (.int B.length):=by show R.ok (Dt.int ((B.map tI).length:Nat))=_;rw[PL]
theorem Ks (B:List Int):cL .len [tI B]= .ok (.int B.length):=by show R.ok (Dt.int ((B.map Dt.int).length:Nat))=_;rw[PL]
theorem vv {ns:List Int} {w m deep a p:Nat} {more sg num tp:Int} {G B:List (List Int)} {r R:List Int} {wd:Nat} {yB uE:Option Dt} (Mg:wd<=1000) (hB:B.length<=1000) (hl:∀q∈B,q.length<=100) (hR:R.length<=1000) (hb:Rx.brk B wd R=true) (vT:¬(w=3/\B.length=deep)->Rx.brk B wd []=true) (E:kv m G r):
  fin (aT (aq fs 59) MC [some (.bJ ns),some (.int w),some (.int more),some (.int sg),some (.int m),some (.int deep),some (.int num),some (.int a),some (.int p),some (.int tp),some (lI G),some (tI r),some (lI B),some (tI R),yB,some (.int wd),uE] none)= .ok (.bl true,none):=by
 have Ms:aq fs 59 15 [.bJ ns,.int 14,.int 3] none= .ok (.int (ba ns 14 3),none):=AM ns 14 3 (by decide) (by decide);have Ox:=bt (ns:=ns) (k:=14) (many:=3) (by decide);generalize ba ns 14 3=q at Ms Ox;have M1:=A0 q;have Nj:∀z∈G,z.length<=100:=λz hz=>by have:=E.wd z hz;have:=E.m4;lia
 have LO:Rx.brk G ((5:Nat):Int) []=true:=by unfold Rx.brk;rw[Qc (show (4:Int) < ((5:Nat):Int) by decide)];simp
 have s2:aq fs 59 17 [.int 2,lI G,.int 5,tI r] none= .ok (.bl true,none):=xj (N:=59) (w:=2) (many:=5) (by decide) (by decide) (by decide) (by have:=E.ln;lia) Nj (by have:=E.ln;have:=E.rl;lia) (u6 LO) λ_=>LO
 have h0:Rx.brk [] ((5 + q:Nat):Int) []=true:=by unfold Rx.brk;rw[Qc (show (4:Int) < ((5 + q:Nat):Int) by lia)];simp
 have s3:aq fs 59 18 [.bJ ns,.lst [],.int ((5 + q:Nat):Int),.tup [],.lst [.int 0,.int 1,.int 2,.int 3]] none= .ok (.bl true,none):=px (N:=59) (M:=[]) (r:=[]) (L:=[0,1,2,3]) (by decide) (by decide) (by decide) (by decide) (by lia) (by decide) (by simp) (by decide) h0 λ_=>h0
 have s4:=D7 (N:=59) (by decide) E;have ln:=CU B;have fe:∀L:Dt,aq fs 59 18 [.bJ ns,lI B,.int wd,tI R,L] none= .ok (.bl true,none)->fin (aT (aq fs 59) IH [some (.bJ ns),some (.int w),some (.int more),some (.int sg),some (.int m),some (.int deep),some (.int num),some (.int a),some (.int p),some (.int tp),some (lI G),some (tI r),some (lI B),some (tI R),yB,some (.int wd),some L] none)= .ok (.bl true,none):=λL s1=>by refine bM (S1:=none) (by simp only[RX,s1,s2,Bool.not_true,Bool.or_false];rfl) ?_;refine bM (S1:=none) (by simp only[RX,Ms,M1,s3,Bool.not_true]) ?_;exact ay (by simp only[RX,s1,s4];try rfl)
 by_cases h:w=3/\B.length=deep
 ·have e1:=bU w 3;have e2:=bU B.length deep;rw[Qc h.1] at e1;rw[Qc h.2] at e2;have hi:cL .int [.bl true]= .ok (.int 1):=rfl;have e1:((w:Int)==3)=true:=e1;have s1:aq fs 59 18 [.bJ ns,lI B,.int wd,tI R,.lst [.int 1]] none= .ok (.bl true,none):=px (N:=59) (L:=[1]) (by decide) (by decide) (by decide) (by decide) Mg hB hl hR hb λ⟨x,hx,gg⟩=>absurd (Qh.mp hx) gg
  exact ao (d:= .lst [.int 1]) (S1:=none) (by simp only[RX,e1,ln,e2,hi];rfl) rfl (fe _ s1)
 ·have hi:cL .int [.bl false]= .ok (.int 0):=rfl;have s1:aq fs 59 18 [.bJ ns,lI B,.int wd,tI R,.lst [.int 0,.int 1,.int 2,.int 3]] none= .ok (.bl true,none):=px (N:=59) (L:=[0,1,2,3]) (by decide) (by decide) (by decide) (by decide) Mg hB hl hR hb λ_=>vT h
  refine ao (d:= .lst [.int 0,.int 1,.int 2,.int 3]) (S1:=none) ?_ rfl (fe _ s1);have e1:=bU w 3;have e2:=bU B.length deep;by_cases h3:w=3
  ·rw[Qc h3] at e1;rw[P8 λz=>h ⟨h3,z⟩] at e2;have e1:((w:Int)==3)=true:=e1;simp only[RX,e1,ln,e2,hi];rfl
  ·rw[P8 h3] at e1;have e1:((w:Int)==3)=false:=e1;simp only[RX,e1,hi];rfl
theorem yX {B:List (List Int)} (h:∃q∈B,∃x∈q,3 < x.natAbs):nO B=true:=by obtain⟨q,hq,x,hx,h3⟩:=h;exact Qk.mpr ⟨q,hq,Qk.mpr ⟨x,hx,Qc h3⟩⟩
theorem yY {R:List Int} (h:∃x∈R,20 < x.natAbs):lU R=true:=by obtain⟨x,hx,h3⟩:=h;exact Qk.mpr ⟨x,hx,Qc h3⟩
theorem xK {ns:List Int} {w m deep a p:Nat} {more sg num tp:Int} {G B:List (List Int)} {r R:List Int} {yB yC uE:Option Dt} (hw:w<=3) (hm:w=1->m=4) (hB:B.length<=1000) (hl:∀q∈B,q.length=m) (hR:R.length<=1000) (h0:w=0->17<=B.length) (h2:w=2->∃q∈B,∃x∈q,3 < x.natAbs) (h3:w=3->∃x∈R,20 < x.natAbs) (hd:B.length=deep\/17<=B.length) (E:kv m G r):
  fin (aT (aq fs 59) MB [some (.bJ ns),some (.int w),some (.int more),some (.int sg),some (.int m),some (.int deep),some (.int num),some (.int a),some (.int p),some (.int tp),some (lI G),some (tI r),some (lI B),some (tI R),yB,yC,uE] none)= .ok (.bl true,none):=by
 have cW:lim=1000000:=rfl;have J4:=E.m4;have e1:=bU w 1;refine ao (d:= .int m) (S1:=none) (by simp only[RX]) rfl ?_;by_cases h1:w=1
 ·rw[Qc h1] at e1;have e1:((w:Int)==1)=true:=e1;have Mr:aq fs 59 15 [.bJ ns,.int 13,.int 3] none= .ok (.int (ba ns 13 3),none):=AM ns 13 3 (by decide) (by decide);have Ov:=bt (ns:=ns) (k:=13) (many:=3) (by decide);generalize ba ns 13 3=q at Mr Ov;have c5:=A0 q;have hm:=hm h1;have r0:=dq (m:=1 + q) 0 (by lia);have sb:((5 + q:Nat):Int) - (m:Int)=((1 + q:Nat):Int):=by lia
  have hc:aG (aJ (.nm 1) (a8 (aq fs 59) .nil) (bb (aq fs 59) (.bin .Add (.var 1) (.bin .Mult (.tup (.cons (.con (.int 0)) .nil)) (.bin .Sub (.var 3) (.var 2))))) [none,none,some (.int m),some (.int ((5 + q:Nat):Int))]) (B.map tI) none= .ok ((B.map λz=>z++List.replicate (1 + q) 0).map tI,none):=by
   rw[List.map_map];refine aS λz hz=>?_
   have ct:=jf (a:=z.map Dt.int) (b:=(List.replicate (1 + q) (0:Int)).map Dt.int) (by rw[PL,PL,List.length_replicate,hl z hz];lia);rw[<-Qs] at ct;have ct:iK .Add (tI z) (tI (List.replicate (1 + q) 0))= .ok (tI (z++List.replicate (1 + q) 0)):=ct;exact aK (ρ1:=[none,some (tI z),some (.int m),some (.int ((5 + q:Nat):Int))]) rfl (by simp only[RX,sb,r0,ct];rfl) rfl
  have hb:Rx.brk (B.map λz=>z++List.replicate (1 + q) 0) ((5 + q:Nat):Int) []=true:=by unfold Rx.brk;rw[Qc (show (4:Int) < ((5 + q:Nat):Int) by lia)];simp
  refine cG (S1:=none) (by simp only[RX,e1]) (ao (d:= .int ((5 + q:Nat):Int)) (S1:=none) (by simp only[RX,Mr,c5]) rfl (ao (d:=lI (B.map λz=>z++List.replicate (1 + q) 0)) (S1:=none) (aR (ds:=B.map tI) (S1:=none) (jK (d:=lI B) rfl rfl) (by rw[PL];lia) rfl hc) rfl ?_));exact vv (wd:=5 + q) (by lia) (by rw[PL];exact hB) (λz hz=>by obtain⟨y,hy,rfl⟩:=Qi.mp hz;rw[PY,List.length_replicate,hl y hy];lia) hR (u6 hb) (λ_=>hb) E
 ·rw[P8 h1] at e1;have e1:((w:Int)==1)=false:=e1;refine bM (S1:=none) (by simp only[RX,e1]) ?_;have Ey:17<=B.length->Rx.brk B m []=true:=λh=>by unfold Rx.brk;rw[Qc (show 16 < B.length by lia)];simp
  have b2:w=2->Rx.brk B m []=true:=λh=>by unfold Rx.brk;rw[yX (h2 h)];simp
  have b3:w=3->Rx.brk B m R=true:=λh=>by unfold Rx.brk;rw[yY (h3 h)];simp
  have k:¬(w=3/\B.length=deep)->Rx.brk B m []=true:=λh=>by
   by_cases g2:w=2
   ·exact b2 g2
   ·by_cases g0:w=0
    ·exact Ey (h0 g0)
    ·exact Ey (hd.resolve_left λz=>h ⟨by lia,z⟩)
  refine vv (wd:=m) (by lia) hB (λz hz=>by rw[hl z hz];lia) hR ?_ k E;by_cases g3:w=3
  ·exact b3 g3
  ·exact u6 (k λz=>g3 z.1)
theorem xJ {ns:List Int} {w m deep a p:Nat} {more sg num tp:Int} {G B:List (List Int)} {r R:List Int} {yB yC uE:Option Dt} (hw:w<=3) (hm:w=1->m=4) (hB:B.length<=100) (hl:∀q∈B,q.length=m) (hR:R.length=B.length) (ha:a < B.length) (h0:w=0->17<=B.length) (h2:w=2->∃q∈B,∃x∈q,3 < x.natAbs) (h3:w=3->20 < (tp + sg * more).natAbs) (hs:sg.natAbs < 2 ^ 64) (hd:B.length=deep\/17<=B.length) (E:kv m G r):
  fin (aT (aq fs 59) MA [some (.bJ ns),some (.int w),some (.int more),some (.int sg),some (.int m),some (.int deep),some (.int num),some (.int a),some (.int p),some (.int tp),some (lI G),some (tI r),some (lI B),some (tI R),yB,yC,uE] none)= .ok (.bl true,none):=by
 have e1:=bU w 3;by_cases h:w=3
 ·rw[Qc h] at e1;have e1:((w:Int)==3)=true:=e1;have mu:=aO (i:=sg) (j:=more) (.inl hs);have ln:=Ks R;have hr:=Bq (N:=59) (deep:=R.length) (a:=a) (x:=tp + sg * more) (by decide) (by lia);refine cG (S1:=none) (by simp only[RX,e1]) (ao (d:=tI (Aw R.length a (tp + sg * more))) (S1:=none) (by simp only[RX,mu,ln,hr]) (by unfold bu;rw[bz,Bool.or_true]) ?_);refine xK hw hm (by lia) hl (by unfold Aw;rw[PL,List.length_range];lia) h0 h2 (λ_=>⟨tp + sg * more,?_,h3 h⟩) hd E;exact Qi.mpr ⟨a,Qu.mpr (by lia),if_pos rfl⟩
 ·rw[P8 h] at e1;have e1:((w:Int)==3)=false:=e1;refine bM (S1:=none) (by simp only[RX,e1]) ?_;exact xK hw hm (by lia) hl (by lia) h0 h2 (λz=>absurd z h) hd E
theorem xI {ns:List Int} {w m deep a p:Nat} {more sg num tp:Int} {G B:List (List Int)} {r R:List Int} {yB yC uE:Option Dt} (hw:w<=3) (hm:w=1->m=4) (hB:B.length<=100) (hl:∀q∈B,q.length=m) (hR:R.length=B.length) (ha:a < B.length) (hp:p < m) (h0:w=0->17<=B.length) (h2:w=2->3 < (num + sg * more).natAbs) (h3:w=3->20 < (tp + sg * more).natAbs) (hs:sg.natAbs < 2 ^ 64) (hd:B.length=deep\/17<=B.length) (E:kv m G r):
  fin (aT (aq fs 59) Mz [some (.bJ ns),some (.int w),some (.int more),some (.int sg),some (.int m),some (.int deep),some (.int num),some (.int a),some (.int p),some (.int tp),some (lI G),some (tI r),some (lI B),some (tI R),yB,yC,uE] none)= .ok (.bl true,none):=by
 have e1:=bU w 2;by_cases h:w=2
 ·rw[Qc h] at e1;have e1:((w:Int)==2)=true:=e1;have mu:=aO (i:=sg) (j:=more) (.inl hs);have ln:=CU B;have J4:=E.m4;have hr:=A5 (N:=59) (deep:=B.length) (many:=m) (a:=a) (p:=p) (x:=num + sg * more) (by decide) (by lia) (by lia) hp;have hL:(kW B.length m a p (num + sg * more)).length=B.length:=by unfold kW;rw[PL,List.length_range]
  refine cG (S1:=none) (by simp only[RX,e1]) (ao (d:=lI (kW B.length m a p (num + sg * more))) (S1:=none) (by simp only[RX,mu,ln,hr]) rfl ?_);refine xJ hw hm (by lia) (λq hq=>?_) (by lia) (by lia) (by rw[hL];exact h0) (λ_=>⟨(List.replicate m 0).set p (num + sg * more),?_,num + sg * more,?_,h2 h⟩) h3 hs (by rw[hL];exact hd) E
  ·obtain⟨k,_,rfl⟩:=Qi.mp hq;split
   ·rw[List.length_set,List.length_replicate]
   ·rw[List.length_replicate]
  ·exact Qi.mpr ⟨a,Qu.mpr (by lia),if_pos rfl⟩
  ·exact List.mem_set (by rw[List.length_replicate];exact hp) _
 ·rw[P8 h] at e1;have e1:((w:Int)==2)=false:=e1;refine bM (S1:=none) (by simp only[RX,e1]) ?_;exact xJ hw hm hB hl hR ha h0 (λz=>absurd z h) h3 hs hd E
theorem D3 {ns:List Int} {w m deep a p:Nat} {more sg num tp:Int} {G B:List (List Int)} {r R:List Int} {yB yC uE:Option Dt} (hw:w<=3) (hm:w=1->m=4) (hl:∀q∈B,q.length=m) (hB:B.length=deep) (O7:deep<=16) (hR:R.length=B.length) (ha:a < deep) (hp:p < m) (h2:w=2->3 < (num + sg * more).natAbs) (h3:w=3->20 < (tp + sg * more).natAbs) (hs:sg.natAbs < 2 ^ 64) (E:kv m G r):
  fin (aT (aq fs 59) My [some (.bJ ns),some (.int w),some (.int more),some (.int sg),some (.int m),some (.int deep),some (.int num),some (.int a),some (.int p),some (.int tp),some (lI G),some (tI r),some (lI B),some (tI R),yB,yC,uE] none)= .ok (.bl true,none):=by
 have cW:lim=1000000:=rfl;have J4:=E.m4;have e1:=bU w 0;have KI:aq fs 59 15 [.bJ ns,.int 11,.int 4] none= .ok (.int (ba ns 11 4),none):=AM ns 11 4 (by decide) (by decide);generalize ba ns 11 4=q at KI;have e2:=bU q 0;by_cases h:w=0\/q=0
 ·have Mq:aq fs 59 15 [.bJ ns,.int 12,.int 3] none= .ok (.int (ba ns 12 3),none):=AM ns 12 3 (by decide) (by decide);have Ou:=bt (ns:=ns) (k:=12) (many:=3) (by decide);generalize ba ns 12 3=z at Mq Ou;have ln:=CU B;have hk:(17:Int) - (B.length:Int) + (z:Int)=((17 + z - B.length:Nat):Int):=by lia
  generalize vZ:17 + z - B.length=k at hk;have r0:=dq (m:=m) 0 (by lia);have rk:=dq (m:=k) 0 (by lia);have ct:=jf (a:=R.map Dt.int) (b:=(List.replicate k (0:Int)).map Dt.int) (by rw[PL,PL,List.length_replicate];lia);rw[<-Qs] at ct;have ct:iK .Add (tI R) (tI (List.replicate k 0))= .ok (tI (R++List.replicate k 0)):=ct;have cl:=zZ (a:=B.map tI) (b:=(List.replicate k (List.replicate m (0:Int))).map tI) (by rw[PL,PL,List.length_replicate];lia);rw[<-Qs] at cl;have cl:iK .Add (lI B) (.lst ((List.replicate k (List.replicate m (0:Int))).map tI))= .ok (lI (B++List.replicate k (List.replicate m 0))):=cl;have hc:∀yC uE,ev (aq fs 59) (.comp [none,none,some 4] (.rng1 (.var 14)) (.nm 1) .nil (.bin .Mult (.tup (.cons (.con (.int 0)) .nil)) (.var 2))) [some (.bJ ns),some (.int w),some (.int more),some (.int sg),some (.int m),some (.int deep),some (.int num),some (.int a),some (.int p),some (.int tp),some (lI G),some (tI r),some (lI B),some (tI R),some (.int (k:Nat)),yC,uE] none= .ok (.lst ((List.replicate k (List.replicate m (0:Int))).map tI),none):=λyC uE=>by
   have hc:aG (aJ (.nm 1) (a8 (aq fs 59) .nil) (bb (aq fs 59) (.bin .Mult (.tup (.cons (.con (.int 0)) .nil)) (.var 2))) [none,none,some (.int m)]) (bg 0 k) none= .ok ((List.range k).map λ_=>tI (List.replicate m 0),none):=by rw[mT];exact aS λj _=>aK (ρ1:=[none,some (.int j),some (.int m)]) rfl (by simp only[RX,r0]) rfl
   have e:((List.range k).map λ_=>tI (List.replicate m 0))=(List.replicate k (List.replicate m (0:Int))).map tI:=by rw[List.map_const',List.length_range,List.map_replicate]
   rw[e] at hc;exact aR (ds:=bg 0 k) (S1:=none) (eU (n:=k) rfl (by lia)) (by simp[bg];lia) rfl hc
  refine cG (S1:=none) ?_ (ao (d:= .int (k:Nat)) (S1:=none) (by simp only[RX,ln,Mq,hk]) rfl (ao (d:=lI (B++List.replicate k (List.replicate m 0))) (S1:=none) (by simp only[RX,hc,cl]) rfl (ao (d:=tI (R++List.replicate k 0)) (S1:=none) (by simp only[RX,rk,ct]) (by unfold bu;rw[bz,Bool.or_true]) ?_)))
  ·by_cases g:w=0
   ·rw[Qc g] at e1;have e1:((w:Int)==0)=true:=e1;simp only[RX,e1];rfl
   ·rw[P8 g] at e1;rw[Qc (h.resolve_left g)] at e2;have e1:((w:Int)==0)=false:=e1;have e2:((q:Int)==0)=true:=e2;simp only[RX,e1,KI,e2];rfl
  ·have hL:(B++List.replicate k (List.replicate m (0:Int))).length=17 + z:=by rw[PY,List.length_replicate];lia
   refine xI hw hm (by lia) (λy hy=>?_) (by rw[hL,PY,List.length_replicate];lia) (by lia) hp (λ_=>by lia) h2 h3 hs (.inr (by lia)) E;rcases P5.mp hy with hy | hy
   ·exact hl y hy
   ·rw[List.eq_of_mem_replicate hy,List.length_replicate]
 ·rw[P8 λz=>h (.inl z)] at e1;rw[P8 λz=>h (.inr z)] at e2;have e1:((w:Int)==0)=false:=e1;have e2:((q:Int)==0)=false:=e2;refine bM (S1:=none) (by simp only[RX,e1,KI,e2];rfl) ?_;exact xI hw hm (by lia) hl hR (by lia) hp (λz=>absurd (.inl z) h) h2 h3 hs (.inl hB) E
theorem mn {m deep a p:Nat} {num tp:Int} (m1:1<=m) (m4:m<=4) (d1:1<=deep) (zd:deep<=16) (hn:num.natAbs<=3) (ht:tp.natAbs<=20):kv m (kW deep m a p num) (Aw deep a tp):=by
 have hL:(kW deep m a p num).length=deep:=by unfold kW;rw[PL,List.length_range]
 refine⟨m1,m4,λz=>?_,by lia,by rw[hL];unfold Aw;rw[PL,List.length_range],λq hq=>?_,λq hq x hx=>?_,λx hx=>?_⟩
 ·rw[z] at hL;simp at hL;lia
 ·obtain⟨k,_,rfl⟩:=Qi.mp hq;split
  ·rw[List.length_set,List.length_replicate]
  ·rw[List.length_replicate]
 ·obtain⟨k,_,rfl⟩:=Qi.mp hq;split at hx
  ·rcases List.mem_or_eq_of_mem_set hx with h | h
   ·rw[List.eq_of_mem_replicate h];decide
   ·rw[h];exact hn
  ·rw[List.eq_of_mem_replicate hx];decide
 ·obtain⟨k,_,rfl⟩:=Qi.mp hx;split
  ·exact ht
  ·decide
theorem xH {ns:List Int} {w m deep a p:Nat} {more sg num:Int} (hw:w<=3) (m1:1<=m) (m4:m<=4) (d1:1<=deep) (zd:deep<=16) (ha:a < deep) (hp:p < m) (hn:num.natAbs<=3) (hs:sg=1\/sg= -1) (yy:1<=more) (hm:w=1->m=4) (h2:w=2->num=3 * sg):
  fin (aT (aq fs 59) (.cons (.asg 9 (.idx (.lst (.cons (.bin .Mult (.var 6) (.call 15 (.cons (.var 0) (.cons (.con (.int 10)) (.cons (.con (.int 4)) .nil))) [])) (.cons (.bin .Mult (.con (.int 20)) (.var 3)) .nil))) (.bin .FloorDiv (.var 1) (.con (.int 3))))) (.cons (.asg 10 (.call 16 (.cons (.var 5) (.cons (.var 4) (.cons (.var 7) (.cons (.var 8) (.cons (.var 6) .nil))))) [])) (.cons (.asg 11 (.call 20 (.cons (.var 5) (.cons (.var 7) (.cons (.var 9) .nil))) [])) (.cons (.asg 12 (.var 10)) (.cons (.asg 13 (.var 11)) (.cons (.ifs (.or (.cmp .Eq (.var 1) (.con (.int 0))) (.cmp .Eq (.call 15 (.cons (.var 0) (.cons (.con (.int 11)) (.cons (.con (.int 4)) .nil))) []) (.con (.int 0)))) (.cons (.asg 14 (.bin .Add (.bin .Sub (.con (.int 17)) (.bi .len (.cons (.var 12) .nil))) (.call 15 (.cons (.var 0) (.cons (.con (.int 12)) (.cons (.con (.int 3)) .nil))) []))) (.cons (.asg 12 (.bin .Add (.var 12) (.comp [none,none,some 4] (.rng1 (.var 14)) (.nm 1) .nil (.bin .Mult (.tup (.cons (.con (.int 0)) .nil)) (.var 2))))) (.cons (.asg 13 (.bin .Add (.var 13) (.bin .Mult (.tup (.cons (.con (.int 0)) .nil)) (.var 14)))) .nil))) .nil) (.cons (.ifs (.cmp .Eq (.var 1) (.con (.int 2))) (.cons (.asg 12 (.call 16 (.cons (.bi .len (.cons (.var 12) .nil)) (.cons (.var 4) (.cons (.var 7) (.cons (.var 8) (.cons (.bin .Add (.var 6) (.bin .Mult (.var 3) (.var 2))) .nil))))) [])) .nil) .nil) (.cons (.ifs (.cmp .Eq (.var 1) (.con (.int 3))) (.cons (.asg 13 (.call 20 (.cons (.bi .len (.cons (.var 13) .nil)) (.cons (.var 7) (.cons (.bin .Add (.var 9) (.bin .Mult (.var 3) (.var 2))) .nil))) [])) .nil) .nil) (.cons (.asg 15 (.var 4)) (.cons (.ifs (.cmp .Eq (.var 1) (.con (.int 1))) (.cons (.asg 15 (.bin .Add (.con (.int 5)) (.call 15 (.cons (.var 0) (.cons (.con (.int 13)) (.cons (.con (.int 3)) .nil))) []))) (.cons (.asg 12 (.comp [none,none,some 4,some 15] (.seq (.var 12)) (.nm 1) .nil (.bin .Add (.var 1) (.bin .Mult (.tup (.cons (.con (.int 0)) .nil)) (.bin .Sub (.var 3) (.var 2)))))) .nil)) .nil) (.cons (.asg 16 (.idx (.lst (.cons (.lst (.cons (.con (.int 0)) (.cons (.con (.int 1)) (.cons (.con (.int 2)) (.cons (.con (.int 3)) .nil))))) (.cons (.lst (.cons (.con (.int 1)) .nil)) .nil))) (.bi .int (.cons (.and (.cmp .Eq (.var 1) (.con (.int 3))) (.cmp .Eq (.bi .len (.cons (.var 12) .nil)) (.var 5))) .nil)))) IH))))))))))) [some (.bJ ns),some (.int w),some (.int more),some (.int sg),some (.int m),some (.int deep),some (.int num),some (.int a),some (.int p),none,none,none,none,none,none,none,none] none)= .ok (.bl true,none):=by
 have Mp:aq fs 59 15 [.bJ ns,.int 10,.int 4] none= .ok (.int (ba ns 10 4),none):=AM ns 10 4 (by decide) (by decide);have Ot:=bt (ns:=ns) (k:=10) (many:=4) (by decide);generalize ba ns 10 4=q at Mp Ot;have Pn:sg.natAbs=1:=by lia
 have Oz:=aO (i:=num) (j:=q) (.inl (by lia));have OA:=aO (i:=20) (j:=sg) (.inl (by decide));have fd:=qh (i:=w) (j:=3) (by decide) (by decide);have Pi:(num * (q:Int)).natAbs<=9:=by
  rw[Int.natAbs_mul];have:(q:Int).natAbs=q:=by lia
  rw[this]
  calc num.natAbs * q<=3 * 3:=Nat.mul_le_mul hn (by lia)
   _=9:=rfl
 generalize htp:(if w=3 then 20 * sg else num * (q:Int))=tp;have Oh:tp.natAbs<=20:=by rw[<-htp];split <;> lia
 have Og:w=3->tp=20 * sg:=λh=>by rw[<-htp,if_pos h]
 have yu:ev (aq fs 59) (.idx (.lst (.cons (.bin .Mult (.var 6) (.call 15 (.cons (.var 0) (.cons (.con (.int 10)) (.cons (.con (.int 4)) .nil))) [])) (.cons (.bin .Mult (.con (.int 20)) (.var 3)) .nil))) (.bin .FloorDiv (.var 1) (.con (.int 3)))) [some (.bJ ns),some (.int w),some (.int more),some (.int sg),some (.int m),some (.int deep),some (.int num),some (.int a),some (.int p),none,none,none,none,none,none,none,none] none= .ok (.int tp,none):=by
  simp only[RX,Mp,Oz,OA,fd];by_cases h:w=3
  ·have e:(w:Int) / 3=1:=by lia
   rw[e,<-htp,if_pos h];rfl
  ·have e:(w:Int) / 3=0:=by lia
   rw[e,<-htp,if_neg h];rfl
 have g1:=A5 (N:=59) (deep:=deep) (many:=m) (a:=a) (p:=p) (x:=num) (by decide) (by lia) (by lia) hp;have g2:=Bq (N:=59) (deep:=deep) (a:=a) (x:=tp) (by decide) (by lia);have E:=mn (a:=a) (p:=p) (num:=num) (tp:=tp) m1 m4 d1 zd hn Oh;have hL:(kW deep m a p num).length=deep:=by unfold kW;rw[PL,List.length_range]
 refine ao (d:= .int tp) (S1:=none) yu rfl (ao (d:=lI (kW deep m a p num)) (S1:=none) (by simp only[RX,g1]) rfl (ao (d:=tI (Aw deep a tp)) (S1:=none) (by simp only[RX,g2]) (by unfold bu;rw[bz,Bool.or_true]) (ao (d:=lI (kW deep m a p num)) (S1:=none) (by simp only[RX]) ?_ (ao (d:=tI (Aw deep a tp)) (S1:=none) (by simp only[RX]) (by unfold bu;rw[bz,Bool.or_true]) ?_))))
 ·rfl
 ·refine D3 hw hm E.wd hL zd E.rl ha hp (λh=>?_) (λh=>?_) (by lia) E
  ·rw[h2 h];rcases hs with rfl | rfl <;> lia
  ·rw[Og h];rcases hs with rfl | rfl <;> lia
theorem xM {ns:List Int} {w m deep:Nat} {more sg num:Int} (hw:w<=3) (m1:1<=m) (m4:m<=4) (d1:1<=deep) (zd:deep<=16) (hn:num.natAbs<=3) (hs:sg=1\/sg= -1) (yy:1<=more) (hm:w=1->m=4):
  fin (aT (aq fs 59) (.cons (.asg 7 (.call 15 (.cons (.var 0) (.cons (.con (.int 8)) (.cons (.var 5) .nil))) [])) (.cons (.asg 8 (.call 15 (.cons (.var 0) (.cons (.con (.int 9)) (.cons (.var 4) .nil))) [])) (.cons (.ifs (.cmp .Eq (.var 1) (.con (.int 2))) (.cons (.asg 6 (.bin .Mult (.con (.int 3)) (.var 3))) .nil) .nil) (.cons (.asg 9 (.idx (.lst (.cons (.bin .Mult (.var 6) (.call 15 (.cons (.var 0) (.cons (.con (.int 10)) (.cons (.con (.int 4)) .nil))) [])) (.cons (.bin .Mult (.con (.int 20)) (.var 3)) .nil))) (.bin .FloorDiv (.var 1) (.con (.int 3))))) (.cons (.asg 10 (.call 16 (.cons (.var 5) (.cons (.var 4) (.cons (.var 7) (.cons (.var 8) (.cons (.var 6) .nil))))) [])) (.cons (.asg 11 (.call 20 (.cons (.var 5) (.cons (.var 7) (.cons (.var 9) .nil))) [])) (.cons (.asg 12 (.var 10)) (.cons (.asg 13 (.var 11)) (.cons (.ifs (.or (.cmp .Eq (.var 1) (.con (.int 0))) (.cmp .Eq (.call 15 (.cons (.var 0) (.cons (.con (.int 11)) (.cons (.con (.int 4)) .nil))) []) (.con (.int 0)))) (.cons (.asg 14 (.bin .Add (.bin .Sub (.con (.int 17)) (.bi .len (.cons (.var 12) .nil))) (.call 15 (.cons (.var 0) (.cons (.con (.int 12)) (.cons (.con (.int 3)) .nil))) []))) (.cons (.asg 12 (.bin .Add (.var 12) (.comp [none,none,some 4] (.rng1 (.var 14)) (.nm 1) .nil (.bin .Mult (.tup (.cons (.con (.int 0)) .nil)) (.var 2))))) (.cons (.asg 13 (.bin .Add (.var 13) (.bin .Mult (.tup (.cons (.con (.int 0)) .nil)) (.var 14)))) .nil))) .nil) (.cons (.ifs (.cmp .Eq (.var 1) (.con (.int 2))) (.cons (.asg 12 (.call 16 (.cons (.bi .len (.cons (.var 12) .nil)) (.cons (.var 4) (.cons (.var 7) (.cons (.var 8) (.cons (.bin .Add (.var 6) (.bin .Mult (.var 3) (.var 2))) .nil))))) [])) .nil) .nil) (.cons (.ifs (.cmp .Eq (.var 1) (.con (.int 3))) (.cons (.asg 13 (.call 20 (.cons (.bi .len (.cons (.var 13) .nil)) (.cons (.var 7) (.cons (.bin .Add (.var 9) (.bin .Mult (.var 3) (.var 2))) .nil))) [])) .nil) .nil) (.cons (.asg 15 (.var 4)) (.cons (.ifs (.cmp .Eq (.var 1) (.con (.int 1))) (.cons (.asg 15 (.bin .Add (.con (.int 5)) (.call 15 (.cons (.var 0) (.cons (.con (.int 13)) (.cons (.con (.int 3)) .nil))) []))) (.cons (.asg 12 (.comp [none,none,some 4,some 15] (.seq (.var 12)) (.nm 1) .nil (.bin .Add (.var 1) (.bin .Mult (.tup (.cons (.con (.int 0)) .nil)) (.bin .Sub (.var 3) (.var 2)))))) .nil)) .nil) (.cons (.asg 16 (.idx (.lst (.cons (.lst (.cons (.con (.int 0)) (.cons (.con (.int 1)) (.cons (.con (.int 2)) (.cons (.con (.int 3)) .nil))))) (.cons (.lst (.cons (.con (.int 1)) .nil)) .nil))) (.bi .int (.cons (.and (.cmp .Eq (.var 1) (.con (.int 3))) (.cmp .Eq (.bi .len (.cons (.var 12) .nil)) (.var 5))) .nil)))) IH)))))))))))))) [some (.bJ ns),some (.int w),some (.int more),some (.int sg),some (.int m),some (.int deep),some (.int num),none,none,none,none,none,none,none,none,none,none] none)= .ok (.bl true,none):=by
 have p8:=AM ns 8 deep (by decide) (by lia);have l8:=bt (ns:=ns) (k:=8) (many:=deep) (by lia);have p9:=AM ns 9 m (by decide) (by lia);have l9:=bt (ns:=ns) (k:=9) (many:=m) (by lia);generalize ba ns 8 deep=a at p8 l8;generalize ba ns 9 m=p at p9 l9;have p8:aq fs 59 15 [.bJ ns,.int 8,.int deep] none= .ok (.int a,none):=p8;have p9:aq fs 59 15 [.bJ ns,.int 9,.int m] none= .ok (.int p,none):=p9;refine ao (d:= .int a) (S1:=none) (by simp only[RX,p8]) rfl (ao (d:= .int p) (S1:=none) (by simp only[RX,p9]) rfl ?_);have e1:=bU w 2;by_cases h:w=2
 ·rw[Qc h] at e1;have e1:((w:Int)==2)=true:=e1;have mu:=aO (i:=3) (j:=sg) (.inl (by decide));refine cG (S1:=none) (by simp only[RX,e1]) (ao (d:= .int (3 * sg)) (S1:=none) (by simp only[RX,mu]) rfl ?_);exact xH hw m1 m4 d1 zd l8 l9 (by lia) hs yy hm λ_=>rfl
 ·rw[P8 h] at e1;have e1:((w:Int)==2)=false:=e1;refine bM (S1:=none) (by simp only[RX,e1]) ?_;exact xH hw m1 m4 d1 zd l8 l9 hn hs yy hm λz=>absurd z h
theorem Ho {ns:List Int} {w m deep:Nat} {more sg num:Int} (hw:w<=3) (m1:1<=m) (m4:m<=4) (d1:1<=deep) (zd:deep<=16) (hn:num.natAbs<=3) (hs:sg=1\/sg= -1) (yy:1<=more):
  fin (aT (aq fs 59) t6 [some (.bJ ns),some (.int w),some (.int more),some (.int sg),some (.int m),some (.int deep),some (.int num),none,none,none,none,none,none,none,none,none,none] none)= .ok (.bl true,none):=by
 have e0:=bU w 0;have e1:=bU w 1;by_cases h:w=0
 ·subst h;refine cG (S1:=none) rfl (ao (d:= .int 16) (S1:=none) rfl rfl (bM (S1:=none) rfl ?_));exact xM (deep:=16) hw m1 m4 (by decide) (by decide) hn hs yy nofun
 ·rw[P8 h] at e0;have e0:((w:Int)==0)=false:=e0;refine bM (S1:=none) (by simp only[RX,e0]) ?_;by_cases g:w=1
  ·subst g;refine cG (S1:=none) rfl (ao (d:= .int 4) (S1:=none) rfl rfl ?_);exact xM (m:=4) hw (by decide) (by decide) d1 zd hn hs yy λ_=>rfl
  ·rw[P8 g] at e1;have e1:((w:Int)==1)=false:=e1;refine bM (S1:=none) (by simp only[RX,e1]) ?_;exact xM hw m1 m4 d1 zd hn hs yy λz=>absurd z g
theorem law_true:∀ns:List Int,ns.length<=63->∃S,aq fs 60 21 [.bJ ns] none= .ok (.bl true,S):=λns _=>by
 refine⟨none,aA (body:=Jl) rfl (by decide) rfl ?_⟩;show fin (aT (aq fs 59) Jl [some (.bJ ns),none,none,none,none,none,none,none,none,none,none,none,none,none,none,none,none] none)=_;have P:=AM ns;have p0:aq fs 59 15 [.bJ ns,.int 0,.int 4] none= .ok (.int (ba ns 0 4),none):=P 0 4 (by decide) (by decide);have l0:=bt (ns:=ns) (k:=0) (many:=4) (by decide);have p2:aq fs 59 15 [.bJ ns,.int 2,.int 2] none= .ok (.int (ba ns 2 2),none):=P 2 2 (by decide) (by decide);have l2:=bt (ns:=ns) (k:=2) (many:=2) (by decide);have p3:aq fs 59 15 [.bJ ns,.int 3,.int 2] none= .ok (.int (ba ns 3 2),none):=P 3 2 (by decide) (by decide);have l3:=bt (ns:=ns) (k:=3) (many:=2) (by decide);have p4:aq fs 59 15 [.bJ ns,.int 4,.int 4] none= .ok (.int (ba ns 4 4),none):=P 4 4 (by decide) (by decide);have l4:=bt (ns:=ns) (k:=4) (many:=4) (by decide);have p5:aq fs 59 15 [.bJ ns,.int 5,.int 3] none= .ok (.int (ba ns 5 3),none):=P 5 3 (by decide) (by decide);have l5:=bt (ns:=ns) (k:=5) (many:=3) (by decide);have p6:aq fs 59 15 [.bJ ns,.int 6,.int 7] none= .ok (.int (ba ns 6 7),none):=P 6 7 (by decide) (by decide);have l6:=bt (ns:=ns) (k:=6) (many:=7) (by decide);have hc:aq fs 59 14 [.bJ ns,.int 1] none= .ok (.int (fE ns 1),none):=qN (fs:=fs) (ic:=14) rfl (n:=59) (by decide) (ns:=ns) (k:=1) (by decide);generalize ba ns 0 4=w at p0 l0;generalize ba ns 2 2=q2 at p2 l2;generalize ba ns 3 2=q3 at p3 l3;generalize ba ns 4 4=q4 at p4 l4;generalize ba ns 5 3=q5 at p5 l5;generalize ba ns 6 7=q6 at p6 l6;generalize fE ns 1=c at hc;have pw:iK .Pow (.int 10) (.int 18)= .ok (.int 1000000000000000000):=rfl;have md:=cX (i:=c) (j:=1000000000000000000) (by decide);have mu:=aO (i:=2) (j:=q3) (.inl (by decide));have c1:∀q:Nat,(1:Int) + (q:Int)=((1 + q:Nat):Int):=λq=>by lia
 have e4:=c1 q4;have e5:=c1 q5;have yy:1<=(if q2=0 then 1 else 1 + c % 1000000000000000000):=by split <;> lia
 have yu:ev (aq fs 59) (.idx (.lst (.cons (.con (.int 1)) (.cons (.bin .Add (.con (.int 1)) (.bin .Mod (.call 14 (.cons (.var 0) (.cons (.con (.int 1)) .nil)) []) (.bin .Pow (.con (.int 10)) (.con (.int 18))))) .nil))) (.call 15 (.cons (.var 0) (.cons (.con (.int 2)) (.cons (.con (.int 2)) .nil))) [])) [some (.bJ ns),some (.int w),none,none,none,none,none,none,none,none,none,none,none,none,none,none,none] none= .ok (.int (if q2=0 then 1 else 1 + c % 1000000000000000000),none):=by
  simp only[RX,hc,pw,md,p2];by_cases h:q2=0
  ·subst h;rfl
  ·have:q2=1:=by lia
   subst this;rfl
 generalize (if q2=0 then 1 else 1 + c % 1000000000000000000)=more at yy yu;refine ao (d:= .int w) (S1:=none) (by simp only[RX,p0]) rfl (ao (d:= .int more) (S1:=none) yu rfl (ao (d:= .int (1 - 2 * q3)) (S1:=none) (by simp only[RX,p3,mu]) rfl (ao (d:= .int ((1 + q4:Nat):Int)) (S1:=none) (by simp only[RX,p4,e4]) rfl (ao (d:= .int ((1 + q5:Nat):Int)) (S1:=none) (by simp only[RX,p5,e5]) rfl (ao (d:= .int ((q6:Int) - 3)) (S1:=none) (by simp only[RX,p6]) rfl ?_)))));exact Ho (m:=1 + q4) (deep:=1 + q5) (by lia) (by lia) (by lia) (by lia) (by lia) (by lia) (by lia) yy
end K26
end
section
namespace Rx
open PySem PySem.W PySem.Spec PyProof.Rows L2
theorem bindsN {K:Frag} {fd:FuncData} {ps:List Str} {T:Addr} {o:Obj} {k:Nat} (hk:ps.length=k + 1) (hd:fd.defaults= .ref T) (hT:K.lookup T=some o)
  (h1:∀us:List Value,us.length=k->∀s:Shared,s.heap.get? T=some o->BindsTo s fd ⟨us,[]⟩ (ps.zip (us++[.none]))) (h2:∀us:List Value,us.length=k + 1->∀s:Shared,s.heap.get? T=some o->BindsTo s fd ⟨us,[]⟩ (ps.zip (us++[]))):
  ∀j,j<=([.aP]:List Dt).length->∃ds,au ((([.aP]:List Dt).drop j).map mV) ds/\Binds K fd ps ds:=
 BV (v:= .none) rfl (λs us CS hl=>h1 us (by rw[PY,hk] at hl;simpa using hl) s (CS _ _ hT)) λs us CS hl=>h2 us (by rw[Qn,hk] at hl;exact hl) s (CS _ _ hT)
end Rx
end
section
namespace PySem.W.Fast
theorem tw13184423715261775841:True:=⟨⟩
theorem tw4582788918323739964:True:=⟨⟩
theorem tw2770921539690581660:True:=⟨⟩
theorem tw1537713362650651182:True:=⟨⟩
theorem tw8853616592462224307:True:=⟨⟩
theorem tw17964410456125987302:True:=⟨⟩
theorem tw14393890426576157089:True:=⟨⟩
theorem tw15538468838890096854:True:=⟨⟩
theorem tw10655759309717061012:True:=⟨⟩
theorem tw14797441199678434265:True:=⟨⟩
theorem tw11495310947012452031:True:=⟨⟩
theorem tw2167654205664817946:True:=⟨⟩
theorem tw17225630808068671981:True:=⟨⟩
theorem tw6592911532606928078:True:=⟨⟩
theorem tw6798459764827270232:True:=⟨⟩
theorem tw912797221849195575:True:=⟨⟩
theorem tw14866671107859769694:True:=⟨⟩
theorem tw12122732190526152249:True:=⟨⟩
theorem tw4840474430832138538:True:=⟨⟩
theorem tw8922247461927157181:True:=⟨⟩
theorem tw9161517631776978432:True:=⟨⟩
theorem tw11752669088660769186:True:=⟨⟩
theorem tw15712232912289085276:True:=⟨⟩
theorem tw9002326295162092465:True:=⟨⟩
theorem tw17624351060627081833:True:=⟨⟩
theorem tw14805934005352223675:True:=⟨⟩
theorem tw16010140705345269417:True:=⟨⟩
theorem tw8773387909361088804:True:=⟨⟩
theorem tw8848535695678398125:True:=⟨⟩
theorem tw16571862176282533129:True:=⟨⟩
theorem tw349228332675626459:True:=⟨⟩
theorem tw3466368154485359346:True:=⟨⟩
theorem tw11124485057262897553:True:=⟨⟩
theorem tw16516542311298324286:True:=⟨⟩
theorem tw3875439588202038828:True:=⟨⟩
theorem tw5924505375853859353:True:=⟨⟩
theorem tw1993330804123525758:True:=⟨⟩
theorem tw10268435475172054567:True:=⟨⟩
theorem tw965999630963230081:True:=⟨⟩
theorem tw10071438371935695016:True:=⟨⟩
theorem tw11438111172477266281:True:=⟨⟩
theorem tw16088243630630279843:True:=⟨⟩
theorem tw6230566105499397541:True:=⟨⟩
theorem tw6612805011538230903:True:=⟨⟩
theorem tw7864554180694034601:True:=⟨⟩
theorem tw3513419406815796803:True:=⟨⟩
theorem tw11685200043675200539:True:=⟨⟩
theorem tw11683622075061992951:True:=⟨⟩
theorem tw17815862639778502273:True:=⟨⟩
theorem tw89231096718903155:True:=⟨⟩
theorem tw11342046332061595448:True:=⟨⟩
theorem tw7189654713356298051:True:=⟨⟩
theorem tw6880688552237475108:True:=⟨⟩
theorem tw13256886727870827794:True:=⟨⟩
theorem tw1723327887690281149:True:=⟨⟩
theorem tw1325439106231081746:True:=⟨⟩
theorem tw17810314365104889948:True:=⟨⟩
theorem tw14218338026581206674:True:=⟨⟩
theorem tw863654518860022717:True:=⟨⟩
theorem tw14053532628882920651:True:=⟨⟩
theorem tw3916861724865016179:True:=⟨⟩
theorem tw17470730913424943160:True:=⟨⟩
theorem tw10054476880954575946:True:=⟨⟩
theorem tw2243069474733087030:True:=⟨⟩
theorem tw18053794007378215989:True:=⟨⟩
theorem tw17414150973865967716:True:=⟨⟩
theorem tw7245717585168023545:True:=⟨⟩
theorem tw1816606681457261325:True:=⟨⟩
theorem tw6721655129422577030:True:=⟨⟩
theorem tw1578919697475361649:True:=⟨⟩
theorem tw12382968079209190621:True:=⟨⟩
theorem tw8312526494823826687:True:=⟨⟩
theorem tw12446913120430195134:True:=⟨⟩
theorem tw13114914197885031348:True:=⟨⟩
theorem tw8240548414154432869:True:=⟨⟩
theorem tw18022425371596385106:True:=⟨⟩
theorem tw12152773946705790994:True:=⟨⟩
theorem tw11295558871706923173:True:=⟨⟩
theorem tw1840522353211365335:True:=⟨⟩
theorem tw5423462803262736848:True:=⟨⟩
end PySem.W.Fast
open PySem PySem.W PyProof.Rows Rx
set_option maxHeartbeats 0 in
theorem PySem.Challenge.cw_mixform_k26_too_many_holds : PySem.Challenge.rw_mixform_k26_too_many.Holds := by
 w_on;o_law;k_head;(case hw=>w_witness2)
 k_fill
 refine walkR (k:=60) (l:=PySem.Challenge.rw_mixform_k26_too_many) rfl rfl ⟨rfl,by decide,by decide⟩ (λw h Y=>kIn_of Y) ?F
 case F=>
  intro w mg fa h KX G hmg;refine law_mk (rs:=K26.rows) (cons:=K26.cons) (bls:=K26.bls) (xs:=K26.xs) (L:=21) (n:=59) KX G hmg rfl K26.hok K26.hfs (λs v _ _ _ _ _ _=> .of_eq rfl) K26.law_true ?B ?C ?D ?E
  case B=>exact⟨by k_is,by k_is,by k_is,by k_is,by k_is,by k_is,by k_is,by k_is,by k_is,by k_is,by k_is,by k_is,by k_is,by k_is,by k_is,trivial⟩
  case C=>exact⟨⟨_,by k_is,rfl,by first | rfl | exact⟨_,rfl⟩⟩,⟨_,by k_is,rfl,by first | rfl | exact⟨_,rfl⟩⟩,⟨_,by k_is,rfl,by first | rfl | exact⟨_,rfl⟩⟩,⟨_,by k_is,rfl,by first | rfl | exact⟨_,rfl⟩⟩,trivial⟩
  case D=>
   refine⟨?_,?_,?_,?_,?_,?_,?_,?_,?_,?_,?_,?_,?_,?_,?_,?_,?_,?_,?_,?_,?_,?_,trivial⟩
   rotate_left 1
   ·refine⟨_,_,.ref _,_,_,_,_,_,_,_,_,by k_is,by k_is,by k_is,by k_is,nofun,bindsN (k:=2) rfl (by rfl) (by k_is) ?_ ?_⟩
    ·exact lenS λ_=>lenS λ_=>len0 λs h=>BindsTo.of_defaults rfl h rfl rfl rfl
    ·exact lenS λ_=>lenS λ_=>lenS λ_=>len0 λs h=>BindsTo.of_defaults rfl h rfl rfl rfl
   rotate_right 1
   all_goals exact⟨_,_,_,_,_,_,_,_,_,_,_,by k_is,by k_is,by k_is,by k_is,λ_=>rfl,binds0 (by repeat first | exact len0 rfl | refine lenS λ_=>?_)⟩
  case E=>exact⟨⟨_,by k_is,by k_exc,⟨by k_is,by k_is,by k_is,by k_is,by k_is,by k_is,by k_is⟩,⟨⟨_,.inl ⟨by k_is,_,rfl⟩,by kit_is,λ_=>by kts_exm⟩,⟨_,.inl ⟨by k_is,_,rfl⟩,by kit_is,nofun⟩,⟨_,.inl ⟨by k_is,_,rfl⟩,by kit_is,nofun⟩,⟨_,.inl ⟨by k_is,_,rfl⟩,by kit_is,nofun⟩,⟨_,.inl ⟨by k_is,_,rfl⟩,by kit_is,λ_=>by kts_exm⟩,⟨_,.inr ⟨by k_is,rfl,rfl⟩,by kit_is,λ_=>by kts_exm⟩,trivial⟩⟩,⟨_,by k_is,by k_exc,⟨by k_is,by k_is,by k_is,by k_is,by k_is,by k_is,by k_is⟩,⟨⟨_,.inl ⟨by k_is,_,rfl⟩,by kit_is,λ_=>by kts_exm⟩,⟨_,.inl ⟨by k_is,_,rfl⟩,by kit_is,λ_=>by kts_exm⟩,⟨_,.inl ⟨by k_is,_,rfl⟩,by kit_is,nofun⟩,⟨_,.inl ⟨by k_is,_,rfl⟩,by kit_is,nofun⟩,⟨_,.inl ⟨by k_is,_,rfl⟩,by kit_is,nofun⟩,⟨_,.inr ⟨by k_is,rfl,rfl⟩,by kit_is,λ_=>by kts_exm⟩,trivial⟩⟩,trivial⟩
#print axioms PySem.Challenge.cw_mixform_k26_too_many_holds
end