import PyProof.Rows.All
import Wide.All
import OpenK.AllK
import Wide.FinOn
import Lean
import PyProof.EqAt
import PyProof.EqKinds
import PyProof.TupleCall
import PyProof.NeKinds
import PyProof.ExcBaseAll.ValueError
import KE.KTryMore
import PyProof.Rows.CallKwBuiltin
import PySem.Challenge.RW_mixform_k03_measures
set_option Elab.async false
set_option linter.all false
set_option maxRecDepth 100000
set_option maxHeartbeats 4000000
set_option bootstrap.genMatcherCode false
section
open PySem PySem.W PySem.Spec PyProof.Rows
def O3:=@wpAny_bind
def O4:=@Option.bind_eq_some_iff
def O5:=@Heap.get?_push_of_some
def O6:=@wpAny_pure
def O7:=@Bool.and_eq_true
def O8:=@List.size_toArray
def O9:=@of_decide_eq_true
def Pa:=@List.getElem?_eq_some_iff
def Pb:=@List.mem_cons_of_mem
def Pc:=@kasC_bind
def Pd:=@Nat.le_refl
def Pe:=@List.mem_cons_self
def Pf:=@Heap.get?_push_size
def Pg:=@kasC_pure
def Ph:=@List.length_map
def Pi:=@Heap.lt_size
def Pj:=@Nat.le_trans
def Pk:=@List.mem_cons
def Pl:=@List.not_mem_nil
def Pm:=@List.append_assoc
def Pn:=@Option.map_eq_some_iff
def Po:=@List.length_append
def Pp:=@List.getElem?_set_ne
def Pq:=@List.length_cons
def Pr:=@List.getElem?_map
def Pt:=@Array.length_toList
def Pu:=@Nat.lt_of_lt_of_le
def Pv:=@List.mem_append
def Pw:=@eq_of_beq
def Px:=@List.getElem?_eq_getElem
def Py:=@decide_eq_false
def Pz:=@List.lookup_cons
def PC:=@KeyOrd.kle_trans
def PD:=@Heap.get?_update_other
def PF:=@decide_eq_true
def PH:=@Heap.size_push
def PJ:=@Nat.ne_of_lt
def PL:=@List.mem_append_right
def PM:=@wpAny_setField_rec
def PN:=@List.mem_singleton
def PP:=@List.mem_map
def PQ:=@List.all_eq_true
def PU:=@Int.emod_nonneg
def PV:=@Int.emod_lt_of_pos
def PX:=@List.append_nil
def PY:=@Bool.or_eq_true
def PZ:=@List.getElem?_append_left
def P0:=@List.getElem?_append_right
def P1:=@List.map_cons
def P3:=@List.map_append
def P4:=@List.getElem?_set_self
def P5:=@List.mem_range
end
section
namespace L2
open PySem PySem.Spec PyProof.Rows
noncomputable abbrev Key:=Sum Int Str
noncomputable def BE:Key->Value->Bool
 | .inl k,v=>Value.isInt k v
 | .inr x,v=>Value.isStrOf x v
noncomputable def KB (w:World):Key->Int
 | .inl k=>hashInt k
 | .inr x=>hashStr w x
theorem bf:∀{k:Key} {v:Value},BE k v=true->(∃i t,k=Sum.inl i/\v=Value.int i t)\/(∃x t,k=Sum.inr x/\v=Value.str x t)
 | .inl i,v,h=>by obtain⟨t,e⟩:=Value.isInt_shape (k:=i) (v:=v) h;exact .inl ⟨i,t,rfl,e⟩
 | .inr x,v,h=>by obtain⟨t,e⟩:=Value.isStrOf_shape (x:=x) (v:=v) h;exact .inr ⟨x,t,rfl,e⟩
theorem C4 (a b:Int):decide ((Sum.inl a:Key)=Sum.inl b)=(a==b):=by
 by_cases e:a=b
 ·subst e;simp
 ·have h:¬(Sum.inl a:Key)=Sum.inl b:=λq=>e (Sum.inl.inj q)
  rw[Py h];exact(beq_eq_false_iff_ne.mpr e).symm
theorem C7 (a b:Str):decide ((Sum.inr a:Key)=Sum.inr b)=decide (a=b):=by
 by_cases e:a=b
 ·subst e;simp
 ·have h:¬(Sum.inr a:Key)=Sum.inr b:=λq=>e (Sum.inr.inj q)
  rw[Py h,Py e]
theorem C5 (a:Int) (b:Str):decide ((Sum.inl a:Key)=Sum.inr b)=false:=Py (λq=>nomatch q)
theorem C6 (a:Str) (b:Int):decide ((Sum.inr a:Key)=Sum.inl b)=false:=Py (λq=>nomatch q)
noncomputable def nh (prog:Program) (w:World):PySem.KeyKind prog w Key where
 is:=BE
 hash:=KB w
 inj:=λv a b ha hb=>by
  rcases bf ha with ⟨i,t,rfl,rfl⟩ | ⟨x,t,rfl,rfl⟩
  ·rcases bf hb with ⟨j,u,rfl,e⟩ | ⟨y,u,rfl,e⟩
   ·injection e with e1 _;rw[e1]
   ·exact nomatch e
  ·rcases bf hb with ⟨j,u,rfl,e⟩ | ⟨y,u,rfl,e⟩
   ·exact nomatch e
   ·injection e with e1 _;rw[e1]
 byValue:=λk v h=>by rcases bf h with ⟨i,t,rfl,rfl⟩ | ⟨x,t,rfl,rfl⟩ <;> rfl
 pyHash:=λhv h=>by
  rcases bf hv with ⟨i,t,rfl,rfl⟩ | ⟨x,t,rfl,rfl⟩
  ·exact wpAny_pyHash_int h
  ·exact wpAny_pyHash_str h
 eqBool:=λhu hv h=>by
  rcases bf hu with ⟨i,t,rfl,rfl⟩ | ⟨x,t,rfl,rfl⟩
  ·rcases bf hv with ⟨j,u,rfl,rfl⟩ | ⟨y,u,rfl,rfl⟩
   ·rw[C4] at h;exact wpAny_eqBool_int h
   ·rw[C5] at h;exact SeqAt.EqAt.int_str i t y u _ _ _ _ h
  ·rcases bf hv with ⟨j,u,rfl,rfl⟩ | ⟨y,u,rfl,rfl⟩
   ·rw[C6] at h;exact SeqAt.EqAt.str_int x t j u _ _ _ _ h
   ·rw[C7] at h;exact wpAny_eqBool_str h
 «strs»:=λk x t v h=>by
  rcases bf h with ⟨i,u,rfl,e⟩ | ⟨y,u,rfl,e⟩
  ·exact nomatch e
  ·injection e with e1 _;subst e1;cases v <;> rfl
end L2
namespace L2
open PySem PySem.Spec PyProof.Rows
inductive V where
 | bg | bl (b:Bool) | int (i:Int) | str (x:Str) | Cg (b:Array UInt8) | y8 (b:UInt64) | ref (a:Addr) | ty (n:String)
 deriving DecidableEq
noncomputable def RelV:V->Value->Prop
 | .bg,u=>u=Value.none
 | .bl b,u=>u=Value.bool b
 | .int i,u=>∃t,u=Value.int i t
 | .str x,u=>∃t,u=Value.str x t
 | .Cg b,u=>∃t,u=Value.bytes b t
 | .y8 b,u=>∃t,u=Value.float b t
 | .ref a,u=>u=Value.ref a
 | .ty n,u=>u=Value.type n
noncomputable abbrev ar:List V->List Value->Prop:=Paired RelV
theorem ar.length {xs:List V} {us:List Value} (r:ar xs us):xs.length=us.length:=Paired.length r
theorem ar.get:∀{xs:List V} {us:List Value} {i:Nat} {x:V},ar xs us->xs[i]?=some x->∃u,us[i]?=some u/\RelV x u
 | _,_,_,_,.nil,e=>by simp at e
 | _,_,0,_,.cons r _,e=>by simp at e;subst e;exact⟨_,rfl,r⟩
 | _,_,i + 1,x,.cons _ t,e=>by obtain⟨u,h1,h2⟩:=ar.get (i:=i) (x:=x) t (by simpa using e);exact⟨u,by simpa using h1,h2⟩
theorem ar.set {x:V} {u:Value} (r:RelV x u):∀{xs:List V} {us:List Value} (i:Nat),ar xs us->ar (xs.set i x) (us.set i u)
 | _,_,_,.nil=> .nil
 | _,_,0,.cons _ t=> .cons r t
 | _,_,i + 1,.cons q t=> .cons q (ar.set r i t)
theorem ar.append:∀{xs ys:List V} {us ws:List Value},ar xs us->ar ys ws->ar (xs++ys) (us++ws)
 | _,_,_,_,.nil,s=>s
 | _,_,_,_,.cons r t,s=> .cons r (ar.append t s)
theorem ar.take:∀{xs:List V} {us:List Value} (n:Nat),ar xs us->ar (xs.take n) (us.take n)
 | _,_,0,_=> .nil
 | _,_,_ + 1,.nil=> .nil
 | _,_,n + 1,.cons r t=> .cons r (ar.take n t)
theorem ar.drop:∀{xs:List V} {us:List Value} (n:Nat),ar xs us->ar (xs.drop n) (us.drop n)
 | _,_,0,r=>r
 | _,_,_ + 1,.nil=> .nil
 | _,_,n + 1,.cons _ t=>ar.drop n t
noncomputable def B4:Option V->Option Value->Prop
 | some v,some u=>RelV v u
 | none,none=>True
 | _,_=>False
noncomputable def KV {κ:Type}:List (κ×V)->List (κ×Value)->Prop:=Paired λ(p:κ×V) (q:κ×Value)=>p.1=q.1/\RelV p.2 q.2
noncomputable def kV:Key->V
 | .inl i=> .int i
 | .inr x=> .str x
inductive HO where
 | lst (xs:List V)
 | tup (xs:List V)
 | dK (eC:List (Key×V)) | dT (eC:List (List Key×V))
 | set (S:Int->Bool) (n:Nat)
 | ins (C dx:Addr) (fs:List (Str×V))
 | own (x:Addr)
 | xd (fs:List (Str×V))
 | met (f x:Addr)
 | Ld (lo hi:Int)
 | sI (o:Obj) (u:HO)
 | zi (ps:Array Value)
 | ext (φ:Heap->Prop)
noncomputable abbrev Hp:=Addr->Option HO
noncomputable def upd (H:Hp) (a:Addr) (o:HO):Hp:=λb=>if b=a then some o else H b
theorem aI {H:Hp} {a:Addr} {o:HO}:upd H a o a=some o:=by unfold upd;rw[if_pos rfl]
theorem ax {H:Hp} {a b:Addr} {o:HO} (h:b≠a):upd H a o b=H b:=by unfold upd;rw[if_neg h]
theorem aE {H:Hp} {a b:Addr} {o:HO} (h:H a=some o) (h':H b=none):a≠b:=by intro e;subst e;rw[h] at h';cases h'
section
variable (P:Program) (w:World)
noncomputable def bF (H:Hp) (h:Heap) (a:Addr):HO->Prop
 | .lst xs=>xs.length<=sizeLine/\∃(its:List Value) (n:Nat),ar xs its/\h.get? a=some {cls:= .type "list",data:= .seq its.toArray n}
 | .tup xs=>xs.length<=sizeLine/\∃its:List Value,ar xs its/\IsTup h a its.toArray
 | .dK eC=>eC.length<=sizeLine/\(a==sysModules)=false/\∃vs,KV eC vs/\h.DictOf (nh P w) a vs
 | .dT eC=>eC.length<=sizeLine/\(a==sysModules)=false/\∃xs:List (List Key×Addr×Value),
   Paired (λ(p:List Key×V) (q:List Key×Addr×Value)=>p.1=q.1/\H q.2.1=some (.tup (p.1.map kV))/\RelV p.2 q.2.2) eC xs/\
   ∃o es ep,h.get? a=some o/\o.ExactDict/\o.data= .dict es ep/\es.toList=xs.map (entryOfKey (tupleKind (nh P w)))/\(xs.map (·.1)).Nodup
 | .set S n=>h.SetOf (intKind P w) a S n
 | .ins C dx fs=>H dx=some (.own a)/\fs.length<=1000/\dx≠a/\h.get? a=some (PySem.W.instObj C dx)/\
   ∃mA,h.Ns1 dx mA/\(∀f,B4 (fs.lookup f) (mA f))/\PySem.Within mA (fs.map (·.1))
 | .own _=>∃o,h.get? a=some o
 | .xd fs=>∃mA,h.Ns1 a mA/\∀f,B4 (fs.lookup f) (mA f)
 | .Ld lo hi=>∃t u v,h.get? a=some {cls:= .type "range",data:= .fields #[.int lo t,.int hi u,.int 1 v]}
 | .sI o u=>h.get? a=some o/\bF H h a u
 | .zi ps=>h.get? a=some {cls:= .none,data:= .fields ps}
 | .met f x=>h.get? a=some (PySem.W.methodObj (.ref f) (.ref x))
 | .ext φ=>φ h/\(∃o,h.get? a=some o)/\∀h1 h2:Heap,φ h1->(∀o,h1.get? a=some o->h2.get? a=some o)->φ h2
noncomputable def d4 (H:Hp) (h:Heap):Prop:=∀a o,H a=some o->bF P w H h a o
end
section
variable {P:Program} {w:World} {H H':Hp} {h h':Heap} {a:Addr} {o:HO}
theorem bF.lt (x:bF P w H h a o):a < h.objs.size:=by
 cases o with
 | lst xs=>obtain⟨_,_,_,_,e⟩:=x;exact Pi e
 | tup xs=>obtain⟨_,_,_,p⟩:=x;exact p.lt
 | dK eC=>obtain⟨_,_,_,_,o,_,_,e,_⟩:=x;exact Pi e
 | dT eC=>obtain⟨_,_,_,_,o,_,_,e,_⟩:=x;exact Pi e
 | set S n=>obtain⟨o,_,_,_,e,_⟩:=x;exact Pi e
 | ins C dx fs=>obtain⟨_,_,_,e,_⟩:=x;exact Pi e
 | own y=>obtain⟨_,e⟩:=x;exact Pi e
 | xd fs=>obtain⟨_,⟨_,_,_,e,_⟩,_⟩:=x;exact Pi e
 | Ld lo hi=>obtain⟨_,_,_,e⟩:=x;exact Pi e
 | sI ob u=>obtain⟨e,_⟩:=x;exact Pi e
 | zi ps=>exact Pi (show h.get? a=some _ from x)
 | met f y=>exact Pi (show h.get? a=some _ from x)
 | ext φ=>obtain⟨_,⟨_,e⟩,_⟩:=x;exact Pi e
theorem Paired.Gy {α β:Type} {F G:α->β->Prop}:∀{l₁:List α} {l₂:List β},Paired F l₁ l₂->(∀a b,F a b->G a b)->Paired G l₁ l₂
 | _,_,.nil,_=> .nil
 | _,_,.cons r t,f=> .cons (f _ _ r) (Paired.Gy t f)
theorem bF.kE (x:bF P w H h a o) (k:∀b u,(b=a\/H b=some (.own a))->h.get? b=some u->h'.get? b=some u)
  (ho:∀b,H b=some (.own a)->H' b=some (.own a)) (ht:∀b xs,H b=some (.tup xs)->H' b=some (.tup xs)):bF P w H' h' a o:=by
 induction o with
 | lst xs=>obtain⟨z,its,n,r,e⟩:=x;exact⟨z,its,n,r,k _ _ (.inl rfl) e⟩
 | tup xs=>obtain⟨z,its,r,ob,e,c⟩:=x;exact⟨z,its,r,ob,k _ _ (.inl rfl) e,c⟩
 | dK eC=>obtain⟨z,y,vs,r,ob,es,ep,e,c⟩:=x;exact⟨z,y,vs,r,ob,es,ep,k _ _ (.inl rfl) e,c⟩
 | dT eC=>obtain⟨z,y,xs,r,ob,es,ep,e,c⟩:=x;exact⟨z,y,xs,Paired.Gy r λp q z=>⟨z.1,ht _ _ z.2.1,z.2.2⟩,ob,es,ep,k _ _ (.inl rfl) e,c⟩
 | set S n=>obtain⟨ob,es,ep,t,e,c⟩:=x;exact⟨ob,es,ep,t,k _ _ (.inl rfl) e,c⟩
 | ins C dx fs=>obtain⟨d,z,ne,e,mA,⟨od,es,ep,e2,c⟩,r⟩:=x;exact⟨ho _ d,z,ne,k _ _ (.inl rfl) e,mA,⟨od,es,ep,k _ _ (.inr d) e2,c⟩,r⟩
 | own y=>obtain⟨ob,e⟩:=x;exact⟨ob,k _ _ (.inl rfl) e⟩
 | xd fs=>obtain⟨mA,⟨od,es,ep,e,c⟩,r⟩:=x;exact⟨mA,⟨od,es,ep,k _ _ (.inl rfl) e,c⟩,r⟩
 | Ld lo hi=>obtain⟨t,u,v,e⟩:=x;exact⟨t,u,v,k _ _ (.inl rfl) e⟩
 | sI ob u ih=>obtain⟨e,q⟩:=x;exact⟨k _ _ (.inl rfl) e,ih q⟩
 | zi ps=>have e:h.get? a=some {cls:= .none,data:= .fields ps}:=x;show h'.get? a=some {cls:= .none,data:= .fields ps};exact k a _ (.inl rfl) e
 | met f y=>have e:h.get? a=some (PySem.W.methodObj (.ref f) (.ref y)):=x;show h'.get? a=some (PySem.W.methodObj (.ref f) (.ref y));exact k a _ (.inl rfl) e
 | ext φ=>obtain⟨p,⟨o,e⟩,st⟩:=x;exact⟨st _ _ p λo q=>k _ _ (.inl rfl) q,⟨o,k _ _ (.inl rfl) e⟩,st⟩
theorem d4.lt (x:d4 P w H h) (e:H a=some o):a < h.objs.size:=(x a o e).lt
theorem d4.fresh (x:d4 P w H h) (e:h.objs.size<=a):H a=none:=by
 cases q:H a with
 | none=>rfl
 | some u=>exact absurd (Pu (x.lt q) e) (Nat.lt_irrefl _)
theorem d4.kept (x:d4 P w H h) (k:∀b u,h.get? b=some u->h'.get? b=some u):d4 P w H h':=λa o e=>
 (x a o e).kE (λb u _ q=>k b u q) (λ_ q=>q) λ_ _ q=>q
theorem d4.laid (x:d4 P w H h) (k:∀b u,h.get? b=some u->h'.get? b=some u) (hp:h.objs.size<=a) (new:bF P w (upd H a o) h' a o):d4 P w (upd H a o) h':=λb u e=>by
 have hn:=x.fresh hp;by_cases hb:b=a
 ·subst hb;rw[aI] at e;cases e;exact new
 ·rw[ax hb] at e;exact(x b u e).kE (λc v _ q=>k c v q) (λc q=>by rw[ax (aE q hn)];exact q) λc xs q=>by rw[ax (aE q hn)];exact q
end
noncomputable def Rd (H:Hp) (a:Addr) (u:HO):Prop:=H a=some u\/∃o,H a=some (.sI o u)
theorem Rd.ok {P:Program} {w:World} {H:Hp} {h:Heap} {a:Addr} {u:HO} (r:Rd H a u) (x:d4 P w H h):bF P w H h a u:=by
 rcases r with r | ⟨o,r⟩
 ·exact x a u r
 ·obtain⟨_,q⟩:=x a _ r;exact q
noncomputable def Ia:Option HO->Prop
 | some (.lst _)=>True
 | some (.dK _)=>True
 | some (.dT _)=>True
 | some (.set _ _)=>True
 | some (.ins _ _ _)=>True
 | some (.ext _)=>True
 | _=>False
section
variable {P:Program} {w:World} {H:Hp} {h h':Heap} {x e:Addr} {o':HO}
theorem d4.write (ok:d4 P w H h) (mu:Ia (H x)) (he:e=x\/H e=some (.own x)) (k:∀b u,b≠e->h.get? b=some u->h'.get? b=some u) (EI:∃u,h'.get? e=some u)
  (new:bF P w (upd H x o') h' x o'):d4 P w (upd H x o') h':=λb u q=>by
 have GD:∀c y,H c=some (.own y)->c≠x:=λc y r z=>by subst z;rw[r] at mu;exact mu
 have KQ:∀c xs,H c=some (.tup xs)->c≠x:=λc xs r z=>by subst z;rw[r] at mu;exact mu
 by_cases hb:b=x
 ·subst hb;rw[aI] at q;cases q;exact new
 ·rw[ax hb] at q;by_cases hbe:b=e
  ·have q':H b=some (.own x):=by
    rcases he with z | z
    ·exact absurd (hbe.trans z) hb
    ·rw[hbe];exact z
   rw[q] at q';cases q';obtain⟨v,hv⟩:=EI;exact⟨v,by rw[hbe];exact hv⟩
  ·refine(ok b u q).kE (λc v hc r=>k c v ?_ r) (λc r=>by rw[ax (GD c b r)];exact r) λc xs r=>by rw[ax (KQ c xs r)];exact r
   rcases hc with rfl | hc
   ·exact hbe
   ·rintro rfl;rcases he with z | z
    ·exact GD c b hc z
    ·rw[hc] at z;cases z;exact hb rfl
end
structure Un (fs ex:List Addr) (H H':Hp) (h h':Heap):Prop where
 keep:∀b o,h.get? b=some o->H b=none->b∉fs->b∉ex->h'.get? b=some o
 slot:∀b o,h.get? b=some o->H b=none->b∈fs->b∉ex->∃sl,h'.get? b=some {o with slots:=sl}
 free:∀b o,h.get? b=some o->H b=none->b∉ex->H' b=none
 there:∀b o,h.get? b=some o->b∉ex->∃o',h'.get? b=some o'
 tups:∀b xs,H b=some (.tup xs)->H' b=some (.tup xs)
 frzs:∀b o u,H b=some (.sI o u)->H' b=some (.sI o u)
 tbls:∀b ps,H b=some (.zi ps)->∃more,H' b=some (.zi (ps++more))
section
variable {fs JM ex OK:List Addr} {H H1 H2:Hp} {h h1 h2 h':Heap} {a x e:Addr} {o:HO}
theorem Un.any (u:Un fs ex H H1 h h1) {b:Addr} {ob:Obj} (q:h.get? b=some ob) (n:H b=none) (hx:b∉ex):∃sl,h1.get? b=some {ob with slots:=sl}:=by
 by_cases hb:b∈fs
 ·exact u.slot b ob q n hb hx
 ·exact⟨ob.slots,u.keep b ob q n hb hx⟩
theorem Un.trans (a:Un fs ex H H1 h h1) (b:Un fs ex H1 H2 h1 h2):Un fs ex H H2 h h2 where
 keep:=λc ob q n hc hx=>b.keep c ob (a.keep c ob q n hc hx) (a.free c ob q n hx) hc hx
 slot:=λc ob q n hc hx=>by obtain⟨sl,e1⟩:=a.slot c ob q n hc hx;obtain⟨Hi,e2⟩:=b.slot c _ e1 (a.free c ob q n hx) hc hx;exact⟨Hi,e2⟩
 free:=λc ob q n hx=>by obtain⟨o',e1⟩:=a.there c ob q hx;exact b.free c o' e1 (a.free c ob q n hx) hx
 there:=λc ob q hx=>by obtain⟨o',e1⟩:=a.there c ob q hx;exact b.there c o' e1 hx
 tups:=λc xs q=>b.tups c xs (a.tups c xs q)
 frzs:=λc ob xs q=>b.frzs c ob xs (a.frzs c ob xs q)
 tbls:=λc ps q=>by obtain⟨m1,e1⟩:=a.tbls c ps q;obtain⟨m2,e2⟩:=b.tbls c _ e1;exact⟨m1++m2,by rw[e2,Array.append_assoc]⟩
theorem Un.kept (k:∀b u,h.get? b=some u->h'.get? b=some u):Un fs ex H H h h':=
 ⟨λb ob q _ _ _=>k b ob q,λb ob q _ _ _=>⟨ob.slots,k b ob q⟩,λ_ _ _ n _=>n,λb ob q _=>⟨ob,k b ob q⟩,λ_ _ q=>q,λ_ _ _ q=>q,λ_ ps q=>⟨#[],by rw[q];simp⟩⟩
theorem Un.refl:Un fs ex H H h h:=Un.kept λ_ _ q=>q
theorem Un.laid (k:∀b u,h.get? b=some u->h'.get? b=some u) (hp:h.objs.size<=a) (hn:H a=none):Un fs ex H (upd H a o) h h' where
 keep:=λb u q _ _ _=>k b u q
 slot:=λb u q _ _ _=>⟨u.slots,k b u q⟩
 free:=λb u q n _=>by rw[ax (PJ (Pu (Pi q) hp))];exact n
 there:=λb u q _=>⟨u,k b u q⟩
 tups:=λb xs q=>by rw[ax (aE q hn)];exact q
 frzs:=λb u xs q=>by rw[ax (aE q hn)];exact q
 tbls:=λb ps q=>⟨#[],by rw[ax (aE q hn),q];simp⟩
theorem Un.write (mu:Ia (H x)) (he:e=x\/H e=some (.own x)) (k:∀b u,b≠e->h.get? b=some u->h'.get? b=some u) (EI:∃u,h'.get? e=some u):Un fs ex H (upd H x o) h h':=by
 have hx:∀b,H b=none->b≠x:=λb n z=>by subst z;rw[n] at mu;exact mu
 have hb:∀b,H b=none->b≠e:=λb n z=>by
  subst z;rcases he with r | r
  ·exact hx b n r
  ·rw[n] at r;cases r
 have hm:∀b u,H b=some u->¬Ia (some u)->b≠x:=λb u q nm z=>by subst z;rw[q] at mu;exact nm mu
 refine⟨λb u q n _ _=>k b u (hb b n) q,λb u q n _ _=>⟨u.slots,k b u (hb b n) q⟩,λb u q n _=>by rw[ax (hx b n)];exact n,λb u q _=>?_,
  λb xs q=>by rw[ax (hm b _ q λz=>z)];exact q,λb u xs q=>by rw[ax (hm b _ q λz=>z)];exact q,λb ps q=>⟨#[],by rw[ax (hm b _ q λz=>z),q];simp⟩⟩
 by_cases hbe:b=e
 ·subst hbe;exact EI
 ·exact⟨u,k b u hbe q⟩
end
noncomputable def En (h:Heap) (H:Hp):List Addr:=(List.range h.objs.size).filter λa=>(H a).isSome
noncomputable def mS (h:Heap) (H:Hp):Heap:=PySem.W.hideAll h (En h H)
theorem uG (h:Heap) (H:Hp):(mS h H).objs.size=h.objs.size:=PySem.W.hideAll_size _ _
theorem wZ {h:Heap} {H:Hp} {b:Addr} {o:Obj} (e:h.get? b=some o) (n:H b=none):(mS h H).get? b=some o:=
 PySem.W.hideAll_get _ e λhm=>by have q:(H b).isSome=true:=(List.mem_filter.mp hm).2;rw[n] at q;simp at q
theorem Ay {h:Heap} {H:Hp} {b:Addr} {o:Obj} (e:(mS h H).get? b=some o):h.get? b=some o/\H b=none:=by
 have e':h.get? b=some o:=PySem.W.of_hideAll (En h H) e;refine⟨e',?_⟩;cases q:H b with
 | none=>rfl
 | some x=>have hm:b∈En h H:=List.mem_filter.mpr ⟨P5.mpr (Pi e'),by simp[q]⟩;have z:(mS h H).get? b=none:=PySem.W.hideAll_none (En h H) hm;rw[z] at e;cases e
noncomputable def zt (g h:Heap) (L:Addr):List (Addr×Obj):=(List.range h.objs.size).filterMap λa=>if a=L\/(g.get? a).isSome=true then none else(h.get? a).map λo=>(a,o)
noncomputable def rest (g h:Heap) (L d:Addr):List (Addr×Obj):=(zt g h L).filter λp=>decide (p.1≠d)
end L2
namespace L2
open PySem PySem.Spec PyProof.Rows
structure Mod (K:PySem.W.Frag) (mg:Str->Option Value) (base:Heap):Prop where
 KC:K.In base
 glob:base.Ns mainGlobals mg
 blt:∃mb,base.Ns builtinsNs mb/\∀x:Str,x≠"__name__"->mb x=bootBuiltins x
 nolimit:base.NoLimit
structure Cx where
 prog:Program
 w:World
 K:PySem.W.Frag
 mg:Str->Option Value
 base:Heap
 A:Around
 N:List Str
 s₀:Shared
 H₀:Hp
 env:Env
 outer:List Env
 stack:List Env
 ex:List Addr
 fn:Str->Bool
 calm:Bool
 pn:List (Addr×Obj)
 xe:Value->Shared->Prop
noncomputable def eI (l:List Env):List Addr:=l.filterMap (·.frame)
noncomputable abbrev Cx.fs (X:Cx):List Addr:=eI X.outer
noncomputable def E7 (sc:Scope) (x:Str):Prop:=sc.names.lookup x=some .local\/sc.names.lookup x=some .cell\/sc.names.lookup x=some .free
noncomputable def Loc (sc:Scope) (x:Str):Prop:=sc.names.lookup x=some .local\/sc.names.lookup x=some .cell
noncomputable def Look (env:Env) (h:Heap) (m:Str->Option Value) (x:Str) (u:Value):Prop:=
 (env.kindOf x=some .local/\m x=some u)\/((env.kindOf x=some .cell\/env.kindOf x=some .free)/\∃c,env.cells.lookup x=some c/\h.IsCell c (some u))
structure Cx.Ok (X:Cx):Prop where
 mod:Mod X.K X.mg X.base
 kind:X.env.scope.kind= .function
 glob:X.env.globals=mainGlobals
 blt:X.env.builtins=builtinsNs
 above:X.s₀.heap.objs.size<=X.env.locals
 inj:∀x y c,X.env.cells.lookup x=some c->X.env.cells.lookup y=some c->x=y
 has:∀x,(X.env.kindOf x=some .cell\/X.env.kindOf x=some .free)->∃c,X.env.cells.lookup x=some c
 Bn:∀x c,X.fn x=true->X.env.cells.lookup x=some c->X.s₀.heap.objs.size<=c
 hd:X.calm=true->X.A.handled=none
 frames:X.A.frames=some X.stack
 Eh:X.stack=X.outer\/(X.stack=X.env::X.outer/\X.env.frame=some X.env.locals)
 EF:∀b∈X.ex,b≠X.env.locals/\∀x c,X.env.cells.lookup x=some c->c≠b
 bs:∀b o,X.base.get? b=some o->X.s₀.heap.get? b=some o/\X.H₀ b=none
 zA:X.base.objs.size<=X.s₀.heap.objs.size
 o7:∀b o,X.base.get? b=some o->b∉X.ex
 qw:∀b∈X.ex,b∉X.fs
 jf:X.s₀.heap.FunFrames X.base X.outer
 Cy:∀b∈X.fs,X.H₀ b=none
structure Inv (X:Cx) (pins:List (Addr×Obj)) (σ:List (Option V)) (H:Hp) (s:Shared):Prop where
 ok:X.Ok
 os:s.os=X.s₀.os
 bare:AllBare s.gens
 base:Un X.fs X.ex X.H₀ H X.s₀.heap s.heap
 loc:∃m,s.heap.Ns X.env.locals m/\∀(i:Nat) (x:Str) (v:V),X.N[i]?=some x->σ[i]?=some (some v)->E7 X.env.scope x->∃u,RelV v u/\Look X.env s.heap m x u
 cell:∀x c,X.env.cells.lookup x=some c->∃v,s.heap.IsCell c v
 free:H X.env.locals=none
 cZ:∀x c,X.env.cells.lookup x=some c->H c=none
 pin:∀p∈X.pn++pins,s.heap.get? p.1=some p.2/\H p.1=none/\p.1≠X.env.locals/\p.1∉X.fs/\∀v,p.2.data≠ .cell v
 hok:d4 X.prog X.w H s.heap
 len:σ.length=X.N.length
section
variable {X:Cx} {pins:List (Addr×Obj)} {σ:List (Option V)} {H H':Hp} {s:Shared} {h':Heap}
theorem Cx.Ok.KO (ok:X.Ok) {b:Addr} {o:Obj} (e:X.base.get? b=some o):b∉X.fs:=λhb=>by have:=(ok.jf.mem hb).1;rw[e] at this;cases this
theorem Inv.bs (I:Inv X pins σ H s):∀b o,X.base.get? b=some o->s.heap.get? b=some o/\H b=none:=λb o e=>
 ⟨I.base.keep b o (I.ok.bs b o e).1 (I.ok.bs b o e).2 (I.ok.KO e) (I.ok.o7 b o e),I.base.free b o (I.ok.bs b o e).1 (I.ok.bs b o e).2 (I.ok.o7 b o e)⟩
theorem Inv.bk (I:Inv X pins σ H s):∀b o,X.base.get? b=some o->s.heap.get? b=some o:=λb o e=>(I.bs b o e).1
theorem Inv.mod (I:Inv X pins σ H s):Mod X.K X.mg X.base:=I.ok.mod
theorem Inv.oR (I:Inv X pins σ H s):X.K.In s.heap:=I.ok.mod.KC.keeps I.bk
theorem Inv.fr (I:Inv X pins σ H s):∃m,Fr X.base X.env.locals s.heap m:=
 let ⟨m,hn,_⟩:=I.loc
 ⟨m,hn,I.bk,Pj I.ok.zA I.ok.above⟩
theorem Inv.lt (I:Inv X pins σ H s):X.env.locals < s.heap.objs.size:=let ⟨_,hn,_⟩:=I.loc;hn.lt
theorem Inv.sz (I:Inv X pins σ H s):X.s₀.heap.objs.size<=s.heap.objs.size:=Pj I.ok.above (Nat.le_of_lt I.lt)
theorem Inv.KP (I:Inv X pins σ H s) {a:Addr} (h:s.heap.objs.size<=a):a∉X.fs:=λhb=>by obtain⟨_,o,ho,_⟩:=I.ok.jf.mem hb;exact absurd (Pu (Pi ho) (Pj I.sz h)) (Nat.lt_irrefl _)
theorem Inv.Co (I:Inv X pins σ H s):∀x c,X.env.cells.lookup x=some c->c≠X.env.locals:=λx c e z=>by obtain⟨v,o,ho,hd⟩:=I.cell x c e;obtain⟨m,⟨o',es,ep,qF,qD,_⟩,_⟩:=I.loc;rw[z,qF] at ho;cases ho;rw[qD] at hd;cases hd
theorem Inv.jf (I:Inv X pins σ H s):s.heap.FunFrames X.base X.outer:=by
 have all:∀(l:List Env),(∀b∈eI l,b∈X.fs)->X.s₀.heap.FunFrames X.base l->s.heap.FunFrames X.base l:=by
  intro l
  induction l with
  | nil=>intro _ _;trivial
  | cons env r ih=>
   intro hs hl;obtain⟨hk,⟨L,o,hf,hn,ho,hd⟩,hr⟩:=hl;have hL:L∈X.fs:=hs L (by unfold eI;rw[List.filterMap_cons,hf];exact Pe);obtain⟨sl,e⟩:=I.base.slot L o ho (I.ok.Cy L hL) hL λz=>I.ok.qw L z hL
   exact⟨hk,⟨L,_,hf,hn,e,hd⟩,ih (λb hb=>hs b (by unfold eI;rw[List.filterMap_cons,hf];exact Pb _ hb)) hr⟩
 exact all X.outer (λ_ hb=>hb) I.ok.jf
theorem Inv.stack (I:Inv X pins σ H s):s.heap.FunFrames X.base X.stack:=by
 rcases I.ok.Eh with e | ⟨e,hf⟩
 ·rw[e];exact I.jf
 ·rw[e];obtain⟨m,hn,_⟩:=I.loc;refine .cons (by rw[I.ok.kind];decide) hf hn ?_ I.jf;exact Heap.get?_none_of_le (Pj I.ok.zA I.ok.above)
theorem Inv.kF (I:Inv X pins σ H s):∀b∈eI X.stack,b∈X.env.locals::X.fs:=λb hb=>by
 rcases I.ok.Eh with e | ⟨e,hf⟩
 ·rw[e] at hb;exact Pb _ hb
 ·rw[e] at hb;unfold eI at hb;rw[List.filterMap_cons,hf] at hb;exact hb
theorem Inv.nN (I:Inv X pins σ H s):∀b∈eI X.stack,H b=none:=λb hb=>by
 rcases Pk.mp (I.kF b hb) with e | hb
 ·rw[e];exact I.free
 ·obtain⟨_,o,ho,_⟩:=I.ok.jf.mem hb;exact I.base.free b o ho (I.ok.Cy b hb) λz=>I.ok.qw b z hb
theorem Inv.step {g':Array GenState} {t':Nat} {d':Drawn} {ch:List Addr} (I:Inv X pins σ H s)
  (za:∀b∈ch,(b∈X.ex\/X.s₀.heap.objs.size<=b)/\b≠X.env.locals/\(∀x c,X.env.cells.lookup x=some c->c≠b)/\∀p∈X.pn++pins,p.1≠b)
  (keep:∀b o,b≠X.env.locals->b∉X.fs->b∉ch->s.heap.get? b=some o->H b=none->h'.get? b=some o)
  (slot:∀b o,b≠X.env.locals->b∈X.fs->b∉ch->s.heap.get? b=some o->H b=none->∃sl,h'.get? b=some {o with slots:=sl}) (free:∀b o,b∉ch->s.heap.get? b=some o->H b=none->H' b=none)
  (there:∀b o,b∉ch->s.heap.get? b=some o->∃o',h'.get? b=some o')
  (tups:∀b xs,H b=some (.tup xs)->H' b=some (.tup xs)) (frzs:∀b o u,H b=some (.sI o u)->H' b=some (.sI o u)) (tbls:∀b ps,H b=some (.zi ps)->∃more,H' b=some (.zi (ps++more)))
  (ns:∀m,s.heap.Ns X.env.locals m->h'.Ns X.env.locals m) (hok:d4 X.prog X.w H' h') (hg:AllBare g'):
  Inv X pins σ H' {s with heap:=h',gens:=g',drawn:=d',toks:=t'}:=by
 have IJ:∀b o,X.s₀.heap.get? b=some o->b≠X.env.locals:=λb o e=>PJ (Pu (Pi e) I.ok.above)
 have II:∀b o,X.s₀.heap.get? b=some o->b∉X.ex->b∉ch:=λb o e hx hb=>by
  rcases (za b hb).1 with z | z
  ·exact hx z
  ·exact absurd (Pu (Pi e) z) (Nat.lt_irrefl _)
 have cellK:∀x c,X.env.cells.lookup x=some c->∀v,s.heap.IsCell c v->h'.IsCell c v:=λx c e v ⟨o,ho,hd⟩=>by
  have GA:c∉ch:=λz=>(za c z).2.2.1 x c e rfl
  by_cases hc:c∈X.fs
  ·obtain⟨sl,q⟩:=slot c o (I.Co x c e) hc GA ho (I.cZ x c e);exact⟨_,q,hd⟩
  ·exact⟨o,keep c o (I.Co x c e) hc GA ho (I.cZ x c e),hd⟩
 refine⟨I.ok,I.os,hg,⟨λb o e n hb hx=>?_,λb o e n hb hx=>?_,λb o e n hx=>?_,λb o e hx=>?_,λb xs e=>tups b xs (I.base.tups b xs e),λb o xs e=>frzs b o xs (I.base.frzs b o xs e),λb ps e=>?_⟩,?_,λx c e=>?_,?_,λx c e=>?_,λp hp=>?_,hok,I.len⟩
 ·exact keep b o (IJ b o e) hb (II b o e hx) (I.base.keep b o e n hb hx) (I.base.free b o e n hx)
 ·obtain⟨sl,e1⟩:=I.base.slot b o e n hb hx;obtain⟨Hi,e2⟩:=slot b _ (IJ b o e) hb (II b o e hx) e1 (I.base.free b o e n hx);exact⟨Hi,e2⟩
 ·obtain⟨o',e1⟩:=I.base.there b o e hx;exact free b o' (II b o e hx) e1 (I.base.free b o e n hx)
 ·obtain⟨o',e1⟩:=I.base.there b o e hx;exact there b o' (II b o e hx) e1
 ·obtain⟨m1,e1⟩:=I.base.tbls b ps e;obtain⟨m2,e2⟩:=tbls b _ e1;exact⟨m1++m2,by rw[e2,Array.append_assoc]⟩
 ·obtain⟨m,hn,hl⟩:=I.loc;refine⟨m,ns m hn,λi x v e1 e2 e3=>?_⟩;obtain⟨u,r,l⟩:=hl i x v e1 e2 e3;refine⟨u,r,?_⟩;rcases l with l | ⟨k,c,e,z⟩
  ·exact .inl l
  ·exact .inr ⟨k,c,e,cellK x c e _ z⟩
 ·obtain⟨v,z⟩:=I.cell x c e;exact⟨v,cellK x c e v z⟩
 ·obtain⟨m,⟨o,_,_,ho,_⟩,_⟩:=I.loc;exact free _ o (λz=>(za _ z).2.1 rfl) ho I.free
 ·obtain⟨v,o,ho,hd⟩:=I.cell x c e;exact free c o (λz=>(za c z).2.2.1 x c e rfl) ho (I.cZ x c e)
 ·obtain⟨e,n,ne,nf,d⟩:=I.pin p hp;have GA:p.1∉ch:=λz=>(za p.1 z).2.2.2 p hp rfl
  exact⟨keep p.1 p.2 ne nf GA e n,free p.1 p.2 GA e n,ne,nf,d⟩
theorem Inv.un {t':Nat} (I:Inv X pins σ H s) (u:Un X.fs [] H H' s.heap h') (hok:d4 X.prog X.w H' h'):Inv X pins σ H' {s with heap:=h',toks:=t'}:=by
 obtain⟨m,⟨o,es,ep,ho,r⟩,_⟩:=id I.loc;obtain⟨sl,hL⟩:=u.any ho I.free (by simp);exact I.step (g':=s.gens) (d':=s.drawn) (ch:=[]) (λ_ z=>nomatch z) (λb o _ hb _ e n=>u.keep b o e n hb (by simp)) (λb o _ hb _ e n=>u.slot b o e n hb (by simp)) (λb o _ e n=>u.free b o e n (by simp)) (λb o _ e=>u.there b o e (by simp)) u.tups u.frzs u.tbls (λm' hm=>by
  obtain⟨o',dk,Ii,qF,r'⟩:=hm;rw[ho] at qF;cases qF;exact⟨_,dk,Ii,hL,r'⟩) hok I.bare
theorem Inv.call {g':Array GenState} {t':Nat} {d':Drawn} {ch:List Addr} (I:Inv X pins σ H s) (u:Un (eI X.stack) ch H H' s.heap h') (hok:d4 X.prog X.w H' h') (hg:AllBare g')
  (za:∀b∈ch,(b∈X.ex\/X.s₀.heap.objs.size<=b)/\b≠X.env.locals/\(∀x c,X.env.cells.lookup x=some c->c≠b)/\∀p∈X.pn++pins,p.1≠b):
  Inv X pins σ H' {s with heap:=h',gens:=g',drawn:=d',toks:=t'}:=by
 obtain⟨m,⟨o,es,ep,ho,r⟩,_⟩:=id I.loc;obtain⟨sl,hL⟩:=u.any ho I.free λz=>(za _ z).2.1 rfl
 exact I.step (ch:=ch) za (λb o hL hb hc e n=>u.keep b o e n (λz=>(Pk.mp (I.kF b z)).elim hL hb) hc) (λb o _ _ hc e n=>u.any e n hc) (λb o hc e n=>u.free b o e n hc) (λb o hc e=>u.there b o e hc) u.tups u.frzs u.tbls (λm' hm=>by
  obtain⟨o',dk,Ii,qF,r'⟩:=hm;rw[ho] at qF;cases qF;exact⟨_,dk,Ii,hL,r'⟩) hok hg
theorem Inv.turned {t':Nat} {it:Addr} (I:Inv X pins σ H s) (k:∀b o,b≠it->s.heap.get? b=some o->h'.get? b=some o) (hn:H it=none) (hL:it≠X.env.locals)
  (h1:it∈X.ex\/X.s₀.heap.objs.size<=it) (h2:∀x c,X.env.cells.lookup x=some c->c≠it) (h3:∀p∈X.pn++pins,p.1≠it):Inv X pins σ H {s with heap:=h',toks:=t'}:=by
 have MC:∀b u,H b=some u->b≠it:=λb u e z=>by rw[z,hn] at e;cases e
 refine I.step (g':=s.gens) (d':=s.drawn) (ch:=[it]) (λb hb=>?_) (λb o _ _ hc e _=>k b o (λz=>hc (by simp[z])) e) (λb o _ _ hc e _=>⟨o.slots,k b o (λz=>hc (by simp[z])) e⟩) (λ_ _ _ _ n=>n)
  (λb o hc e=>⟨o,k b o (λz=>hc (by simp[z])) e⟩) (λ_ _ e=>e) (λ_ _ _ e=>e) (λb ps e=>⟨#[],by rw[e];simp⟩) (λm hm=>?_) (λb u e=>?_) I.bare
 ·have e:b=it:=by simpa using hb
  subst e;exact⟨h1,hL,h2,h3⟩
 ·obtain⟨o,es,ep,ho,r⟩:=hm;exact⟨o,es,ep,k _ o (Ne.symm hL) ho,r⟩
 ·refine(I.hok b u e).kE (λc v hc q=>k c v ?_ q) (λ_ q=>q) λ_ _ q=>q
  rcases hc with z | z
  ·rw[z];exact MC b u e
  ·exact MC c _ z
theorem Inv.tok (I:Inv X pins σ H s) (t:Nat):Inv X pins σ H {s with toks:=t}:=I.un (h':=s.heap) (t':=t) Un.refl I.hok
theorem Inv.kept {t':Nat} (I:Inv X pins σ H s) (k:∀b u,s.heap.get? b=some u->h'.get? b=some u):Inv X pins σ H {s with heap:=h',toks:=t'}:=I.un (Un.kept k) (I.hok.kept k)
theorem Inv.laid {a:Addr} {o:HO} {t':Nat} (I:Inv X pins σ H s) (k:∀b u,s.heap.get? b=some u->h'.get? b=some u) (hp:s.heap.objs.size<=a) (new:bF X.prog X.w (upd H a o) h' a o):
  Inv X pins σ (upd H a o) {s with heap:=h',toks:=t'}:=I.un (Un.laid k hp (I.hok.fresh hp)) (I.hok.laid k hp new)
theorem Inv.write {x e:Addr} {o:HO} {t':Nat} (I:Inv X pins σ H s) (mu:Ia (H x)) (he:e=x\/H e=some (.own x)) (k:∀b u,b≠e->s.heap.get? b=some u->h'.get? b=some u) (EI:∃u,h'.get? e=some u)
  (new:bF X.prog X.w (upd H x o) h' x o):Inv X pins σ (upd H x o) {s with heap:=h',toks:=t'}:=I.un (Un.write mu he k EI) (I.hok.write mu he k EI new)
theorem Inv.weak {σ':List (Option V)} (I:Inv X pins σ H s) (hl:σ'.length=σ.length) (w:∀(i:Nat) v,σ'[i]?=some (some v)->σ[i]?=some (some v)):Inv X pins σ' H s:=
 ⟨I.ok,I.os,I.bare,I.base,let ⟨m,hn,CL⟩:=I.loc;⟨m,hn,λi x v e1 e2 e3=>CL i x v e1 (w i v e2) e3⟩,I.cell,I.free,I.cZ,I.pin,I.hok,hl.trans I.len⟩
theorem Inv.jG {BK:List (Addr×Obj)} (I:Inv X pins σ H s) (h:∀p∈BK,s.heap.get? p.1=some p.2/\H p.1=none/\p.1≠X.env.locals/\p.1∉X.fs/\∀v,p.2.data≠ .cell v):Inv X BK σ H s:=
 ⟨I.ok,I.os,I.bare,I.base,I.loc,I.cell,I.free,I.cZ,λp hp=>(Pv.mp hp).elim (λz=>I.pin p (List.mem_append_left _ z)) (h p),I.hok,I.len⟩
theorem kg {N:List Str} (hN:N.Nodup) {i j:Nat} {x:Str} (a:N[i]?=some x) (b:N[j]?=some x):i=j:=by obtain⟨h1,e1⟩:=Pa.mp a;obtain⟨h2,e2⟩:=Pa.mp b;exact(List.getElem_inj hN).mp (e1.trans e2.symm)
theorem l6 {M:Model} {A:Around} {E:Value->Shared->Prop} {i:Nat} {x:Str} {v:V} {u:Value} {Q:Unit->Shared->Prop} (I:Inv X pins σ H s) (hN:X.N.Nodup) (hi:X.N[i]?=some x) (hx:Loc X.env.scope x) (r:RelV v u)
  (h:∀s',Inv X pins (σ.set i (some v)) H s'->(∃a,Heap.SameBut a s.heap s'.heap/\(a=X.env.locals\/X.env.cells.lookup x=some a))->Q () s') (hf:X.fn x=true\/X.env.scope.names.lookup x=some .local:=by first | exact .inl rfl | exact .inr rfl | assumption):wpAny M A (storeName X.env x u) Q E s:=by
 obtain⟨m,hn,hl⟩:=id I.loc;have oO:(X.env.scope.kind== .class||(X.env.scope.kind== .module&&X.env.locals != X.env.globals))=false:=by rw[I.ok.kind];rfl
 have hiσ:i < σ.length:=by rw[I.len];exact(Pa.mp hi).1
 have Co:=I.Co;have tracked:∀{a:Addr} {h':Heap},(∃o,s.heap.get? a=some o/\H a=none)->Heap.SameBut a s.heap h'->d4 X.prog X.w H h':=λ {a h'} ha hs b ob e=>by
  obtain⟨_,_,By⟩:=ha;refine(I.hok b ob e).kE (λc w' hc q=>(hs.2 c ?_).trans q) (λ_ q=>q) λ_ _ q=>q
  rintro rfl;rcases hc with rfl | hc
  ·rw[By] at e;cases e
  ·rw[By] at hc;cases hc
 rcases hx with hk | hk
 ·refine wpAny_storeName_local hk hn (λh' NR hs=>?_) oO;obtain⟨oL,_,_,Iy,_⟩:=id hn;refine h _ ⟨I.ok,I.os,I.bare,⟨λb o e n hb hx=>?_,λb o e n hb hx=>?_,I.base.free,λb o e hx=>?_,I.base.tups,I.base.frzs,I.base.tbls⟩,⟨_,NR,λj y v' e1 e2 e3=>?_⟩,λy c e=>?_,I.free,I.cZ,λp hp=>?_,tracked ⟨oL,Iy,I.free⟩ hs,by simpa using I.len⟩ ⟨_,hs,.inl rfl⟩
  ·exact(hs.2 b (PJ (Pu (Pi e) I.ok.above))).trans (I.base.keep b o e n hb hx)
  ·obtain⟨sl,e1⟩:=I.base.slot b o e n hb hx;exact⟨sl,(hs.2 b (PJ (Pu (Pi e) I.ok.above))).trans e1⟩
  ·obtain⟨o',e1⟩:=I.base.there b o e hx;exact⟨o',(hs.2 b (PJ (Pu (Pi e) I.ok.above))).trans e1⟩
  ·by_cases hj:j=i
   ·subst hj;rw[hi] at e1;cases e1;rw[P4 hiσ] at e2;cases e2;exact⟨u,r,.inl ⟨hk,by simp⟩⟩
   ·rw[Pp (Ne.symm hj)] at e2;obtain⟨u',r',q⟩:=hl j y v' e1 e2 e3;refine⟨u',r',?_⟩;rcases q with ⟨k,e⟩ | ⟨k,c,e,z⟩
    ·refine .inl ⟨k,?_⟩;have:y≠x:=λe=>hj (kg hN e1 (e▸hi))
     simp[this,e]
    ·exact .inr ⟨k,c,e,z.sameBut hs (Co y c e)⟩
  ·obtain⟨w',z⟩:=I.cell y c e;exact⟨w',z.sameBut hs (Co y c e)⟩
  ·obtain⟨e,n,ne,nf,d⟩:=I.pin p hp;exact⟨(hs.2 p.1 ne).trans e,n,ne,nf,d⟩
 ·have wY:X.fn x=true:=by
   rcases hf with z | z
   ·exact z
   ·rw[z] at hk;cases hk
  obtain⟨c,hc⟩:=I.ok.has x (.inl hk);obtain⟨w',z⟩:=I.cell x c hc;refine wpAny_storeName_cell I.ok.kind hk hc z (λh' mQ hs=>?_);obtain⟨oc,Ml,Kl⟩:=id z;refine h {s with heap:=h'} ⟨I.ok,I.os,I.bare,⟨λb o e n hb hx=>?_,λb o e n hb hx=>?_,I.base.free,λb o e hx=>?_,I.base.tups,I.base.frzs,I.base.tbls⟩,⟨m,hn.sameBut hs (Ne.symm (Co x c hc)),λj y v' e1 e2 e3=>?_⟩,λy c' e=>?_,I.free,I.cZ,λp hp=>?_,tracked ⟨oc,Ml,I.cZ x c hc⟩ hs,by simpa using I.len⟩ ⟨c,hs,.inr hc⟩
  ·exact(hs.2 b (PJ (Pu (Pi e) (I.ok.Bn x c wY hc)))).trans (I.base.keep b o e n hb hx)
  ·obtain⟨sl,e1⟩:=I.base.slot b o e n hb hx;exact⟨sl,(hs.2 b (PJ (Pu (Pi e) (I.ok.Bn x c wY hc)))).trans e1⟩
  ·obtain⟨o',e1⟩:=I.base.there b o e hx;exact⟨o',(hs.2 b (PJ (Pu (Pi e) (I.ok.Bn x c wY hc)))).trans e1⟩
  ·by_cases hj:j=i
   ·subst hj;rw[hi] at e1;cases e1;rw[P4 hiσ] at e2;cases e2;exact⟨u,r,.inr ⟨.inl hk,c,hc,mQ⟩⟩
   ·rw[Pp (Ne.symm hj)] at e2;obtain⟨u',r',q⟩:=hl j y v' e1 e2 e3;refine⟨u',r',?_⟩;rcases q with q | ⟨k,c',e,z'⟩
    ·exact .inl q
    ·refine .inr ⟨k,c',e,z'.sameBut hs ?_⟩;rintro rfl;exact hj (kg hN e1 (I.ok.inj _ _ _ e hc▸hi))
  ·by_cases hcc:c'=c
   ·subst hcc;exact⟨_,mQ⟩
   ·obtain⟨w2,z2⟩:=I.cell y c' e;exact⟨w2,z2.sameBut hs hcc⟩
  ·obtain⟨e,n,ne,nf,d⟩:=I.pin p hp;refine⟨(hs.2 p.1 ?_).trans e,n,ne,nf,d⟩;intro q;rw[q,Ml] at e;have q':oc=p.2:=Option.some.inj e;exact d w' (by rw[<-q'];exact Kl)
theorem pG {M:Model} {A:Around} {E:Value->Shared->Prop} {i:Nat} {x:Str} {v:V} {u:Value} {Q:Unit->Shared->Prop} (I:Inv X pins σ H s) (hN:X.N.Nodup) (hi:X.N[i]?=some x) (hx:Loc X.env.scope x) (r:RelV v u)
  (h:∀s',Inv X pins (σ.set i (some v)) H s'->Q () s') (hf:X.fn x=true\/X.env.scope.names.lookup x=some .local:=by first | exact .inl rfl | exact .inr rfl | assumption):wpAny M A (storeName X.env x u) Q E s:=
 l6 I hN hi hx r (λs' I' _=>h s' I') hf
theorem Inv.vU {s':Shared} {ch:List Addr} (I:Inv X pins σ H s) (ho:s'.os=s.os) (u:Un (eI X.stack) ch H H' s.heap s'.heap) (hok:d4 X.prog X.w H' s'.heap) (hg:AllBare s'.gens)
  (za:∀b∈ch,(b∈X.ex\/X.s₀.heap.objs.size<=b)/\b≠X.env.locals/\(∀x c,X.env.cells.lookup x=some c->c≠b)/\∀p∈X.pn++pins,p.1≠b):Inv X pins σ H' s':=by
 obtain⟨h',g',d',t',o'⟩:=s';have e:o'=s.os:=ho;subst e;exact I.call (g':=g') (t':=t') (d':=d') u hok hg za
end
noncomputable abbrev XK:=Value->Option Addr->Hp->Prop
noncomputable abbrev St:=List (Option V)
noncomputable abbrev VK:=V->Hp->Prop
noncomputable abbrev TE:=St->Hp->VK->Prop
noncomputable abbrev TT:=St->Hp->(Bool->Hp->Prop)->Prop
noncomputable abbrev TA:=St->Hp->(List V->Hp->Prop)->Prop
structure Ends where
 nx:St->Hp->Prop
 rt:VK
 bk:St->Hp->Prop:=λ_ _=>False
 ct:St->Hp->Prop:=λ_ _=>False
noncomputable abbrev TS:=Ends->St->Hp->Prop
noncomputable def EP (X:Cx) (pins:List (Addr×Obj)) (σ:St) (Q:VK) (u:Value) (s':Shared):Prop:=∃v H',Inv X pins σ H' s'/\RelV v u/\Q v H'
noncomputable def TP (X:Cx) (pins:List (Addr×Obj)) (σ:St) (Q:Bool->Hp->Prop) (b:Bool) (s':Shared):Prop:=∃H',Inv X pins σ H' s'/\Q b H'
noncomputable def AP (X:Cx) (pins:List (Addr×Obj)) (σ:St) (Q:List V->Hp->Prop) (us:List Value) (s':Shared):Prop:=∃vs H',Inv X pins σ H' s'/\ar vs us/\Q vs H'
noncomputable def SP (X:Cx) (pins:List (Addr×Obj)) (D:Ends) (f:Flow) (s':Shared):Prop:=
 match f with
 | .next=>∃σ' H',Inv X pins σ' H' s'/\D.nx σ' H'
 | .brk=>∃σ' H',Inv X pins σ' H' s'/\D.bk σ' H'
 | .cont=>∃σ' H',Inv X pins σ' H' s'/\D.ct σ' H'
 | .ret u=>∃v σ' H',Inv X pins σ' H' s'/\RelV v u/\D.rt v H'
noncomputable def PE (X:Cx) (e:Expr) (t:TE):Prop:=
 ∀(pins:List (Addr×Obj)) (s:Shared) (σ:St) (H:Hp) (Q:VK),Inv X pins σ H s->t σ H Q->wpAny (model X.prog X.w) X.A (eval e X.env) (EP X pins σ Q) X.xe s
noncomputable def PT (X:Cx) (e:Expr) (t:TT):Prop:=
 ∀(pins:List (Addr×Obj)) (s:Shared) (σ:St) (H:Hp) (Q:Bool->Hp->Prop),Inv X pins σ H s->t σ H Q->wpAny (model X.prog X.w) X.A (isTrue e X.env (eval e X.env)) (TP X pins σ Q) X.xe s
noncomputable def PW (X:Cx) (e:Expr) (t:TT):Prop:=
 ∀(whole:Sem Value) (pins:List (Addr×Obj)) (s:Shared) (σ:St) (H:Hp) (Q:Bool->Hp->Prop),Inv X pins σ H s->t σ H Q->wpAny (model X.prog X.w) X.A (isTrue e X.env whole) (TP X pins σ Q) X.xe s
theorem PW.pt {X:Cx} {e:Expr} {t:TT} (h:PW X e t):PT X e t:=h _
noncomputable def PA (X:Cx) (es:List Expr) (t:TA):Prop:=
 ∀(pos:Pos) (pins:List (Addr×Obj)) (s:Shared) (σ:St) (H:Hp) (Q:List V->Hp->Prop),Inv X pins σ H s->t σ H Q->wpAny (model X.prog X.w) X.A (spliced (backTo pos (starEach es X.env))) (AP X pins σ Q) X.xe s
noncomputable def PS (X:Cx) (st:Stmt) (t:TS):Prop:=
 ∀(pins:List (Addr×Obj)) (s:Shared) (σ:St) (H:Hp) (D:Ends),Inv X pins σ H s->t D σ H->wpAny (model X.prog X.w) X.A (exec st X.env) (SP X pins D) X.xe s
noncomputable def uf (X:Cx) (st:List Stmt) (t:TS):Prop:=
 ∀(pins:List (Addr×Obj)) (s:Shared) (σ:St) (H:Hp) (D:Ends),Inv X pins σ H s->t D σ H->wpAny (model X.prog X.w) X.A (execs st X.env) (SP X pins D) X.xe s
theorem bq {α:Type} {t:Sem α} {Q Q':α->Shared->Prop} {M:Model} {A:Around} {E:Value->Shared->Prop} {s:Shared} (h:wpAny M A t Q E s) (hQ:∀a s,Q a s->Q' a s):wpAny M A t Q' E s:=wpAny_mono h hQ λ_ _ x=>x
end L2
namespace L2
open PySem PySem.Spec PyProof.Rows
section
variable {X:Cx}
theorem bin {a b:Expr} {ta tb:TE} (ha:PE X a ta) (hb:PE X b tb) {pins:List (Addr×Obj)} {s:Shared} {σ:St} {H:Hp} {R:V->V->Hp->Prop} (I:Inv X pins σ H s) (h:ta σ H λx H1=>tb σ H1 λy H2=>R x y H2)
  {α:Type} {Q:α->Shared->Prop} {f:Value->Value->Sem α}
  (hf:∀v u s2 x y H2,Inv X pins σ H2 s2->RelV x v->RelV y u->R x y H2->wpAny (model X.prog X.w) X.A (f v u) Q X.xe s2):
  wpAny (model X.prog X.w) X.A (eval a X.env) (λv s₁=>wpAny (model X.prog X.w) X.A (eval b X.env) (λu s₂=>wpAny (model X.prog X.w) X.A (f v u) Q X.xe s₂) X.xe s₁) X.xe s:=by
 refine bq (ha pins s σ H _ I h) λv s1 ⟨x,H1,I1,r1,q1⟩=>?_
 refine bq (hb pins s1 σ H1 _ I1 q1) λu s2 ⟨y,H2,I2,r2,q2⟩=>?_
 exact hf v u s2 x y H2 I2 r1 r2 q2
noncomputable def lg (i:Nat):TE:=λσ H Q=>∃v,σ[i]?=some (some v)/\Q v H
noncomputable def tC (v:V):TE:=λ_ H Q=>Q v H
theorem xU {i:Nat} {x:Str} {pos:Pos} (hN:X.N[i]?=some x) (hv:E7 X.env.scope x) (hd:(x==("__debug__":Str))=false:=by decide) (y9:(x==("__classdict__":Str))=false:=by decide):PE X (.Name x pos) (lg i):=by
 intro pins s σ H Q I h;obtain⟨v,e,h⟩:=h;obtain⟨m,hn,hl⟩:=I.loc;obtain⟨u,r,l⟩:=hl i x v hN e hv;have fin:EP X pins σ Q u s:=⟨v,H,I,r,h⟩;rcases l with ⟨hk,hm⟩ | ⟨hk,c,hc,Bw⟩
 ·exact wpAny_Name (wpAny_loadName_local I.ok.kind hk hn hm fin) hd
 ·rcases hk with hk | hk
  ·exact wpAny_Name (wpAny_loadName_cell I.ok.kind hk hc Bw fin) hd
  ·exact wpAny_Name (wpAny_loadName_free I.ok.kind hk hc Bw fin y9) hd
theorem xT {i j pos}:PE X (.Constant (.int i) j pos) (tC (.int i)):=λ_ _ _ H _ I h=>wpAny_Constant_int ⟨.int i,H,I.tok _,⟨_,rfl⟩,h⟩
theorem GR {b j pos}:PE X (.Constant (.bool b) j pos) (tC (.bl b)):=λ_ _ _ H _ I h=>Constant_bool ⟨.bl b,H,I,rfl,h⟩
theorem DE {j pos}:PE X (.Constant .none j pos) (tC .bg):=λ_ _ _ H _ I h=>Constant_none ⟨.bg,H,I,rfl,h⟩
theorem DH {x j pos}:PE X (.Constant (.str x) j pos) (tC (.str x)):=λ_ _ _ H _ I h=>Calls.Constant_str ⟨.str x,H,I.tok _,⟨_,rfl⟩,h⟩
noncomputable def Gl (X:Cx) (x:Str):Prop:=X.env.kindOf x=some .globalImplicit
theorem tf {E:Value->Shared->Prop} {pins:List (Addr×Obj)} {s:Shared} {σ:St} {H:Hp} {x:Str} {u:Value} {pos:Pos} {Q:Value->Shared->Prop} (I:Inv X pins σ H s) (hg:Gl X x) (hm:X.mg x=some u) (h:Q u s)
  (hd:(x==("__debug__":Str))=false:=by decide):wpAny (model X.prog X.w) X.A (eval (.Name x pos) X.env) Q E s:=
 Calls.Name_function_global I.ok.kind hg (Calls.loadGlobal_global (by rw[I.ok.glob];exact I.mod.glob.keeps I.bk) hm h) hd
theorem ej {E:Value->Shared->Prop} {pins:List (Addr×Obj)} {s:Shared} {σ:St} {H:Hp} {x:Str} {u:Value} {pos:Pos} {Q:Value->Shared->Prop} (I:Inv X pins σ H s) (hg:Gl X x) (hm:X.mg x=none) (hv:bootBuiltins x=some u) (h:Q u s)
  (hn:x≠"__name__":=by decide) (hd:(x==("__debug__":Str))=false:=by decide):wpAny (model X.prog X.w) X.A (eval (.Name x pos) X.env) Q E s:=by
 obtain⟨mb,h1,h2⟩:=I.mod.blt;exact Calls.Name_function_global I.ok.kind hg (Calls.loadGlobal_builtin (by rw[I.ok.glob];exact I.mod.glob.keeps I.bk) hm (by rw[I.ok.blt];exact h1.keeps I.bk) ((h2 x hn).trans hv) h) hd
theorem AH {x:Str} {v:V} {u:Value} {pos:Pos} (hg:Gl X x) (hm:X.mg x=some u) (r:RelV v u) (hd:(x==("__debug__":Str))=false:=by decide):PE X (.Name x pos) (tC v):=
 λ_ _ _ H _ I h=>tf I hg hm ⟨v,H,I,r,h⟩ hd
theorem AE {x:Str} {v:V} {u:Value} {pos:Pos} (hg:Gl X x) (hm:X.mg x=none) (hv:bootBuiltins x=some u) (r:RelV v u) (hn:x≠"__name__":=by decide) (hd:(x==("__debug__":Str))=false:=by decide):PE X (.Name x pos) (tC v):=
 λ_ _ _ H _ I h=>ej I hg hm hv ⟨v,H,I,r,h⟩ hn hd
variable {a b:Expr} {ta tb:TE} {pos:Pos}
variable {tA IQ:TT} {rest:List Expr}
noncomputable def Ls (t u:TT):TT:=λσ H Q=>t σ H λc H1=>if c=true then u σ H1 Q else Q false H1
noncomputable def Ot (t u:TT):TT:=λσ H Q=>t σ H λc H1=>if c=true then Q true H1 else u σ H1 Q
noncomputable def Lw (t:TT):TT:=λσ H Q=>t σ H λc H1=>Q (!c) H1
theorem AX (ha:PT X a tA):PW X (.BoolOp .And [a] pos) tA:=by
 intro wh pins s σ H Q I h;refine isTrue_and (bq (ha pins s σ H Q I h) λc s1 e=>?_);cases c with
 | true=>exact isTrue_and_nil e
 | false=>exact e
theorem DS (ha:PT X a tA):PW X (.BoolOp .Or [a] pos) tA:=by
 intro wh pins s σ H Q I h;refine isTrue_or (bq (ha pins s σ H Q I h) λc s1 e=>?_);cases c with
 | false=>exact isTrue_or_nil e
 | true=>exact e
theorem DR (ha:PT X a tA) (hb:PW X (.BoolOp .And (b::rest) pos) IQ):PW X (.BoolOp .And (a::b::rest) pos) (Ls tA IQ):=by
 intro wh pins s σ H Q I h;refine isTrue_and (bq (ha pins s σ H _ I h) λc s1 ⟨H1,I1,q1⟩=>?_);cases c with
 | true=>exact hb wh pins s1 σ H1 Q I1 q1
 | false=>exact⟨H1,I1,q1⟩
theorem GZ (ha:PT X a tA) (hb:PW X (.BoolOp .Or (b::rest) pos) IQ):PW X (.BoolOp .Or (a::b::rest) pos) (Ot tA IQ):=by
 intro wh pins s σ H Q I h;refine isTrue_or (bq (ha pins s σ H _ I h) λc s1 ⟨H1,I1,q1⟩=>?_);cases c with
 | true=>exact⟨H1,I1,q1⟩
 | false=>exact hb wh pins s1 σ H1 Q I1 q1
theorem DQ (ha:PT X a tA):PT X (.UnaryOp .Not a pos) (Lw tA):=by intro pins s σ H Q I h;exact isTrue_not (ha pins s σ H (λc H1=>Q (!c) H1) I h)
noncomputable def Hq (ta tb:TE):TE:=λσ H Q=>ta σ H λx H1=>∃c,x= .bl c/\if c=true then tb σ H1 Q else Q (.bl false) H1
noncomputable def Lx (ta tb:TE):TE:=λσ H Q=>ta σ H λx H1=>∃c,x= .bl c/\if c=true then Q (.bl true) H1 else tb σ H1 Q
noncomputable def Hw (ta:TE):TE:=λσ H Q=>ta σ H λx H1=>∃c,x= .bl c/\Q (.bl (!c)) H1
theorem DG {op} {t:TE} (h:PE X a t):PE X (.BoolOp op [a] pos) t:=λpins s σ H Q I hw=>BoolOp_one (h pins s σ H Q I hw)
theorem DB (ha:PE X a ta) (hb:PE X (.BoolOp .And (b::rest) pos) tb):PE X (.BoolOp .And (a::b::rest) pos) (Hq ta tb):=by
 intro pins s σ H Q I h;refine BoolOp_and (bq (ha pins s σ H _ I h) λv s1 ⟨x,H1,I1,r1,q1⟩=>?_);obtain⟨c,rfl,q1⟩:=q1;cases r1;refine wpAny_truthy_bool ?_;cases c with
 | true=>exact hb pins s1 σ H1 Q I1 q1
 | false=>exact⟨.bl false,H1,I1,rfl,q1⟩
theorem GV (ha:PE X a ta) (hb:PE X (.BoolOp .Or (b::rest) pos) tb):PE X (.BoolOp .Or (a::b::rest) pos) (Lx ta tb):=by
 intro pins s σ H Q I h;refine BoolOp_or (bq (ha pins s σ H _ I h) λv s1 ⟨x,H1,I1,r1,q1⟩=>?_);obtain⟨c,rfl,q1⟩:=q1;cases r1;refine wpAny_truthy_bool ?_;cases c with
 | false=>exact hb pins s1 σ H1 Q I1 q1
 | true=>exact⟨.bl true,H1,I1,rfl,q1⟩
theorem DF (ha:PE X a ta):PE X (.UnaryOp .Not a pos) (Hw ta):=by intro pins s σ H Q I h;refine UnaryOp_ (bq (ha pins s σ H _ I h) λv s1 ⟨x,H1,I1,r1,q1⟩=>?_);obtain⟨c,rfl,q1⟩:=q1;cases r1;exact not_of (wpAny_truthy_bool ⟨.bl (!c),H1,I1,rfl,q1⟩)
end
end L2
namespace L2
open PySem PySem.Spec PyProof.Rows
noncomputable def cT (K:PySem.W.Frag) (H:Hp) (a:Addr) (xs:List V):Prop:=
 Rd H a (.lst xs)\/
  ∃(o:Obj) (its:Array Value) (n:Nat),K.lookup a=some o/\o.cls= .type "list"/\o.dict=none/\o.data= .seq its n/\its.size<=sizeLine/\ar xs its.toList
noncomputable def d5 (K:PySem.W.Frag) (H:Hp) (a:Addr) (xs:List V):Prop:=
 Rd H a (.tup xs)\/
  ∃(o:Obj) (its:Array Value) (n:Nat),K.lookup a=some o/\o.cls= .type "tuple"/\o.data= .seq its n/\its.size<=sizeLine/\ar xs its.toList
noncomputable def Jr:Value->Option V
 | .none=>some .bg
 | .bool b=>some (.bl b)
 | .int i _=>some (.int i)
 | .str x _=>some (.str x)
 | .bytes b _=>some (.Cg b)
 | .float b _=>some (.y8 b)
 | .ref a=>some (.ref a)
 | .type n=>some (.ty n)
 | _=>none
theorem RelV.abs {x:V} {u:Value} (r:RelV x u):Jr u=some x:=by
 cases x with
 | bg=>cases r;rfl
 | bl _=>cases r;rfl
 | int _=>obtain⟨t,rfl⟩:=r;rfl
 | str _=>obtain⟨t,rfl⟩:=r;rfl
 | Cg _=>obtain⟨t,rfl⟩:=r;rfl
 | y8 _=>obtain⟨t,rfl⟩:=r;rfl
 | ref _=>cases r;rfl
 | ty _=>cases r;rfl
theorem RelV.inj {x y:V} {u:Value} (r:RelV x u) (q:RelV y u):x=y:=Option.some.inj (r.abs.symm.trans q.abs)
theorem ar.inj:∀{xs ys:List V} {us:List Value},ar xs us->ar ys us->xs=ys
 | _,_,_,.nil,.nil=>rfl
 | _,_,_,.cons r t,.cons r' t'=>by rw[r.inj r',ar.inj t t']
section
variable {X:Cx} {pins:List (Addr×Obj)} {σ:St} {H:Hp} {s:Shared} {a:Addr} {xs ys:List V}
theorem cT.of {K:PySem.W.Frag} (h:H a=some (.lst xs)):cT K H a xs:= .inl (.inl h)
theorem d5.of {K:PySem.W.Frag} (h:H a=some (.tup xs)):d5 K H a xs:= .inl (.inl h)
theorem Inv.list (I:Inv X pins σ H s) (h:cT X.K H a xs):∃its:List Value,ar xs its/\PlainL s.heap a its.toArray/\xs.length<=sizeLine:=by
 rcases h with h | ⟨o,its,n,hk,hc,hd,hs,hz,r⟩
 ·obtain⟨z,its,n,r,e⟩:=h.ok I.hok;exact⟨its,r,⟨_,n,e,rfl,rfl,rfl⟩,z⟩
 ·refine⟨its.toList,r,⟨o,n,I.oR a o hk,hc,hd,by simpa using hs⟩,?_⟩;have e:=r.length;simp only[Pt] at e
  lia
theorem Inv.tuple (I:Inv X pins σ H s) (h:d5 X.K H a xs):∃its:List Value,ar xs its/\IsTup s.heap a its.toArray/\xs.length<=sizeLine:=by
 rcases h with h | ⟨o,its,n,hk,hc,hs,hz,r⟩
 ·obtain⟨z,its,r,p⟩:=h.ok I.hok;exact⟨its,r,p,z⟩
 ·refine⟨its.toList,r,⟨o,I.oR a o hk,hc,n,by simpa using hs⟩,?_⟩;have e:=r.length;simp only[Pt] at e
  lia
theorem Inv.xB (I:Inv X pins σ H s) (h:cT X.K H a xs) (h':cT X.K H a ys):xs=ys:=by
 obtain⟨its,r,⟨o,n,e,_,_,d⟩,_⟩:=I.list h;obtain⟨its',r',⟨o',n',e',_,_,d'⟩,_⟩:=I.list h';rw[e] at e';cases e';rw[d] at d';injection d' with d1 _;have:its=its':=by simpa using congrArg Array.toList d1
 subst this;exact r.inj r'
theorem Inv.vd (I:Inv X pins σ H s) (h:d5 X.K H a xs) (h':d5 X.K H a ys):xs=ys:=by
 obtain⟨its,r,⟨o,e,_,n,d⟩,_⟩:=I.tuple h;obtain⟨its',r',⟨o',e',_,n',d'⟩,_⟩:=I.tuple h';rw[e] at e';cases e';rw[d] at d';injection d' with d1 _;have:its=its':=by simpa using congrArg Array.toList d1
 subst this;exact r.inj r'
end
noncomputable abbrev Cx.dh (X:Cx) (E:Value->Shared->Prop):Cx:={X with xe:=E}
theorem Cx.Ok.dh {X:Cx} (ok:X.Ok) (E:Value->Shared->Prop):(X.dh E).Ok:=
 ⟨ok.mod,ok.kind,ok.glob,ok.blt,ok.above,ok.inj,ok.has,ok.Bn,ok.hd,ok.frames,ok.Eh,ok.EF,ok.bs,ok.zA,ok.o7,ok.qw,ok.jf,ok.Cy⟩
theorem Cx.Ok.eA {X:Cx} {E:Value->Shared->Prop} (ok:(X.dh E).Ok):X.Ok:=
 ⟨ok.mod,ok.kind,ok.glob,ok.blt,ok.above,ok.inj,ok.has,ok.Bn,ok.hd,ok.frames,ok.Eh,ok.EF,ok.bs,ok.zA,ok.o7,ok.qw,ok.jf,ok.Cy⟩
section
variable {X:Cx} {pins:List (Addr×Obj)} {σ:St} {H:Hp} {s:Shared} {E:Value->Shared->Prop}
theorem Inv.dh (I:Inv X pins σ H s) (E:Value->Shared->Prop):Inv (X.dh E) pins σ H s:=⟨I.ok.dh E,I.os,I.bare,I.base,I.loc,I.cell,I.free,I.cZ,I.pin,I.hok,I.len⟩
theorem Inv.eA (I:Inv (X.dh E) pins σ H s):Inv X pins σ H s:=⟨I.ok.eA,I.os,I.bare,I.base,I.loc,I.cell,I.free,I.cZ,I.pin,I.hok,I.len⟩
theorem SP.eA {D:Ends} {f:Flow} {s':Shared} (h:SP (X.dh E) pins D f s'):SP X pins D f s':=by
 cases f with
 | next=>obtain⟨σ',H',I,q⟩:=h;exact⟨σ',H',I.eA,q⟩
 | brk=>obtain⟨σ',H',I,q⟩:=h;exact⟨σ',H',I.eA,q⟩
 | cont=>obtain⟨σ',H',I,q⟩:=h;exact⟨σ',H',I.eA,q⟩
 | ret u=>obtain⟨v,σ',H',I,r,q⟩:=h;exact⟨v,σ',H',I.eA,r,q⟩
end
section
variable {X:Cx} {st:Stmt} {rest:List Stmt} {t u:TS} {e:Expr} {te:TE} {pos:Pos}
noncomputable def yz:TS:=λD σ H=>D.nx σ H
noncomputable def Hz (t u:TS):TS:=λD σ H=>t {D with nx:=u D} σ H
theorem AS:uf X [] yz:=λ_ _ σ H _ I h=>wpAny_execs_nil ⟨σ,H,I,h⟩
theorem x9 (h1:PS X st t) (h2:uf X rest u):uf X (st::rest) (Hz t u):=by
 intro pins s σ H D I h;refine wpAny_execs_cons (bq (h1 pins s σ H {D with nx:=u D} I h) λf s1 q=>?_);cases f with
 | next=>obtain⟨σ',H',I',q⟩:=q;exact h2 pins s1 σ' H' D I' q
 | ret v=>exact q
 | brk=>exact q
 | cont=>exact q
noncomputable def yy:TS:=λD σ H=>D.bk σ H
noncomputable def BR:TS:=λD σ H=>D.ct σ H
theorem AO:PS X (.Pass pos) yz:=λ_ _ σ H _ I h=>wpAny_Pass ⟨σ,H,I,h⟩
theorem xZ:PS X (.Break pos) yy:=λ_ _ σ H _ I h=>wpAny_Break ⟨σ,H,I,h⟩
theorem pq:PS X (.Continue pos) BR:=λ_ _ σ H _ I h=>wpAny_Continue ⟨σ,H,I,h⟩
theorem Inv.quiet {pins:List (Addr×Obj)} {σ:St} {H:Hp} {s:Shared} (I:Inv X pins σ H s):interactive X.env=false:=by simp[interactive,I.ok.kind]
noncomputable def pM (te:TE):TS:=λD σ H=>te σ H λ_ H1=>D.nx σ H1
theorem jH (he:PE X e te) (hs:swapsWith e none pos.line X.env=pure false:=by rfl):PS X (.Expr e pos) (pM te):=by intro pins s σ H D I h;exact wpAny_Expr_any (bq (he pins s σ H _ I h) λv s1 ⟨x,H1,I1,r1,q1⟩=>⟨σ,H1,I1,q1⟩) I.quiet hs
noncomputable def Ej (te:TE):TS:=λD σ H=>te σ H D.rt
theorem ra (he:PE X e te):PS X (.Return (some e) pos) (Ej te):=by intro pins s σ H D I h;exact wpAny_Return_some (bq (he pins s σ H _ I h) λv s1 ⟨x,H1,I1,r1,q1⟩=>⟨x,σ,H1,I1,r1,q1⟩)
noncomputable def BU:TS:=λD _ H=>D.rt .bg H
theorem AQ:PS X (.Return none pos) BU:=λ_ _ σ H _ I h=>wpAny_Return_none ⟨.bg,σ,H,I,rfl,h⟩
noncomputable def Hv (c:TT) (t u:TS):TS:=λD σ H=>c σ H λb H1=>if b=true then t D σ H1 else u D σ H1
theorem GY {c:Expr} {a b:List Stmt} {tc:TT} (hc:PT X c tc) (ha:uf X a t) (hb:uf X b u):PS X (.If c a b pos) (Hv tc t u):=by
 intro pins s σ H D I h;refine wpAny_If (bq (hc pins s σ H _ I h) λd s1 ⟨H1,I1,q1⟩=>?_);cases d with
 | true=>exact ha pins s1 σ H1 D I1 q1
 | false=>exact hb pins s1 σ H1 D I1 q1
end
noncomputable abbrev TG:=V->St->Hp->(St->Hp->Prop)->Prop
noncomputable abbrev vA:=List V->St->Hp->(St->Hp->Prop)->Prop
noncomputable def PG (X:Cx) (target:Expr) (t:TG):Prop:=
 ∀(pins:List (Addr×Obj)) (s:Shared) (σ:St) (H:Hp) (v:V) (u:Value) (Q:St->Hp->Prop),Inv X pins σ H s->RelV v u->t v σ H Q->
  wpAny (model X.prog X.w) X.A (assign target X.env u) (λ_ s'=>∃σ' H',Inv X pins σ' H' s'/\Q σ' H') X.xe s
noncomputable def E4 (X:Cx) (ts:List Expr) (t:vA):Prop:=
 ∀(pins:List (Addr×Obj)) (s:Shared) (σ:St) (H:Hp) (vs:List V) (us:List Value) (Q:St->Hp->Prop),Inv X pins σ H s->ar vs us->t vs σ H Q->
  wpAny (model X.prog X.w) X.A (assignInOrder ((assignEach ts X.env).map (·.2)) us) (λ_ s'=>∃σ' H',Inv X pins σ' H' s'/\Q σ' H') X.xe s
noncomputable abbrev B5:=V->V->V->Hp->(Hp->Prop)->Prop
noncomputable def E5 (X:Cx) (t:B5):Prop:=
 ∀(pins:List (Addr×Obj)) (s:Shared) (σ:St) (H:Hp) (o i v:V) (ov iv u:Value) (Q:Hp->Prop),Inv X pins σ H s->RelV o ov->RelV i iv->RelV v u->t o i v H Q->
  wpAny (model X.prog X.w) X.A (setItem ov iv u) (λ_ s'=>∃H',Inv X pins σ H' s'/\Q H') X.xe s
section
variable {X:Cx} {pos:Pos}
noncomputable def dQ (i:Nat):TG:=λv σ H Q=>Q (σ.set i (some v)) H
theorem AK {i:Nat} {x:Str} (hN:X.N.Nodup) (hi:X.N[i]?=some x) (hx:Loc X.env.scope x) (hf:X.fn x=true\/X.env.scope.names.lookup x=some .local:=by first | exact .inl rfl | exact .inr rfl | assumption):PG X (.Name x pos) (dQ i):=by intro pins s σ H v u Q I r h;exact wpAny_assign_Name (pG I hN hi hx r (λs' I'=>⟨_,H,I',h⟩) hf)
noncomputable def CA:vA:=λvs σ H Q=>vs=[]/\Q σ H
noncomputable def wH (t:TG) (u:vA):vA:=λvs σ H Q=>∃v r,vs=v::r/\t v σ H λσ' H'=>u r σ' H' Q
theorem AL:E4 X [] CA:=by intro pins s σ H vs us Q I r h;obtain⟨e,h⟩:=h;subst e;cases r;exact assignInOrder_nil ⟨σ,H,I,h⟩
theorem xV {e:Expr} {es:List Expr} {t:TG} {u:vA} (h1:PG X e t) (h2:E4 X es u)
  (hs:(assignEach (e::es) X.env).map (·.2)=assign e X.env::(assignEach es X.env).map (·.2):=by rfl):E4 X (e::es) (wH t u):=by
 intro pins s σ H vs us Q I r h;obtain⟨v,vr,e1,h⟩:=h;subst e1;cases r with
 | cons r rr=>rw[hs];refine assignInOrder_cons (bq (h1 pins s σ H _ _ _ I r h) λ_ s1 ⟨σ1,H1,I1,q1⟩=>?_);exact h2 pins s1 σ1 H1 _ _ Q I1 rr q1
noncomputable def CB (K:PySem.W.Frag) (n:Nat) (t:vA):TG:=λv σ H Q=>∃a xs,v= .ref a/\d5 K H a xs/\xs.length=n/\t xs σ H Q
theorem DK {es:List Expr} {k:Nat} {t:vA} {n:Nat} (hc:X.calm=true) (h:E4 X es t)
  (hn:(assignEach es X.env).length=n:=by rfl) (gZ:(assignEach es X.env).findIdx? (·.1)=none:=by rfl):PG X (.Tuple es k pos) (CB X.K n t):=by
 intro pins s σ H v u Q I r hw;obtain⟨a,xs,e1,hq,hl,hw⟩:=hw;subst e1;cases r;obtain⟨its,rv,ht,hz⟩:=I.tuple hq;refine assign_Tuple_tuple (I.ok.hd hc) ht (by simp[hn,<-hl,rv.length]) gZ λh' hx=>?_
 have I1:Inv X pins σ H {s with heap:=h'}:=I.kept (t':=s.toks) λb o e=>hx b o (PJ (Pi e)) e
 exact h pins _ σ H xs _ Q I1 (by simpa using rv) hw
noncomputable def Fw (to ti:TE) (t:B5):TG:=λv σ H Q=>to σ H λo H1=>ti σ H1 λi H2=>t o i v H2 λH3=>Q σ H3
theorem DJ {o i:Expr} {to ti:TE} {t:B5} (ho:PE X o to) (hi:PE X i ti) (hs:E5 X t)
  (ha:∀v,assign (.Subscript o i pos) X.env v=(do
   let ov<-holding [v] (eval o X.env)
   let iv<-holding [v,ov] (eval i X.env)
   standAt pos
   holding [v,ov,iv] (setItem ov iv v)
   release [v,ov,iv] []):=by intro _;rfl):PG X (.Subscript o i pos) (Fw to ti t):=by
 intro pins s σ H v u Q I r h;rw[ha];refine O3 (wpAny_holding (bq (ho pins s σ H _ I h) λov s1 ⟨x,H1,I1,r1,q1⟩=>?_));refine O3 (wpAny_holding (bq (hi pins s1 σ H1 _ I1 q1) λiv s2 ⟨y,H2,I2,r2,q2⟩=>?_));refine O3 (wpAny_standAt (O3 (wpAny_holding (bq (hs pins s2 σ H2 x y v ov iv u _ I2 r1 r2 r q2) λ_ s3 ⟨H3,I3,q3⟩=>?_))));exact wpAny_release ⟨σ,H3,I3,q3⟩
noncomputable def pJ (te:TE) (g:TG):TS:=λD σ H=>te σ H λx H1=>g x σ H1 D.nx
theorem DO {tg e:Expr} {te:TE} {g:TG} (he:PE X e te) (hg:PG X tg g) (hs:swapsWithSole [tg] e pos.line X.env=pure false:=by rfl) (hw:swappedStores [tg] e X.env=pure none:=by rfl)
  (h1:(assignEach [tg] X.env).map (·.2)=[assign tg X.env]:=by rfl):PS X (.Assign [tg] e pos) (pJ te g):=by
 intro pins s σ H D I h;refine wpAny_Assign_stores (bq (he pins s σ H _ I h) λv s1 ⟨x,H1,I1,r1,q1⟩=>?_) hs hw;rw[h1];exact bq (hg pins s1 σ H1 x v _ I1 r1 q1) λ_ s2 q=>q
theorem x8 {i:Nat} {x:Str} {e:Expr} {te:TE} {pos':Pos} (hN:X.N.Nodup) (hi:X.N[i]?=some x) (hx:Loc X.env.scope x) (he:PE X e te) (hs:swapsWith e (some (.Name x pos')) pos.line X.env=pure false:=by rfl) (hf:X.fn x=true\/X.env.scope.names.lookup x=some .local:=by first | exact .inl rfl | exact .inr rfl | assumption):
  PS X (.Assign [.Name x pos'] e pos) (pJ te (dQ i)):=by
 intro pins s σ H D I h;refine wpAny_Assign_Name (bq (he pins s σ H _ I h) λv s1 ⟨y,H1,I1,r1,q1⟩=>?_) hs;exact pG I1 hN hi hx r1 (λs2 I2=>⟨_,H1,I2,q1⟩) hf
end
structure It where
 go:Nat->Hp->Prop
 yld:Nat->Hp->V->Hp->Prop
 stop:Nat->Hp->Prop
noncomputable def gp (X:Cx) (pins:List (Addr×Obj)) (H:Hp) (b:Addr):Prop:=
 H b=none/\b≠X.env.locals/\b∉X.fs/\(b∈X.ex\/X.s₀.heap.objs.size<=b)/\(∀x c,X.env.cells.lookup x=some c->c≠b)/\∀p∈X.pn++pins,p.1≠b
theorem Inv.qA {X:Cx} {pins:List (Addr×Obj)} {σ:St} {H H':Hp} {s:Shared} {b:Addr} (I:Inv X pins σ H s) (hb:s.heap.objs.size<=b) (hn:H' b=none):gp X pins H' b:=by
 refine⟨hn,Nat.ne_of_gt (Pu I.lt hb),I.KP hb,.inr (Pj I.sz hb),λx c e z=>?_,λp hp z=>?_⟩
 ·obtain⟨v,q⟩:=I.cell x c e;exact absurd (Pu q.lt (by rw[z];exact hb)) (Nat.lt_irrefl _)
 ·exact absurd (Pu (Pi (I.pin p hp).1) (by rw[z];exact hb)) (Nat.lt_irrefl _)
structure Turn (P:Program) (w:World) (K:PySem.W.Frag) (tg:Expr) (J:It) (fp:List Addr) (it:Addr) (tn:Nat->Heap->Prop):Prop where
 mem:it∈fp
 obj:∀i h,tn i h->∀b∈fp,∃o,h.get? b=some o/\∀v,o.data≠ .cell v
 keep:∀i h h',tn i h->(∀b∈fp,∀o,h.get? b=some o->h'.get? b=some o)->tn i h'
 item:∀(X:Cx),X.prog=P->X.w=w->X.K=K->X.calm=true->∀(i:Nat) (pins:List (Addr×Obj)) (s:Shared) (σ:St) (H:Hp) (E:Value->Shared->Prop),Inv X pins σ H s->(∀b∈fp,gp X pins H b)->tn i s.heap->J.go i H->
  wpAny (model P w) X.A (pyNext (.ref it)) (λr s1=>∃u,r=some u/\
   wpAny (model P w) X.A (letOwnedTupleGo tg (.ref it) u) (λ_ s2=>∃x H',Inv X pins σ H' s2/\RelV x u/\J.yld i H x H'/\tn (i + 1) s2.heap/\∀b∈fp,H' b=none) E s1) E s
 done:∀(X:Cx),X.prog=P->X.w=w->X.K=K->X.calm=true->∀(i:Nat) (pins:List (Addr×Obj)) (s:Shared) (σ:St) (H:Hp) (E:Value->Shared->Prop),Inv X pins σ H s->(∀b∈fp,gp X pins H b)->tn i s.heap->J.stop i H->
  wpAny (model P w) X.A (pyNext (.ref it)) (λr s1=>r=none/\Inv X pins σ H s1) E s
 self:∀(A:Around) (i:Nat) (s:Shared) (Q:Value->Shared->Prop) (E:Value->Shared->Prop),tn i s.heap->Q (.ref it) s->wpAny (model P w) A (pyIter (.ref it)) Q E s
noncomputable abbrev TI:=St->Hp->(It->Hp->Prop)->Prop
noncomputable def LP (X:Cx) (pins:List (Addr×Obj)) (σ:St) (tg:Expr) (R:It->Hp->Prop) (n8:Value) (s2:Shared):Prop:=
 ∃(it:Addr) (fp:List Addr) (tn:Nat->Heap->Prop) (J:It) (H':Hp),n8= .ref it/\Inv X pins σ H' s2/\Turn X.prog X.w X.K tg J fp it tn/\tn 0 s2.heap/\(∀b∈fp,gp X pins H' b)/\R J H'
noncomputable def PI (X:Cx) (tg iter:Expr) (wi:TI):Prop:=
 ∀(pins:List (Addr×Obj)) (s:Shared) (σ:St) (H:Hp) (R:It->Hp->Prop),Inv X pins σ H s->wi σ H R->
  wpAny (model X.prog X.w) X.A (eval iter X.env) (λv s1=>wpAny (model X.prog X.w) X.A (pyIter v) (LP X pins σ tg R) X.xe s1) X.xe s
theorem wQ {M:Model} {A:Around} {E:Value->Shared->Prop} {s:Shared} {tg:Expr} {it:Addr} {u:Value} {o:Obj} {n:String} {vs:Array Value} {Q:Unit->Shared->Prop} (ho:s.heap.get? it=some o) (hc:o.cls= .type n) (hd:o.data= .fields vs)
  (hn:["enumerate","zip","dict_itemiterator","dict_reverseitemiterator","odict_iterator","itertools.zip_longest","itertools.pairwise"].contains n=false) (hQ:Q () s):wpAny M A (letOwnedTupleGo tg (.ref it) u) Q E s:=by
 unfold letOwnedTupleGo;cases tg <;> first
  | exact O6 hQ
  | (cases u <;> first
    | exact O6 hQ
    | (refine O3 (wpAny_load ho ?_);rw[hc,hd];show wpAny M A (if (["enumerate","zip","dict_itemiterator","dict_reverseitemiterator","odict_iterator","itertools.zip_longest","itertools.pairwise"].contains n&&vs[0]?==some (rawInt _))=true then _ else _) Q E s;rw[if_neg (by intro h;rw[hn,Bool.false_and] at h;cases h)];exact O6 hQ))
noncomputable def HW (K:PySem.W.Frag) (a:Addr):It:=
 ⟨λi H=>∃xs x,cT K H a xs/\xs[i]?=some x,λi H x H'=>H'=H/\∀xs,cT K H a xs->xs[i]?=some x,λi H=>∃xs,cT K H a xs/\xs.length<=i⟩
noncomputable def Jh (K:PySem.W.Frag) (a:Addr):It:=
 ⟨λi H=>∃xs x,d5 K H a xs/\xs[i]?=some x,λi H x H'=>H'=H/\∀xs,d5 K H a xs->xs[i]?=some x,λi H=>∃xs,d5 K H a xs/\xs.length<=i⟩
noncomputable def HY (lo:Int) (n:Nat):It:=⟨λi _=>i < n,λi H x H'=>H'=H/\x= .int (lo + i),λi _=>n<=i⟩
theorem ve {P:Program} {w:World} {K:PySem.W.Frag} {tg:Expr} (a it:Addr):Turn P w K tg (HW K a) [it] it (λi h=>h.IsListIter it a i) where
 mem:=by simp
 obj:=λi h st b hb=>by
  have e:b=it:=by simpa using hb
  subst e;obtain⟨o,e,c,d⟩:=st;exact⟨o,e,λv z=>by rw[d] at z;cases z⟩
 keep:=λi h h' st k=>st.at λo e=>k it (by simp) o e
 item:=by
  intro X hP hw hK hc i pins s σ H E I hf st hg;subst hP hw hK;obtain⟨xs,x,hq,hx⟩:=hg;obtain⟨its,rv,p,hz⟩:=I.list hq;obtain⟨u,hu,ru⟩:=rv.get hx;obtain⟨f0,f1,f2,f3,f4,f5⟩:=hf it (by simp);refine wpAny_pyNext_list_item st p.isList (x:=u) (by simpa using hu) λh' ah sb=>?_
  have I1:Inv X pins σ H {s with heap:=h'}:=I.turned (t':=s.toks) (λb o hb e=>(sb.2 b hb).trans e) f0 f1 f3 f4 f5;obtain⟨o,e,c,d⟩:=id ah;exact⟨u,rfl,wQ (s:={s with heap:=h'}) e c d (by decide) ⟨x,H,I1,ru,⟨rfl,λys hy=>by rw[I.xB hy hq];exact hx⟩,ah,λb hb=>(hf b hb).1⟩⟩
 done:=by intro X hP hw hK hc i pins s σ H E I hf st hg;subst hP hw hK;obtain⟨xs,hq,hx⟩:=hg;obtain⟨its,rv,p,hz⟩:=I.list hq;obtain⟨f0,f1,f2,f3,f4,f5⟩:=hf it (by simp);have hl:=rv.length;exact wpAny_pyNext_list_end (I.ok.hd hc) st p.isList (by simp;lia) λh' eb=>⟨rfl,I.turned (t':=s.toks) (λb o hb e=>eb b o hb e) f0 f1 f3 f4 f5⟩
 self:=λ_ _ _ _ _ st h=>wpAny_pyIter_listiter st h
theorem rJ {P:Program} {w:World} {K:PySem.W.Frag} {tg:Expr} (a it:Addr):Turn P w K tg (Jh K a) [it] it (λi h=>h.IsTupleIter it a i) where
 mem:=by simp
 obj:=λi h st b hb=>by
  have e:b=it:=by simpa using hb
  subst e;obtain⟨o,e,c,d⟩:=st;exact⟨o,e,λv z=>by rw[d] at z;cases z⟩
 keep:=λi h h' st k=>st.at λo e=>k it (by simp) o e
 item:=by
  intro X hP hw hK hc i pins s σ H E I hf st hg;subst hP hw hK;obtain⟨xs,x,hq,hx⟩:=hg;obtain⟨its,rv,p,hz⟩:=I.tuple hq;obtain⟨u,hu,ru⟩:=rv.get hx;obtain⟨f0,f1,f2,f3,f4,f5⟩:=hf it (by simp);refine wpAny_pyNext_tuple_item st (show s.heap.IsTuple a its.toArray from p) (x:=u) (by simpa using hu) λh' ah sb=>?_
  have I1:Inv X pins σ H {s with heap:=h'}:=I.turned (t':=s.toks) (λb o hb e=>(sb.2 b hb).trans e) f0 f1 f3 f4 f5;obtain⟨o,e,c,d⟩:=id ah;exact⟨u,rfl,wQ (s:={s with heap:=h'}) e c d (by decide) ⟨x,H,I1,ru,⟨rfl,λys hy=>by rw[I.vd hy hq];exact hx⟩,ah,λb hb=>(hf b hb).1⟩⟩
 done:=by intro X hP hw hK hc i pins s σ H E I hf st hg;subst hP hw hK;obtain⟨xs,hq,hx⟩:=hg;obtain⟨its,rv,p,hz⟩:=I.tuple hq;obtain⟨f0,f1,f2,f3,f4,f5⟩:=hf it (by simp);have hl:=rv.length;exact wpAny_pyNext_tuple_end (I.ok.hd hc) st (show s.heap.IsTuple a its.toArray from p) (by simp;lia) λh' eb=>⟨rfl,I.turned (t':=s.toks) (λb o hb e=>eb b o hb e) f0 f1 f3 f4 f5⟩
 self:=λ_ _ _ _ _ st h=>wpAny_pyIter_tupleiter st h
theorem rH {P:Program} {w:World} {K:PySem.W.Frag} {tg:Expr} (it:Addr) (lo:Int) (n:Nat):Turn P w K tg (HY lo n) [it] it (λi h=>IsRangeIter h it (lo + (i:Nat) * 1) ((n:Int) - (i:Nat)) 1) where
 mem:=by simp
 obj:=λi h st b hb=>by
  have e:b=it:=by simpa using hb
  subst e;exact⟨_,st,λv z=>by
   have z':Data.fields _=Data.cell v:=z;cases z'⟩
 keep:=λi h h' st k=>k it (by simp) _ st
 item:=by
  intro X hP hw hK hc i pins s σ H E I hf st hg;subst hP hw hK;obtain⟨f0,f1,f2,f3,f4,f5⟩:=hf it (by simp);have W:=Walks.range (prog:=X.prog) (w:=X.w) (I.ok.hd hc) it lo 1 n;refine W.item i s _ _ hg st λv h' tk hv ah kk=>?_
  obtain⟨t,rfl⟩:=hv;have I1:Inv X pins σ H {s with heap:=h',toks:=tk}:=I.turned (λb o hb e=>kk b o (by simpa using hb) e) f0 f1 f3 f4 f5;refine⟨_,rfl,wQ (s:={s with heap:=h',toks:=tk}) (n:="range_iterator") ah rfl rfl (by decide) ⟨.int (lo + i),H,I1,⟨t,?_⟩,⟨rfl,rfl⟩,ah,λb hb=>(hf b hb).1⟩⟩;rw[Int.mul_one]
 done:=by intro X hP hw hK hc i pins s σ H E I hf st hg;subst hP hw hK;obtain⟨f0,f1,f2,f3,f4,f5⟩:=hf it (by simp);exact wpAny_pyNext_range_end (I.ok.hd hc) st (by have:n<=i:=hg;lia) λh' eb=>⟨rfl,I.turned (t':=s.toks) (λb o hb e=>eb b o hb e) f0 f1 f3 f4 f5⟩
 self:=λ_ _ _ _ _ st h=>wpAny_pyIter_rangeiter st h
end L2
namespace L2
open PySem PySem.Spec PyProof.Rows
section
variable {X:Cx} {tg:Expr}
theorem yd {pins:List (Addr×Obj)} {σ:St} {H:Hp} {s:Shared} {R:It->Hp->Prop} {E:Value->Shared->Prop} {lo hi:Int} {t u v:Tok} {tk:Nat} (I:Inv X pins σ H s) (h1: -(2 ^ 62)<=lo) (h2:lo < 2 ^ 62) (h3: -(2 ^ 62)<=hi) (h4:hi < 2 ^ 62)
  (q:R (HY lo (hi - lo).toNat) H):wpAny (model X.prog X.w) X.A (pyIter (.ref s.heap.objs.size)) (LP X pins σ tg R) E {s with heap:=s.heap.push {cls:= .type "range",data:= .fields #[.int lo t,.int hi u,.int 1 v]},toks:=tk}:=by
 refine wpAny_pyIter_range (IsRange.new ..) (small_one h1 h2 h3 h4) ?_;have I1:Inv X pins σ H {s with heap:=s.heap.push {cls:= .type "range",data:= .fields #[.int lo t,.int hi u,.int 1 v]},toks:=tk}:=I.kept λb o e=>O5 _ e
 refine⟨(s.heap.push {cls:= .type "range",data:= .fields #[.int lo t,.int hi u,.int 1 v]}).objs.size,[(s.heap.push {cls:= .type "range",data:= .fields #[.int lo t,.int hi u,.int 1 v]}).objs.size],_,_,H,rfl,
  I1.kept (t':=tk) λb o e=>O5 _ e,rH _ lo (hi - lo).toNat,?_,λb hb=>?_,q⟩
 ·have e1:lo + ((0:Nat):Int) * 1=lo:=by simp
  have e2:(((hi - lo).toNat:Nat):Int) - ((0:Nat):Int)=Builtin.Range.rangeSize lo hi 1:=by rw[rangeSize_one];split <;> lia
  show IsRangeIter _ _ (lo + ((0:Nat):Int) * 1) ((((hi - lo).toNat:Nat):Int) - ((0:Nat):Int)) 1;rw[e1,e2];exact Pf _ rfl
 ·have e:b=(s.heap.push {cls:= .type "range",data:= .fields #[.int lo t,.int hi u,.int 1 v]}).objs.size:=by simpa using hb
  subst e;exact I1.qA (Pd _) (I1.hok.fresh (Pd _))
noncomputable def Gh (ta:TA):TI:=λσ H R=>ta σ H λvs H1=>∃j:Int,vs=[.int j]/\ -(2 ^ 62)<=j/\j < 2 ^ 62/\R (HY 0 j.toNat) H1
theorem uZ {a:Expr} {ta:TA} {p pos:Pos} (hg:Gl X "range") (hm:X.mg "range"=none) (ha:PA X [a] ta) (hs:starEach [a] X.env=[(false,eval a X.env)]:=by rfl):PI X tg (.Call (.Name "range" p) [a] [] pos) (Gh ta):=by
 intro pins s σ H R I h;refine Call_ (ej I hg hm boot_range (PyProof.Rows.callWith_type1 (bq (ha pos pins s σ H _ I h) λus s1 ⟨vs,H1,I1,r1,q1⟩=>?_) hs rfl));obtain⟨j,e,q1,q2,q⟩:=q1;subst e;cases r1 with
 | cons r rr=>cases rr;obtain⟨t,rfl⟩:=r;exact call_range_1 (yd I1 (by lia) (by lia) q1 q2 (by simpa using q))
noncomputable def Hu (wi:TI) (g:TG) (tb:TS):TS:=λD σ H=>wi σ H λJ H1=>∃W:Nat->Nat->St->Hp->Prop,(∃m,W 0 m σ H1)/\∀i m σ H,W i m σ H->
 (J.stop i H/\D.nx σ H)\/(J.go i H/\∃N:St->Hp->Prop,(∀σ' H',N σ' H'->∃m',m' < m/\W (i + 1) m' σ' H')/\∀x H',J.yld i H x H'->g x σ H' λσ2 H2=>tb {D with nx:=N,ct:=N,bk:=D.nx} σ2 H2)
noncomputable def ko (fp:List Addr) (h:Heap):List (Addr×Obj):=fp.filterMap λb=>(h.get? b).map λo=>(b,o)
theorem et {fp:List Addr} {h:Heap} {b:Addr} {o:Obj} (hb:b∈fp) (e:h.get? b=some o):(b,o)∈ko fp h:=List.mem_filterMap.mpr ⟨b,hb,by rw[e];rfl⟩
theorem uX {fp:List Addr} {h:Heap} {p:Addr×Obj} (hp:p∈ko fp h):p.1∈fp/\h.get? p.1=some p.2:=by
 obtain⟨b,hb,e⟩:=List.mem_filterMap.mp hp;cases q:h.get? b with
 | none=>rw[q] at e;cases e
 | some o=>rw[q] at e;have e':(b,o)=p:=Option.some.inj e;subst e';exact⟨hb,q⟩
theorem Inv.pinned {pins:List (Addr×Obj)} {σ:St} {H:Hp} {s:Shared} {fp:List Addr} (I:Inv X pins σ H s) (hf:∀b∈fp,gp X pins H b) (ho:∀b∈fp,∃o,s.heap.get? b=some o/\∀v,o.data≠ .cell v):Inv X (pins++ko fp s.heap) σ H s:=
 I.jG λp hp=>(Pv.mp hp).elim (λz=>I.pin p (PL _ z)) λz=>by obtain⟨hb,e⟩:=uX z;obtain⟨f0,f1,f2,_⟩:=hf p.1 hb;obtain⟨o,e',d⟩:=ho p.1 hb;rw[e] at e';cases e';exact⟨e,f0,f1,f2,d⟩
theorem Inv.iE {pins pl:List (Addr×Obj)} {σ:St} {H:Hp} {s:Shared} (I:Inv X (pins++pl) σ H s):Inv X pins σ H s:=I.jG λp hp=>I.pin p (PL _ (List.mem_append_left _ hp))
theorem DP {iter:Expr} {body:List Stmt} {wi:TI} {g:TG} {tb:TS} {pos:Pos} (hp:PassesOwn (model X.prog X.w) X.A X.env X.xe) (hc:X.calm=true) (hi:PI X tg iter wi) (hg:PG X tg g) (hb:uf X body tb)
  (hs:∀x,foldedSetIterable iter X.env x=pure x:=by intro _;rfl):PS X (.For tg iter body [] pos) (Hu wi g tb):=by
 intro pins s σ H D I h;refine wpAny_For (bq (hi pins s σ H _ I h) λv s1 h1=>bq h1 λn8 s2 h2=>?_) hs;obtain⟨it,fp,tn,J,H2,e,I2,T,dm,f2,W,⟨m0,w0⟩,turn⟩:=h2;subst e;have nM:∀{H':Hp},(∀b∈fp,H' b=none)->∀b∈fp,gp X pins H' b:=λhn b hb=>⟨hn b hb,(f2 b hb).2⟩
 refine codeAny_forLoop_any (λn s'=>∃i σ' H',Inv X pins σ' H' s'/\tn i s'.heap/\(∀b∈fp,H' b=none)/\W i n σ' H') ?_ m0 ⟨0,σ,H2,I2,dm,λb hb=>(f2 b hb).1,w0⟩;rintro n s3 ⟨i,σ3,H3,I3,EW,LV,w3⟩;rcases turn i n σ3 H3 w3 with ⟨stop,qn⟩ | ⟨go,N,hN,step⟩
 ·refine wpAny_passesOwn hp (bq (T.done X rfl rfl rfl hc i pins s3 σ3 H3 X.xe I3 (nM LV) EW stop) λr s4 ⟨hr,I4⟩=>?_);subst hr;exact wpAny_execs_nil ⟨σ3,H3,I4,qn⟩
 ·refine wpAny_passesOwn hp (bq (T.item X rfl rfl rfl hc i pins s3 σ3 H3 X.xe I3 (nM LV) EW go) λr s4 ⟨u,hr,h4⟩=>?_);subst hr;refine wpAny_passesOwn hp (bq h4 λ_ s5 ⟨x,H5,I5,r5,y5,Lq,JL⟩=>?_);have MY:=I5.pinned (nM JL) (T.obj _ _ Lq);refine wpAny_passesOwn hp (bq (hg _ s5 σ3 H5 x u _ MY r5 (step x H5 y5)) λ_ s6 ⟨σ6,H6,I6,q6⟩=>?_);refine wpAny_passesOwn hp (bq (hb _ s6 σ6 H6 _ I6 q6) λf s7 q7=>?_);have again:∀{σ7:St} {H7:Hp},Inv X (pins++ko fp s5.heap) σ7 H7 s7->N σ7 H7->∃m,m < n/\∃i σ' H',Inv X pins σ' H' s7/\tn i s7.heap/\(∀b∈fp,H' b=none)/\W i m σ' H':=λ {σ7 H7} I7 n7=>by obtain⟨m',hm,w7⟩:=hN σ7 H7 n7;refine⟨m',hm,i + 1,σ7,H7,I7.iE,T.keep _ _ _ Lq λb hb o e=>(I7.pin (b,o) (PL _ (PL _ (et hb e)))).1,λb hb=>?_,w7⟩;obtain⟨o,e,d⟩:=T.obj _ _ Lq b hb;exact(I7.pin (b,o) (PL _ (PL _ (et hb e)))).2.1
  cases f with
  | next=>obtain⟨σ7,H7,I7,n7⟩:=q7;exact again I7 n7
  | cont=>obtain⟨σ7,H7,I7,n7⟩:=q7;exact again I7 n7
  | brk=>obtain⟨σ7,H7,I7,q7⟩:=q7;exact⟨σ7,H7,I7.iE,q7⟩
  | ret v=>obtain⟨x7,σ7,H7,I7,r7,q7⟩:=q7;exact⟨x7,σ7,H7,I7.iE,r7,q7⟩
end
end L2
namespace L2
open PySem PySem.Spec PyProof.Rows
noncomputable abbrev R2:=V->V->Hp->VK->Prop
noncomputable def kS (X:Cx) (f:Value->Value->Sem Value) (r:R2):Prop:=
 ∀(pins:List (Addr×Obj)) (s:Shared) (σ:St) (H:Hp) (x y:V) (v u:Value) (Q:VK),Inv X pins σ H s->RelV x v->RelV y u->r x y H Q->
  wpAny (model X.prog X.w) X.A (f v u) (EP X pins σ Q) X.xe s
noncomputable def Jn (X:Cx) (f:Value->Sem Value) (r:V->Hp->VK->Prop):Prop:=
 ∀(pins:List (Addr×Obj)) (s:Shared) (σ:St) (H:Hp) (x:V) (v:Value) (Q:VK),Inv X pins σ H s->RelV x v->r x H Q->
  wpAny (model X.prog X.w) X.A (f v) (EP X pins σ Q) X.xe s
noncomputable def eR (X:Cx) (f:Value) (r:List V->Hp->VK->Prop):Prop:=
 ∀(pins:List (Addr×Obj)) (s:Shared) (σ:St) (H:Hp) (xs:List V) (us:List Value) (Q:VK),Inv X pins σ H s->ar xs us->r xs H Q->
  wpAny (model X.prog X.w) X.A (call f us) (EP X pins σ Q) X.xe s
noncomputable def Jm (X:Cx) (r:V->Hp->(Bool->Hp->Prop)->Prop):Prop:=
 ∀(pins:List (Addr×Obj)) (s:Shared) (σ:St) (H:Hp) (x:V) (v:Value) (Q:Bool->Hp->Prop),Inv X pins σ H s->RelV x v->r x H Q->
  wpAny (model X.prog X.w) X.A (truthy v) (TP X pins σ Q) X.xe s
noncomputable def IR (r:R2) (ta tb:TE):TE:=λσ H Q=>ta σ H λx H1=>tb σ H1 λy H2=>r x y H2 Q
noncomputable def Ov (r:V->Hp->VK->Prop) (ta:TE):TE:=λσ H Q=>ta σ H λx H1=>r x H1 Q
noncomputable def rI (C:Int->Int->Prop) (g:Int->Int->V):R2:=λx y H Q=>∃i j,x= .int i/\y= .int j/\C i j/\Q (g i j) H
noncomputable def BL (g:Int->Int->V):R2:=λx y H Q=>∃i j,x= .int i/\y= .int j/\Q (g i j) H
noncomputable def rU (g:Int->V):V->Hp->VK->Prop:=λx H Q=>∃i,x= .int i/\Q (g i) H
section
variable {X:Cx} {a b c:Expr} {ta tb tc:TE} {pos:Pos}
theorem Cd (ha:PE X a ta) (hb:PE X b tb) {pins:List (Addr×Obj)} {s:Shared} {σ:St} {H:Hp} {R:V->V->Hp->Prop} (I:Inv X pins σ H s)
  (h:ta σ H λx H1=>tb σ H1 λy H2=>R x y H2) {Q:Value->Shared->Prop} {f:Value->Value->Sem Value}
  (hf:∀v u s2 x y H2,Inv X pins σ H2 s2->RelV x v->RelV y u->R x y H2->wpAny (model X.prog X.w) X.A (f v u) Q X.xe s2):
  wpAny (model X.prog X.w) X.A (eval a X.env) (λv s₁=>wpAny (model X.prog X.w) X.A (eval b X.env) (λu s₂=>wpAny (model X.prog X.w) X.A (f v u) Q X.xe s₂) X.xe s₁) X.xe s:=by
 refine bq (ha pins s σ H _ I h) λv s1 ⟨x,H1,I1,r1,q1⟩=>?_
 refine bq (hb pins s1 σ H1 _ I1 q1) λu s2 ⟨y,H2,I2,r2,q2⟩=>?_
 exact hf v u s2 x y H2 I2 r1 r2 q2
theorem GU {op:Operator} {r:R2} (ho:kS X (binaryOp op) r) (ha:PE X a ta) (hb:PE X b tb):PE X (.BinOp a op b pos) (IR r ta tb):=by intro pins s σ H Q I h;exact wpAny_BinOp (Cd ha hb I h λv u s2 x y H2 I2 rx ry q=>ho pins s2 σ H2 x y v u Q I2 rx ry q)
theorem GW {op:UnaryOp} {r:V->Hp->VK->Prop} (ho:Jn X (unaryOp op) r) (ha:PE X a ta):PE X (.UnaryOp op a pos) (Ov r ta):=by intro pins s σ H Q I h;exact UnaryOp_ (bq (ha pins s σ H _ I h) λv s1 ⟨x,H1,I1,r1,q1⟩=>ho pins s1 σ H1 x v Q I1 r1 q1)
theorem GG {f:Value->Value->Sem Value} {C:Int->Int->Prop} {g:Int->Int->Int}
  (rule:∀(i j:Int) (t u:Tok) (s:Shared) (Q:Value->Shared->Prop) (E:Value->Shared->Prop),C i j->Q (.int (g i j) s.toks) {s with toks:=s.toks + 1}->wpAny (model X.prog X.w) X.A (f (.int i t) (.int j u)) Q E s):
  kS X f (rI C λi j=> .int (g i j)):=by
 intro pins s σ H x y v u Q I rx ry h;obtain⟨i,j,rfl,rfl,hc,q⟩:=h;obtain⟨t,rfl⟩:=rx;obtain⟨t',rfl⟩:=ry;exact rule i j t t' s _ _ hc ⟨.int (g i j),H,I.tok _,⟨_,rfl⟩,q⟩
theorem GI {f:Value->Value->Sem Value} {g:Int->Int->Int}
  (rule:∀(i j:Int) (t u:Tok) (s:Shared) (Q:Value->Shared->Prop) (E:Value->Shared->Prop),Q (.int (g i j) s.toks) {s with toks:=s.toks + 1}->wpAny (model X.prog X.w) X.A (f (.int i t) (.int j u)) Q E s):
  kS X f (BL λi j=> .int (g i j)):=by
 intro pins s σ H x y v u Q I rx ry h;obtain⟨i,j,rfl,rfl,q⟩:=h;obtain⟨t,rfl⟩:=rx;obtain⟨t',rfl⟩:=ry;exact rule i j t t' s _ _ ⟨.int (g i j),H,I.tok _,⟨_,rfl⟩,q⟩
theorem AA {f:Value->Value->Sem Value} {g:Int->Int->Bool}
  (rule:∀(i j:Int) (t u:Tok) (s:Shared) (Q:Value->Shared->Prop) (E:Value->Shared->Prop),Q (.bool (g i j)) s->wpAny (model X.prog X.w) X.A (f (.int i t) (.int j u)) Q E s):
  kS X f (BL λi j=> .bl (g i j)):=by
 intro pins s σ H x y v u Q I rx ry h;obtain⟨i,j,rfl,rfl,q⟩:=h;obtain⟨t,rfl⟩:=rx;obtain⟨t',rfl⟩:=ry;exact rule i j t t' s _ _ ⟨.bl (g i j),H,I,rfl,q⟩
noncomputable def Ja (i j:Int):Prop:=0 < j/\j < 1073741824
noncomputable def Jb (i j:Int):Prop:=0<=j/\j<=1000000/\i.natAbs < 2 ^ 64
noncomputable def BY (i j:Int):Prop:=(-(2 ^ 64) < i/\i < 2 ^ 64)\/(-(2 ^ 64) < j/\j < 2 ^ 64)
theorem BY.ok {i j:Int} (h:BY i j):IntMulOk i j:=by
 rcases h with ⟨h1,h2⟩ | ⟨h1,h2⟩
 ·exact .of_left (intBits_le_64 h1 h2)
 ·exact .of_right (intBits_le_64 h1 h2)
theorem Dq:kS X (binaryOp .Add) (BL λi j=> .int (i + j)):=GI λ_ _ _ _ _ _ _ q=>add_int q
theorem Dy:kS X (binaryOp .Sub) (BL λi j=> .int (i - j)):=GI λ_ _ _ _ _ _ _ q=>sub_int q
theorem Dw:kS X (binaryOp .Mult) (rI BY λi j=> .int (i * j)):=GG λ_ _ _ _ _ _ _ hc q=>mul_int q hc.ok
theorem IM:kS X (binaryOp .FloorDiv) (rI Ja λi j=> .int (i / j)):=GG λi j _ _ _ _ _ hc q=>by have h1:(0:Int) < j:=hc.1;have h2:j < 1073741824:=hc.2;exact floordiv_int (by lia) (by rw[Int.fdiv_eq_ediv_of_nonneg i (by lia)];exact q) (.inl (PyProof.noPylong_small (by lia)))
theorem Dv:kS X (binaryOp .Mod) (rI (λ_ j=>0 < j) λi j=> .int (i % j)):=GG λi j _ _ _ _ _ hc q=>by have h1:(0:Int) < j:=hc;exact mod_int' (by lia) (by rw[Int.fmod_eq_emod_of_nonneg i (by lia)];exact q)
theorem Dx:kS X (binaryOp .Pow) (rI Jb λi j=> .int (i ^ j.toNat)):=GG λ_ _ _ _ _ _ _ hc q=>pow_int_small hc.1 hc.2.1 hc.2.2 q
theorem Oz {f:Value->Sem Value} {g:Int->Int}
  (rule:∀(i:Int) (t:Tok) (s:Shared) (Q:Value->Shared->Prop) (E:Value->Shared->Prop),Q (.int (g i) s.toks) {s with toks:=s.toks + 1}->wpAny (model X.prog X.w) X.A (f (.int i t)) Q E s):
  Jn X f (rU λi=> .int (g i)):=by
 intro pins s σ H x v Q I rx h;obtain⟨i,rfl,q⟩:=h;obtain⟨t,rfl⟩:=rx;exact rule i t s _ _ ⟨.int (g i),H,I.tok _,⟨_,rfl⟩,q⟩
theorem Ep:Jn X (unaryOp .USub) (rU λi=> .int (-i)):=Oz λ_ _ _ _ _ q=>neg_int q
end
section
variable {X:Cx} {a b c:Expr} {ta tb tc:TE} {pos:Pos}
theorem GN:kS X (compareOp .Lt) (BL λi j=> .bl (decide (i < j))):=AA λ_ _ _ _ _ _ _ q=>lt_int q
theorem GM:kS X (compareOp .LtE) (BL λi j=> .bl (decide (i<=j))):=AA λ_ _ _ _ _ _ _ q=>le_int q
theorem GK:kS X (compareOp .Gt) (BL λi j=> .bl (decide (j < i))):=AA λ_ _ _ _ _ _ _ q=>gt_int q
theorem GJ:kS X (compareOp .GtE) (BL λi j=> .bl (decide (j<=i))):=AA λ_ _ _ _ _ _ _ q=>ge_int q
theorem AG {op:CmpOp} {r:R2} (ho:kS X (compareOp op) r) (ha:PE X a ta) (hb:PE X b tb) (hm:behindInMarks op b=false):PE X (.Compare a [op] [b] pos) (IR r ta tb):=by intro pins s σ H Q I h;exact wpAny_Compare1 (Cd ha hb I h λv u s2 x y H2 I2 rx ry q=>ho pins s2 σ H2 x y v u Q I2 rx ry q) hm
noncomputable def HB (t:TE):TT:=λσ H Q=>t σ H λx H'=>∃k,x= .bl k/\Q k H'
theorem AU {op:CmpOp} {r:R2} (ho:kS X (compareOp op) r) (ha:PE X a ta) (hb:PE X b tb) (hm:behindInMarks op b=false):PT X (.Compare a [op] [b] pos) (HB (IR r ta tb)):=by
 intro pins s σ H Q I h;refine wpAny_isTrue_Compare1 (bq (ha pins s σ H _ I h) λv s1 ⟨x,H1,I1,r1,q1⟩=>bq (hb pins s1 σ H1 _ I1 q1) λu s2 ⟨y,H2,I2,r2,q2⟩=>
  bq (ho pins s2 σ H2 x y v u _ I2 r1 r2 q2) λc s3 ⟨z,H3,I3,r3,k,e,q3⟩=>?_) hm
 subst e;cases r3;exact wpAny_truthy_bool ⟨H3,I3,q3⟩
noncomputable def E6 (K:PySem.W.Frag) (x:V) (H:Hp) (k:Bool):Prop:=
 match x with
 | .bg=>k=false
 | .bl b=>k=b
 | .int i=>k=(i != 0)
 | .str y=>y.length<=sizeLine/\k=((y.length:Int) != 0)
 | .Cg y=>y.size<=sizeLine/\k=((y.size:Int) != 0)
 | .ref p=>(∃xs,cT K H p xs/\k= !xs.isEmpty)\/(∃xs,d5 K H p xs/\k= !xs.isEmpty)\/∃eC,H p=some (.dK eC)/\k= !eC.isEmpty
 | _=>False
theorem qJ {κ:Type} {eC:List (κ×V)} {vs:List (κ×Value)} (r:KV eC vs):(!vs.isEmpty)= !eC.isEmpty:=by cases r <;> rfl
theorem j0 {xs:List V} {its:List Value} (r:ar xs its):(!its.toArray.isEmpty)= !xs.isEmpty:=by cases r <;> simp
theorem iR:(sizeLine:Nat) < 2 ^ 63:=by rw[sizeLine_eq];decide
theorem Eo:Jm X (λx H Q=>∃k,E6 X.K x H k/\Q k H):=by
 intro pins s σ H x v Q I rx h;obtain⟨k,e,q⟩:=h;have hl:=iR;have hs:sizeLine=16777216:=sizeLine_eq;cases x with
 | bg=>cases rx;have e':k=false:=e;subst e';exact truthy_none ⟨H,I,q⟩
 | bl b=>cases rx;have e':k=b:=e;subst e';exact wpAny_truthy_bool ⟨H,I,q⟩
 | int i=>obtain⟨t,rfl⟩:=rx;have e':k=(i != 0):=e;subst e';exact PySem.P.truthy_int ⟨H,I,q⟩
 | str y=>obtain⟨t,rfl⟩:=rx;obtain⟨hy,e'⟩:y.length<=sizeLine/\k=((y.length:Int) != 0):=e;subst e';exact PySem.P.truthy_str (by lia) ⟨H,I.tok _,q⟩
 | Cg y=>obtain⟨t,rfl⟩:=rx;obtain⟨hy,e'⟩:y.size<=sizeLine/\k=((y.size:Int) != 0):=e;subst e';exact PySem.W.truthy_bytes (by lia) ⟨H,I.tok _,q⟩
 | ref p=>
  cases rx;have e':(∃xs,cT X.K H p xs/\k= !xs.isEmpty)\/(∃xs,d5 X.K H p xs/\k= !xs.isEmpty)\/∃eC,H p=some (.dK eC)/\k= !eC.isEmpty:=e;rcases e' with ⟨xs,hx,e'⟩ | ⟨xs,hx,e'⟩ | ⟨eC,hx,e'⟩
  ·subst e';obtain⟨its,r,pl,hz⟩:=I.list hx;have hlen:=r.length;exact wpAny_truthy_list pl.isList (by simp only[O8];lia) ⟨H,I.tok _,by rw[j0 r];exact q⟩
  ·subst e';obtain⟨its,r,pl,hz⟩:=I.tuple hx;have hlen:=r.length;exact truthy_tuple pl (by simp only[O8];lia) ⟨H,I.tok _,by rw[j0 r];exact q⟩
  ·subst e';obtain⟨hz,hS,vs,r,m⟩:eC.length<=sizeLine/\(p==sysModules)=false/\∃vs,KV eC vs/\s.heap.DictOf (nh X.prog X.w) p vs:=I.hok p _ hx;have hlen:eC.length=vs.length:=Paired.length r;exact wpAny_truthy_dict hS m (by lia) ⟨H,I.tok _,by rw[qJ r];exact q⟩
 | _=>exact(show False from e).elim
theorem ya (ha:PE X a ta) (he:∀whole,isTrue a X.env whole=(do let v<-whole;standAt a.pos;holding [v] (truthy v))):
  PT X a (λσ H Q=>ta σ H λx H'=>∃k,E6 X.K x H' k/\Q k H'):=by
 intro pins s σ H Q I h;exact isTrue_plain (bq (ha pins s σ H _ I h) λv s1 ⟨x,H1,I1,r1,q1⟩=>Eo pins s1 σ H1 x v Q I1 r1 q1) (he _)
theorem qX:kS X (binaryOp .Add) (λx y H Q=>∃i j,x= .str i/\y= .str j/\i.length + j.length<=sizeLine/\Q (.str (i++j)) H):=by intro pins s σ H x y v u Q I rx ry h;obtain⟨i,j,rfl,rfl,hz,q⟩:=h;obtain⟨t,rfl⟩:=rx;obtain⟨t',rfl⟩:=ry;exact add_str (λt' tk=>⟨.str (i++j),H,I.tok _,⟨_,rfl⟩,q⟩) hz
theorem vals1 {x:V} {us:List Value} (r:ar [x] us):∃u,us=[u]/\RelV x u:=by
 cases r with
 | cons r1 r2=>cases r2;exact⟨_,rfl,r1⟩
noncomputable def Ji (K:PySem.W.Frag) (x:V) (H:Hp) (n:Nat):Prop:=
 match x with
 | .str y=>y.length<=sizeLine/\n=y.length
 | .Cg y=>y.size<=sizeLine/\n=y.size
 | .ref p=>(∃xs,cT K H p xs/\n=xs.length)\/∃xs,d5 K H p xs/\n=xs.length
 | _=>False
theorem gR:eR X (.builtin "len") (λxs H Q=>∃x n,xs=[x]/\Ji X.K x H n/\Q (.int n) H):=by
 intro pins s σ H xs us Q I r h;obtain⟨x,n,rfl,e,q⟩:=h;obtain⟨u,rfl,rx⟩:=vals1 r;have hl:=iR;have hs:sizeLine=16777216:=sizeLine_eq;cases x with
 | str y=>obtain⟨t,rfl⟩:=rx;obtain⟨hy,e'⟩:y.length<=sizeLine/\n=y.length:=e;subst e';exact len_str (by lia) ⟨.int _,H,I.tok _,⟨_,rfl⟩,q⟩
 | Cg y=>obtain⟨t,rfl⟩:=rx;obtain⟨hy,e'⟩:y.size<=sizeLine/\n=y.size:=e;subst e';exact PySem.W.len_bytes (by lia) ⟨.int _,H,I.tok _,⟨_,rfl⟩,q⟩
 | ref p=>
  cases rx;have e':(∃xs,cT X.K H p xs/\n=xs.length)\/∃xs,d5 X.K H p xs/\n=xs.length:=e;rcases e' with ⟨xs,hx,e'⟩ | ⟨xs,hx,e'⟩
  ·subst e';obtain⟨its,r',pl,hz⟩:=I.list hx;have hlen:=r'.length;exact Calls.call_len_list pl.isList (by simp only[O8];lia) ⟨.int xs.length,H,I.tok _,⟨_,by simp only[O8];rw[hlen]⟩,q⟩
  ·subst e';obtain⟨its,r',pl,hz⟩:=I.tuple hx;have hlen:=r'.length;exact len_tuple pl (by simp only[O8];lia) ⟨.int xs.length,H,I.tok _,⟨_,by simp only[O8];rw[hlen]⟩,q⟩
 | _=>exact(show False from e).elim
end
end L2
namespace L2
open PySem PySem.Spec PyProof.Rows
structure B2 (h:Heap) (x dx C:Addr) (mA:Str->Option Value):Prop where
 obj:h.get? x=some (PySem.W.instObj C dx)
 ns:h.Ns1 dx mA
 ne:dx≠x
theorem uO {h:Heap} {dx:Addr} {mA:Str->Option Value} (n:h.Ns1 dx mA):∃od,h.get? dx=some od/\∀name,PySem.W.lookIn name od=some (mA name):=by
 obtain⟨o,es,ep,ho,hd,hk,_,hm⟩:=n;refine⟨o,ho,λname=>?_⟩;have e:=hm name;unfold nsFind findBy at e;rw[<-Array.find?_toList] at e;unfold PySem.W.lookIn;rw[hd];dsimp only;split
 ·rename_i y q;rw[q] at e;exact congrArg some e
 ·rename_i q;rw[q] at e;have a:es.toList.any (·.refKey)=false:=by rw[List.any_eq_false];intro y hy;obtain⟨z,t,zX⟩:=hk y (Array.mem_toList_iff.mp hy);simp[DictEntry.refKey,zX]
  have a':¬es.toList.any (·.refKey)=true:=by rw[a];exact Bool.false_ne_true
  rw[if_neg a'];exact congrArg some e
theorem B2.look {h:Heap} {x dx C:Addr} {mA:Str->Option Value} (I:B2 h x dx C mA):∃od,PySem.W.InstAt h x (PySem.W.instObj C dx) C (some od)/\∀name,PySem.W.lookIn name od=some (mA name):=
 let ⟨od,ho,hl⟩:=uO I.ns
 ⟨od,⟨I.obj,rfl,rfl,ho⟩,hl⟩
section
variable {P:Program} {w:World} {H H':Hp} {h h':Heap} {a C dx:Addr} {fs JM:List (Str×V)}
theorem Ag (hok:d4 P w H h) (e:H a=some (.ins C dx fs)):∃mA,B2 h a dx C mA/\(∀f,B4 (fs.lookup f) (mA f))/\PySem.Within mA (fs.map (·.1))/\fs.length<=1000/\H dx=some (.own a):=by obtain⟨d,z,ne,ob,mA,n,r,q⟩:=(show bF P w H h a (.ins C dx fs) from hok a _ e);exact⟨mA,⟨ob,n,ne⟩,r,q,z,d⟩
end
structure Jc (K:PySem.W.Frag) (C:Addr):Prop where
 pg:PySem.W.plainGet K C Str.empty=true
 hd:PySem.W.hasDictIn K C=true
 po:PySem.W.plainOver K C=true
 sa:PySem.W.findIn K (.ref C) "__setattr__"=some (some (.builtin "object.__setattr__"))
theorem Jc.get {K:PySem.W.Frag} {C:Addr} (c:Jc K C) (f:Str):PySem.W.plainGet K C f=true:=c.pg
section
variable {X:Cx} {pins:List (Addr×Obj)} {σ:St} {H:Hp} {s:Shared} {A:Around} {E:Value->Shared->Prop} {Q:Value->Shared->Prop} {c:Value} {b:Bool}
inductive gP (K:PySem.W.Frag) (H:Hp):V->Value->Prop where
 | bg:gP K H .bg (.type "NoneType")
 | bl (x:Bool):gP K H (.bl x) (.type "bool")
 | int (i:Int):gP K H (.int i) (.type "int")
 | str (x:Str):gP K H (.str x) (.type "str")
 | y8 (x:UInt64):gP K H (.y8 x) (.type "float")
 | lst {a:Addr} {xs:List V} (e:H a=some (.lst xs)):gP K H (.ref a) (.type "list")
 | sI {a:Addr} {o:Obj} {xs:List V} (e:H a=some (.sI o (.lst xs))):gP K H (.ref a) (.type "list")
 | tup {a:Addr} {xs:List V} (e:H a=some (.tup xs)):gP K H (.ref a) (.type "tuple")
 | dK {a:Addr} {eC:List (Key×V)} (e:H a=some (.dK eC)):gP K H (.ref a) (.type "dict")
 | dT {a:Addr} {eC:List (List Key×V)} (e:H a=some (.dT eC)):gP K H (.ref a) (.type "dict")
 | ins {a C dx:Addr} {fs:List (Str×V)} (e:H a=some (.ins C dx fs)) (cl:Jc K C) (ha:PySem.W.findIn K (.ref C) "__class__"=some (some (.builtin "object.__class__")))
   (hn:PySem.W.specialIn K (.builtin "object.__class__") "__get__"=some (some (.builtin "getset_descriptor.__get__"))) (Ms:PySem.W.takesIn K (.builtin "object.__class__")=some true)
   (hm:PySem.W.mroIn K C (.type "object")=some true):gP K H (.ref a) (.ref C)
theorem uL {x:V} {u t:Value} (I:Inv X pins σ H s) (rx:RelV x u) (ty:gP X.K H x t) (e:PySem.W.kitOne X.K t c=some b) (h:∀tk,Q (.bool b) {s with toks:=tk}):
  wpAny (model X.prog X.w) A (call (.builtin "isinstance") [u,c]) Q E s:=by
 cases ty with
 | bg=>cases (show u=Value.none from rx);exact PySem.W.kia_one PySem.W.kitx_none I.oR True.intro e (λz=>nomatch z) h
 | bl y=>cases (show u=Value.bool y from rx);exact PySem.W.kia_one PySem.W.kitx_bool I.oR True.intro e (λz=>nomatch z) h
 | int i=>obtain⟨t,q⟩:=(show∃t,u=Value.int i t from rx);cases q;exact PySem.W.kia_one PySem.W.kitx_int I.oR True.intro e (λz=>nomatch z) h
 | str y=>obtain⟨t,q⟩:=(show∃t,u=Value.str y t from rx);cases q;exact PySem.W.kia_one PySem.W.kitx_str I.oR True.intro e (λz=>nomatch z) h
 | y8 y=>obtain⟨t,q⟩:=(show∃t,u=Value.float y t from rx);cases q;exact PySem.W.kia_one PySem.W.kitx_float I.oR True.intro e (λz=>nomatch z) h
 | @lst a xs ea=>cases (show u=Value.ref a from rx);obtain⟨_,_,n,_,h1⟩:=(show bF X.prog X.w H s.heap a (.lst xs) from I.hok a _ ea);exact PySem.W.kia_one PySem.W.kitx_list I.oR ⟨_,h1,rfl⟩ e (λz=>nomatch z) h
 | @sI a ob xs ea=>cases (show u=Value.ref a from rx);obtain⟨_,_,_,n,_,h1⟩:=(show bF X.prog X.w H s.heap a (.sI ob (.lst xs)) from I.hok a _ ea);exact PySem.W.kia_one PySem.W.kitx_list I.oR ⟨_,h1,rfl⟩ e (λz=>nomatch z) h
 | @tup a xs ea=>cases (show u=Value.ref a from rx);obtain⟨_,_,_,p⟩:=(show bF X.prog X.w H s.heap a (.tup xs) from I.hok a _ ea);obtain⟨o,h1,h2,_⟩:=p;exact PySem.W.kia_one PySem.W.kitx_tuple I.oR ⟨o,h1,h2⟩ e (λz=>nomatch z) h
 | @dK a eC ea=>cases (show u=Value.ref a from rx);obtain⟨_,_,vs,_,p⟩:=(show bF X.prog X.w H s.heap a (.dK eC) from I.hok a _ ea);obtain⟨o,es,ep,h1,h2,_⟩:=p;exact PySem.W.kia_one PySem.W.kitx_dict I.oR ⟨o,h1,h2.1⟩ e (λz=>nomatch z) h
 | @dT a eC ea=>cases (show u=Value.ref a from rx);obtain⟨_,_,xs,_,o,es,ep,h1,h2,_⟩:=(show bF X.prog X.w H s.heap a (.dT eC) from I.hok a _ ea);exact PySem.W.kia_one PySem.W.kitx_dict I.oR ⟨o,h1,h2.1⟩ e (λz=>nomatch z) h
 | @ins a C dx fs ea cl ha hn Ms hm=>cases (show u=Value.ref a from rx);obtain⟨mA,O,_⟩:=Ag I.hok ea;obtain⟨od,J,_⟩:=O.look;exact PySem.W.kia_one (PySem.W.kitx_own (cl.get _) cl.hd ha hn Ms hm) I.oR J e (λz=>nomatch z) h
end
end L2
namespace L2
open PySem PySem.Spec PyProof.Rows
structure gM (k:Nat) (A:Around):Prop where
 hd:A.handled=none
 dp:A.depth + 3 * k + 5 < recursionLimit
 un:A.units + 16 * k + 200 < cLine
theorem gM.deeper {k:Nat} {A:Around} (r:gM (k + 1) A) (env:Env):gM k (A.deeper env):=
 ⟨r.hd,by have:=r.dp;show A.depth + 1 + 3 * k + 5 < _;lia,by have:=r.un;show A.units + 3 + 16 * k + 200 < _;lia⟩
theorem gM.depth {k:Nat} {A:Around} (r:gM k A):A.depth < recursionLimit:=by have:=r.dp;lia
noncomputable def yA:TA:=λ_ H Q=>Q [] H
noncomputable def pK (ta:TE) (tr:TA):TA:=λσ H Q=>ta σ H λx H1=>tr σ H1 λxs H2=>Q (x::xs) H2
section
variable {X:Cx} {e:Expr} {es:List Expr} {te:TE} {t:TA} {pos:Pos}
theorem fz:PA X [] yA:=λ_ _ _ _ H Q I h=>Calls.spliced_nil ⟨[],H,I,.nil,h⟩
theorem cG (ha:PE X e te) (hr:PA X es t) (hs:starEach (e::es) X.env=(false,eval e X.env)::starEach es X.env:=by rfl):PA X (e::es) (pK te t):=by intro pos pins s σ H Q I h;rw[hs];show wpAny _ _ (spliced ((false,eval e X.env)::backTo pos (starEach es X.env))) _ _ s;refine Calls.spliced_cons (bq (ha pins s σ H _ I h) λu s1 ⟨x,H1,I1,r1,q1⟩=>?_);exact bq (hr pos pins s1 σ H1 _ I1 q1) λus s2 ⟨xs,H2,I2,r2,q2⟩=>⟨x::xs,H2,I2,.cons r1 r2,q2⟩
noncomputable def Ly (t:TA):TE:=λσ H Q=>t σ H λxs H1=>xs.length<=sizeLine/\∀p,H1 p=none->Q (.ref p) (upd H1 p (.tup xs))
noncomputable def Lv (t:TA):TE:=λσ H Q=>t σ H λxs H1=>xs.length<=sizeLine/\∀p,H1 p=none->Q (.ref p) (upd H1 p (.lst xs))
theorem DI {x1} (h:PA X es t):PE X (.Tuple es x1 pos) (Ly t):=by intro pins s σ H Q I hq;refine wpAny_Tuple_spliced (bq (h pos pins s σ H _ I hq) λus s1 ⟨xs,H1,I1,r,z,q⟩=>⟨by rw[<-r.length];exact z,?_⟩);have hf:H1 s1.heap.objs.size=none:=I1.hok.fresh (Pd _);refine⟨.ref s1.heap.objs.size,upd H1 s1.heap.objs.size (.tup xs),I1.laid (t':=s1.toks) (λb u e=>O5 _ e) (Pd _) ?_,rfl,q _ hf⟩;exact⟨z,us,r,⟨_,Pf _ rfl,rfl,_,rfl⟩⟩
theorem DD (h:PA X es t):PE X (.List es pos) (Lv t):=by intro pins s σ H Q I hq;refine wpAny_List_spliced (bq (h pos pins s σ H _ I hq) λus s1 ⟨xs,H1,I1,r,z,q⟩=>⟨by rw[<-r.length];exact z,?_⟩);have hf:H1 s1.heap.objs.size=none:=I1.hok.fresh (Pd _);refine⟨.ref s1.heap.objs.size,upd H1 s1.heap.objs.size (.lst xs),I1.laid (t':=s1.toks) (λb u e=>O5 _ e) (Pd _) ?_,rfl,q _ hf⟩;exact⟨z,us,0,r,Pf _ rfl⟩
end
noncomputable abbrev Sp:=List V->Hp->VK->XK->Prop
noncomputable abbrev jm:=List Env->Hp->Shared->XK->Value->Shared->Prop
structure zl (P:Program) (w:World) (K:PySem.W.Frag) (mg:Str->Option Value) (base:Heap) (A:Around) (outer:List Env) (s:Shared) (H:Hp):Prop where
 frames:A.frames=some outer
 mod:Mod K mg base
 bs:∀b o,base.get? b=some o->s.heap.get? b=some o/\H b=none
 zA:base.objs.size<=s.heap.objs.size
 jf:s.heap.FunFrames base outer
 Cy:∀b∈eI outer,H b=none
 hok:d4 P w H s.heap
 bare:AllBare s.gens
noncomputable def CE (outer:List Env) (P:Program) (w:World) (H:Hp) (s:Shared) (Q:VK) (u:Value) (s':Shared):Prop:=
 ∃v H',s'.os=s.os/\AllBare s'.gens/\Un (eI outer) [] H H' s.heap s'.heap/\d4 P w H' s'.heap/\RelV v u/\Q v H'
noncomputable def CR (CX:jm) (outer:List Env) (P:Program) (w:World) (H:Hp) (s:Shared) (Q:VK) (E:XK) (r:Result) (s':Shared):Prop:=
 match r with
 | .ok (.ret u)=>CE outer P w H s Q u s'
 | .ok _=>False
 | .error e=>CX outer H s E e s'
structure iH (P:Program) (w:World) (K:PySem.W.Frag) (mg:Str->Option Value) (base:Heap) (CX:jm) (k:Nat) (f:Addr) (fd:FuncData) (ps:List Str) (sp:Sp):Prop where
 len:∀vs H Q E,sp vs H Q E->vs.length=ps.length
 run:∀(A:Around) (outer:List Env) (s:Shared) (H:Hp) (args:Args) (us:List Value) (vs:List V) (Q:VK) (E:XK),gM k A->zl P w K mg base A outer s H->BindsTo s fd args (ps.zip us)->ar vs us->sp vs H Q E->
  codeAny (model P w) A (.call (.ref f) args) (CR CX outer P w H s Q E) s
theorem iH.imp {P:Program} {w:World} {K:PySem.W.Frag} {mg:Str->Option Value} {base:Heap} {CX:jm} {k:Nat} {f:Addr} {fd:FuncData} {ps:List Str} {sp MJ:Sp} (F:iH P w K mg base CX k f fd ps sp)
  (h:∀vs H Q E,MJ vs H Q E->sp vs H Q E):iH P w K mg base CX k f fd ps MJ:=
 ⟨λvs H Q E q=>F.len vs H Q E (h _ _ _ _ q),λA outer s H args us vs Q E hr he hb hv hs=>F.run A outer s H args us vs Q E hr he hb hv (h _ _ _ _ hs)⟩
section
variable {X:Cx} {pins:List (Addr×Obj)} {σ:St} {H:Hp} {s s':Shared}
theorem Inv.fU (I:Inv X pins σ H s):zl X.prog X.w X.K X.mg X.base X.A X.stack s H:=
 ⟨I.ok.frames,I.ok.mod,I.bs,Pj I.ok.zA I.sz,I.stack,I.nN,I.hok,I.bare⟩
theorem Inv.after {Q:VK} {u:Value} (I:Inv X pins σ H s) (h:CE X.stack X.prog X.w H s Q u s'):EP X pins σ Q u s':=by obtain⟨v,H',os,bare,un,hok,r,q⟩:=h;obtain⟨hh,g,d,t,GO⟩:=s';obtain rfl:GO=s.os:=os;exact⟨v,H',I.call (h':=hh) (g':=g) (d':=d) (t':=t) (ch:=[]) un hok bare (λb z=>absurd z (by simp)),r,q⟩
end
noncomputable def Ht (sp:Sp) (uw:List V) (E:XK) (t:TA):TE:=λσ H Q=>t σ H λvs H1=>sp (vs++uw) H1 Q E
noncomputable def Binds (K:PySem.W.Frag) (fd:FuncData) (ps:List Str) (ds:List Value):Prop:=
 ∀(s:Shared) (us:List Value),K.In s.heap->(us++ds).length=ps.length->BindsTo s fd ⟨us,[]⟩ (ps.zip (us++ds))
theorem Binds.all {K:PySem.W.Frag} {fd:FuncData} {ps:List Str} (h:∀us:List Value,us.length=ps.length->bindArgs fd ⟨us,[]⟩=pure (ps.zip us)):Binds K fd ps []:=λs us _ hl=>by rw[PX] at hl ⊢;exact .of_eq (h us hl)
noncomputable def p9 (CX:jm) (X:Cx) (E:XK):Prop:=∀(pins:List (Addr×Obj)) (σ:St) (H:Hp) (s:Shared) (e:Value) (s':Shared),Inv X pins σ H s->CX X.stack H s E e s'->X.xe e s'
section
variable {X:Cx} {CX:jm} {k:Nat} {f C:Addr} {fd:FuncData} {ps:List Str} {sp:Sp} {uw:List V} {ds:List Value} {E:XK} {x m:Str} {p pos apos:Pos} {e o:Expr} {es:List Expr} {ta:TE} {t:TA}
theorem DZ {pins:List (Addr×Obj)} {σ:St} {H:Hp} {s:Shared} {Q:VK} {us:List Value} {vs:List V} (F:iH X.prog X.w X.K X.mg X.base CX k f fd ps sp) (hr:gM k X.A) (hb:Binds X.K fd ps ds) (hd:ar uw ds) (hx:p9 CX X E)
  (I:Inv X pins σ H s) (r:ar vs us) (h:sp (vs++uw) H Q E):wpAny (model X.prog X.w) X.A (call (.ref f) us) (EP X pins σ Q) X.xe s:=by
 have r2:ar (vs++uw) (us++ds):=r.append hd;have hl:(us++ds).length=ps.length:=by rw[<-r2.length];exact F.len _ _ _ _ h
 refine wpAny_call (codeAny_mono (F.run X.A X.stack s H ⟨us,[]⟩ (us++ds) (vs++uw) Q E hr I.fU (hb s us I.oR hl) r2 h) λr s' hq=>?_);cases r with
 | error e=>exact hx pins σ H s e s' I hq
 | ok fl=>
  cases fl with
  | ret u=>exact I.after hq
  | next=>exact False.elim hq
  | brk=>exact False.elim hq
  | cont=>exact False.elim hq
theorem AF (F:iH X.prog X.w X.K X.mg X.base CX k f fd ps sp) (hr:gM k X.A) (hg:Gl X x) (hm:X.mg x=some (.ref f)) (hk:PySem.W.keepIn X.K (.ref f)=true) (hb:Binds X.K fd ps ds) (hd:ar uw ds) (hx:p9 CX X E)
  (ha:PA X (e::es) t) (zT:(x==("__debug__":Str))=false:=by decide) (he:starEach (e::es) X.env=(false,eval e X.env)::starEach es X.env:=by rfl) (gz:(backTo pos (starEach es X.env)).any (·.1)=false:=by rfl):
  PE X (.Call (.Name x p) (e::es) [] pos) (Ht sp uw E t):=by
 intro pins s σ H Q I h;refine wpAny_Call_Name_kw (tf I hg hm ?_ zT);refine PySem.W.callWith_K (h₀:=X.base) I.ok.mod.KC hk (bq (ha pos pins s σ H _ I h) λus s1 ⟨vs,H1,I1,r,q⟩=>⟨I1.oR,?_⟩) he gz;exact DZ F hr hb hd hx I1 r q
end
noncomputable def PK (X:Cx) (Gr:List Keyword) (t:TA):Prop:=
 ∀(pos:Pos) (pins:List (Addr×Obj)) (s:Shared) (σ:St) (H:Hp) (Q:List V->Hp->Prop),Inv X pins σ H s->t σ H Q->wpAny (model X.prog X.w) X.A (evalAll ((backToKw pos (keywordEach Gr X.env)).map (·.2))) (AP X pins σ Q) X.xe s
section
variable {X:Cx} {CX:jm} {k:Nat} {f C:Addr} {fd:FuncData} {ps ks:List Str} {sp:Sp} {E:XK} {x m:Str} {p pos apos KD:Pos} {e o:Expr} {es:List Expr} {Gr:List Keyword} {te ta:TE} {t tk:TA} {nm:Option Str}
theorem DM:PK X [] yA:=λ_ _ _ _ H Q I h=>wpAny_evalAll_nil ⟨[],H,I,.nil,h⟩
theorem AN (ha:PE X e te) (hr:PK X Gr t):PK X (⟨nm,e,KD⟩::Gr) (pK te t):=by intro pos pins s σ H Q I h;show wpAny _ _ (evalAll ((do let v<-eval e X.env;standAt pos;pure v)::(backToKw pos (keywordEach Gr X.env)).map (·.2))) _ _ s;refine wpAny_evalAll_cons (O3 (bq (ha pins s σ H _ I h) λu s1 ⟨x,H1,I1,r1,q1⟩=>O3 (wpAny_standAt (O6 ?_))));exact bq (hr pos pins s1 σ H1 _ I1 q1) λus s2 ⟨xs,H2,I2,r2,q2⟩=>⟨x::xs,H2,I2,.cons r1 r2,q2⟩
variable {g:List Value->List Value->List Value} {gV:List V->List V->List V}
end
structure dZ (N P:List Str) (sc:Scope):Prop where
 kind:sc.kind= .function
 co:sc.isCoroutine=false
 gen:sc.isGenerator=false
 nd:N.Nodup
 pre:N.take P.length=P
 par:∀x∈P,sc.names.lookup x=some .local\/sc.names.lookup x=some .cell
 Dk:∀y∈sc.names,y.2≠ .free
theorem lB {kindOf:Str->Option NameKind} {x:Str}:∀{binds:List (Str×Value)} {m:Str->Option Value},(∀v,(x,v)∉binds)->bindL kindOf binds m x=m x
 | [],_,_=>rfl
 | (n,v)::r,m,h=>by
  unfold bindL;rw[lB λw hw=>h w (Pb _ hw)];split
  ·have:x≠n:=by rintro rfl;exact h v Pe
   simp[this]
  ·rfl
theorem lz {kindOf:Str->Option NameKind} {x:Str}:∀{binds:List (Str×Value)} {m:Str->Option Value},(∀v,(x,v)∉binds)->bindC kindOf binds m x=m x
 | [],_,_=>rfl
 | (n,v)::r,m,h=>by
  unfold bindC;rw[lz λw hw=>h w (Pb _ hw)];split
  ·rfl
  ·have:x≠n:=by rintro rfl;exact h v Pe
   simp[this]
theorem lA {kindOf:Str->Option NameKind} {x:Str} {v:Value}:∀{P:List Str} {vs:List Value} {i:Nat} {m:Str->Option Value},P.Nodup->P[i]?=some x->vs[i]?=some v->kindOf x=some .local->
  bindL kindOf (P.zip vs) m x=some v
 | [],_,_,_,_,h,_,_=>by simp at h
 | _::_,[],_,_,_,_,h,_=>by simp at h
 | p::P,w::vs,0,m,nd,h1,h2,hk=>by simp at h1 h2;subst h1;subst h2;show bindL kindOf ((p,w)::P.zip vs) m p=_;unfold bindL;rw[lB λv hv=>(List.nodup_cons.mp nd).1 (List.of_mem_zip hv).1,if_pos hk];simp
 | p::P,w::vs,i + 1,m,nd,h1,h2,hk=>by show bindL kindOf ((p,w)::P.zip vs) m x=_;unfold bindL;exact lA (i:=i) (List.nodup_cons.mp nd).2 (by simpa using h1) (by simpa using h2) hk
theorem lu {kindOf:Str->Option NameKind} {x:Str} {v:Value}:∀{P:List Str} {vs:List Value} {i:Nat} {m:Str->Option Value},P.Nodup->P[i]?=some x->vs[i]?=some v->kindOf x≠some .local->
  bindC kindOf (P.zip vs) m x=some v
 | [],_,_,_,_,h,_,_=>by simp at h
 | _::_,[],_,_,_,_,h,_=>by simp at h
 | p::P,w::vs,0,m,nd,h1,h2,hk=>by simp at h1 h2;subst h1;subst h2;show bindC kindOf ((p,w)::P.zip vs) m p=_;unfold bindC;rw[lz λv hv=>(List.nodup_cons.mp nd).1 (List.of_mem_zip hv).1,if_neg hk];simp
 | p::P,w::vs,i + 1,m,nd,h1,h2,hk=>by show bindC kindOf ((p,w)::P.zip vs) m x=_;unfold bindC;exact lu (i:=i) (List.nodup_cons.mp nd).2 (by simpa using h1) (by simpa using h2) hk
noncomputable def start (N:List Str) (vs:List V):St:=vs.map some++List.replicate (N.length - vs.length) none
noncomputable def jR (CX:jm) (P:Program) (w:World) (K:PySem.W.Frag) (mg:Str->Option Value) (base:Heap) (N:List Str) (qual:Str) (scope:Scope) (f:Addr) (cd:Value) (A:Around) (outer:List Env) (s:Shared) (H:Hp) (E:XK):Cx where
 prog:=P
 w:=w
 K:=K
 mg:=mg
 base:=base
 A:=A.deeper (envOfC qual scope s.heap.objs.size f cd)
 N:=N
 s₀:=s
 H₀:=H
 env:=envOfC qual scope s.heap.objs.size f cd
 outer:=outer
 stack:=envOfC qual scope s.heap.objs.size f cd::outer
 ex:=[]
 calm:=true
 fn:=λ_=>true
 pn:=[]
 xe:=λe s'=>wpAny (model P w) (A.deeper (envOfC qual scope s.heap.objs.size f cd)) (leaving (envOfC qual scope s.heap.objs.size f cd) e) (λ_ s''=>CX outer H s E e s'') (λe' s''=>CX outer H s E e' s'') s'
theorem oC {sc:Scope} {n:Nat} {x:Str} (h:sc.names.lookup x=some .cell):∃c,(cellsFrom n sc.names []).lookup x=some c:=by have q:=PySem.W.cellsFrom_some sc.names n [] (.inl h);exact Option.isSome_iff_exists.mp q
theorem uJ {CX:jm} {P:Program} {w:World} {K:PySem.W.Frag} {mg:Str->Option Value} {base:Heap} {N ps:List Str} {qual:Str} {scope:Scope} {f:Addr} {cd:Value} {A:Around} {outer:List Env} {s s1:Shared} {H:Hp} {E:XK} {us:List Value} {vs:List V}
  (S:dZ N ps scope) (hd:A.handled=none) (e0:zl P w K mg base A outer s H) (hl:vs.length=ps.length) (r:ar vs us)
  (x:InCallC s s.heap.objs.size (bindL (envOfC qual scope s.heap.objs.size f cd).kindOf (ps.zip us) λ_=>none) (cellsFrom (s.heap.objs.size + 1) scope.names []) (bindC (envOfC qual scope s.heap.objs.size f cd).kindOf (ps.zip us) λ_=>none) s1):
  Inv (jR CX P w K mg base N qual scope f cd A outer s H E) [] (start N vs) H s1:=by
 have gz:ps.length<=N.length:=by have:=congrArg List.length S.pre;rw[List.length_take] at this;lia
 obtain⟨h1,tk,rfl,hk⟩:=x.done;have GC:∀b:Addr,b∉(jR CX P w K mg base N qual scope f cd A outer s H E).ex:=λb z=>absurd (show b∈([]:List Addr) from z) (by simp)
 refine⟨⟨e0.mod,S.kind,rfl,rfl,Pd _,λy z c h1 h2=>?_,λy hy=>?_,λy c _ h=>?_,λ_=>hd,Around.frames_deeper e0.frames,.inr ⟨rfl,rfl⟩,λb z=>absurd z (GC b),e0.bs,e0.zA,λb _ _=>GC b,λb z=>absurd z (GC b),e0.jf,e0.Cy⟩,
  rfl,e0.bare,Un.kept hk,⟨_,x.toInCall.ns,λi y v h1 h2 h3=>?_⟩,λy c h=>⟨_,x.cell y c h⟩,e0.hok.fresh (Pd _),λy c h=>?_,λp hp=>absurd (show p∈([]:List (Addr×Obj)) from hp) (by simp),e0.hok.kept hk,?_⟩
 ·exact name_of_addr x.apart (PySem.mem_of_lookup h1) (PySem.mem_of_lookup h2)
 ·have hy:scope.names.lookup y=some .cell\/scope.names.lookup y=some .free:=hy;rcases hy with hy | hy
  ·exact oC hy
  ·exact absurd rfl (S.Dk _ (PySem.mem_of_lookup hy))
 ·exact Nat.le_of_lt (x.above y c (PySem.mem_of_lookup h))
 ·have hi:i < vs.length:=by
   unfold start at h2;by_cases hi:i < vs.length
   ·exact hi
   ·rw[P0 (by simpa using hi)] at h2;rw[List.getElem?_replicate] at h2;split at h2 <;> cases h2
  have ha:vs[i]?=some v:=by
   unfold start at h2;rw[PZ (by simpa using hi),Pr] at h2;cases e:vs[i]? with
   | none=>rw[e] at h2;cases h2
   | some a=>rw[e] at h2;cases h2;rfl
  obtain⟨u,hu,rv⟩:=r.get ha;have hp:ps[i]?=some y:=by rw[<-S.pre,List.getElem?_take_of_lt (by lia)];exact h1
  have MB:ps.Nodup:=by rw[<-S.pre];exact S.nd.sublist (List.take_sublist _ _)
  refine⟨u,rv,?_⟩;rcases S.par y (List.mem_of_getElem? hp) with k | k
  ·exact .inl ⟨k,lA MB hp hu k⟩
  ·obtain⟨c,e⟩:=oC (n:=s.heap.objs.size + 1) k;refine .inr ⟨.inl k,c,e,?_⟩;have q:=x.cell y c e;rw[lu MB hp hu (by show scope.names.lookup y≠_;rw[k];decide)] at q;exact q
 ·exact e0.hok.fresh (Nat.le_of_lt (x.above y c (PySem.mem_of_lookup h)))
 ·unfold start;show _=N.length;rw[Po,Ph,List.length_replicate]
  lia
end L2
namespace L2
open PySem PySem.Spec PyProof.Rows
section
variable {X:Cx} {x:Str} {p pos:Pos} {e:Expr} {es:List Expr} {t:TA} {id T:String} {r:List V->Hp->VK->Prop}
noncomputable def Hs (r:List V->Hp->VK->Prop) (t:TA):TE:=λσ H Q=>t σ H λvs H1=>r vs H1 Q
theorem pf (hc:eR X (.builtin id) r) (hg:Gl X x) (hm:X.mg x=none) (hv:bootBuiltins x=some (.builtin id)) (ha:PA X (e::es) t) (hn:x≠"__name__":=by decide) (zT:(x==("__debug__":Str))=false:=by decide)
  (he:starEach (e::es) X.env=(false,eval e X.env)::starEach es X.env:=by rfl) (gz:(backTo pos (starEach es X.env)).any (·.1)=false:=by rfl):PE X (.Call (.Name x p) (e::es) [] pos) (Hs r t):=by
 intro pins s σ H Q I h;refine wpAny_Call_Name_kw (ej I hg hm hv ?_ hn zT);exact PyProof.Rows.callWith_builtin1 (bq (ha pos pins s σ H _ I h) λus s1 ⟨vs,H1,I1,r1,q1⟩=>hc pins s1 σ H1 vs us Q I1 r1 q1) he gz
theorem uY (hc:eR X (.type T) r) (hg:Gl X x) (hm:X.mg x=none) (hv:bootBuiltins x=some (.type T)) (ha:PA X (e::es) t) (hn:x≠"__name__":=by decide) (zT:(x==("__debug__":Str))=false:=by decide)
  (he:starEach (e::es) X.env=(false,eval e X.env)::starEach es X.env:=by rfl) (gz:(backTo pos (starEach es X.env)).any (·.1)=false:=by rfl):PE X (.Call (.Name x p) (e::es) [] pos) (Hs r t):=by
 intro pins s σ H Q I h;refine wpAny_Call_Name_kw (ej I hg hm hv ?_ hn zT);exact PyProof.Rows.callWith_type1 (bq (ha pos pins s σ H _ I h) λus s1 ⟨vs,H1,I1,r1,q1⟩=>hc pins s1 σ H1 vs us Q I1 r1 q1) he gz
end
end L2
namespace HT
open PySem PyProof.Rows
section
variable {prog:Program} {w:World} {A:Around} {E:Value->Shared->Prop} {s:Shared}
theorem zE {t b:Addr} {vs ws:List Value} {Q:Value->Shared->Prop} (ht:IsTup s.heap t vs.toArray) (hb:IsTup s.heap b ws.toArray) (hv:vs≠[])
  (h1:ws=[]->Q (.ref t) s) (h2:ws≠[]->Q (.ref s.heap.objs.size) {s with heap:=s.heap.push {cls:= .type "tuple",data:= .seq (vs++ws).toArray}})
  (g0:vs.length + ws.length<=sizeLine):wpAny (model prog w) A (binaryOp .Add (.ref t) (.ref b)) Q E s:=by
 obtain⟨⟨cls,dd,data,sl⟩,ho,hc,n,hd⟩:=id ht;obtain⟨⟨Fk,yY,data2,vt⟩,sP,uB,n2,hd2⟩:=id hb;simp only at hc hd uB hd2;subst hc hd uB hd2;have e:vs.toArray++ws.toArray=(vs++ws).toArray:=by simp
 by_cases hw:ws=[]
 ·exact concat_meets ⟨_,ho,rfl⟩ ⟨_,sP,rfl⟩ noFill_tuple_add seq_tuple_add PySem.F.slot_tuple_add PySem.F.entry_tuple_add (PySem.F.args_tuple_add_2 _ _)
   (tuple_addW1 t b vs.toArray ws.toArray n n2 dd yY sl vt (by simpa using hv) (by simp[hw])) ⟨ho,sP,h1 hw⟩
 ·refine concat_meets ⟨_,ho,rfl⟩ ⟨_,sP,rfl⟩ noFill_tuple_add seq_tuple_add PySem.F.slot_tuple_add PySem.F.entry_tuple_add (PySem.F.args_tuple_add_2 _ _)
   (tuple_addW2 t b vs.toArray ws.toArray n n2 dd yY sl vt (by simpa using hv) (by simpa using hw) (by rw[O8,O8];exact g0)) ⟨ho,sP,?_⟩
  rw[e];exact h2 hw
noncomputable def bA (n d:Nat):Option Int->Nat
 | none=>d
 | some v=>if v < 0 then(v + (n:Int)).toNat else min v.toNat n
theorem yf (n d:Nat):bA n d none=d:=rfl
theorem A2 (n d k:Nat):bA n d (some (k:Int))=min k n:=by show (if (k:Int) < 0 then((k:Int) + (n:Int)).toNat else min (k:Int).toNat n)=min k n;rw[if_neg (by lia),Int.toNat_natCast]
theorem D0 (n d:Nat) (hd:d<=n) (o:Option Int):bA n d o<=n:=by
 cases o with
 | none=>exact hd
 | some v=>
  show (if v < 0 then(v + (n:Int)).toNat else min v.toNat n)<=n;by_cases hv:v < 0
  ·rw[if_pos hv];lia
  ·rw[if_neg hv];exact Nat.min_le_right _ _
theorem sk (v:Int) (n d:Nat):(if v < 0 then max (v + (n:Int)) 0 else min v (n:Int))=((bA n d (some v):Nat):Int):=by
 show (if v < 0 then max (v + (n:Int)) 0 else min v (n:Int))=(((if v < 0 then(v + (n:Int)).toNat else min v.toNat n):Nat):Int);by_cases hv:v < 0
 ·simp only[if_pos hv];lia
 ·simp only[if_neg hv];lia
theorem qb (lo hi:Option Int) (n:Nat):Builtin.Slice.sliceAdjust lo hi 1 (n:Int)=(((bA n 0 lo:Nat):Int),((bA n n hi:Nat):Int)):=by
 have h1:¬((1:Int) < 0):=by lia
 unfold Builtin.Slice.sliceAdjust;simp only[h1,if_false];refine Prod.ext ?_ ?_
 ·cases lo with
  | none=>rfl
  | some v=>exact sk v n 0
 ·cases hi with
  | none=>rfl
  | some v=>exact sk v n n
theorem qZ (i j:Nat):Builtin.Slice.slicePlaces (i:Int) (j:Int) 1=j - i:=by
 unfold Builtin.Slice.slicePlaces;have h1:(1:Int) > 0:=by lia
 simp only[h1,if_true,Int.ediv_one];split <;> lia
theorem kB {v:Value} {o:Option Int} {Q:Option Int->Shared->Prop} (p:IsPart v o) (h:Q o s):wpAny (model prog w) A (Builtin.Slice.slicePartIndex v) Q E s:=by
 cases p with
 | none=>exact slicePart_none h
 | int i t=>exact slicePart_int h
theorem dY {sl:Addr} {vl vu:Value} {lo hi:Option Int} {n:Nat} {Q:Int×Int×Nat->Shared->Prop} (hs:s.heap.IsSliceOf sl vl vu .none) (pl:IsPart vl lo) (pu:IsPart vu hi)
  (h:Q (((bA n 0 lo:Nat):Int),1,bA n n hi - bA n 0 lo) s):wpAny (model prog w) A (Builtin.Slice.sliceApplied (.ref sl) (pure (n:Int))) Q E s:=by
 obtain⟨os,CS,zR,CI⟩:=id hs;unfold Builtin.Slice.sliceApplied Builtin.Slice.sliceFields;refine O3 (O3 (wpAny_field CS CI (x:=vl) rfl (O3 (wpAny_field CS CI (x:=vu) rfl (O3 (wpAny_field CS CI (x:= .none) rfl (O6 ?_)))))));refine O3 (slicePart_none ?_);show wpAny _ _ (if ((1:Int)==0)=true then _ else _) _ _ s;rw[if_neg (by decide)];refine O3 (kB pl (O3 (kB pu (O3 (O6 ?_)))));show wpAny _ _ (match Builtin.Slice.sliceAdjust lo hi 1 (n:Int) with | (lo,hi)=>pure (lo,(1:Int),Builtin.Slice.slicePlaces lo hi 1)) _ _ s;rw[qb lo hi n];show wpAny _ _ (pure (((bA n 0 lo:Nat):Int),(1:Int),Builtin.Slice.slicePlaces ((bA n 0 lo:Nat):Int) ((bA n n hi:Nat):Int) 1)) _ _ s;rw[qZ];exact O6 h
theorem xX (xs:Array Value) (i k:Nat):((List.range k).filterMap λ(m:Nat)=>xs[((i:Int) + (m:Int) * 1).toNat]?).toArray=((xs.toList.drop i).take k).toArray:=by
 have e:(λ(m:Nat)=>xs[((i:Int) + (m:Int) * 1).toNat]?)=λm=>xs[i + m]?:=by
  funext m;have:((i:Int) + (m:Int) * 1).toNat=i + m:=by lia
  rw[this]
 rw[e];have:=pick_run xs i k;rw[List.filterMap_map] at this;have e2:((λx=>xs[x]?) ∘ λx=>i + x)=λm=>xs[i + m]?:=rfl
 rw[e2] at this;rw[this]
theorem gY {t sl:Addr} {items:Array Value} {vl vu:Value} {lo hi:Option Int} {Q:Value->Shared->Prop} (ht:IsTup s.heap t items) (hs:s.heap.IsSliceOf sl vl vu .none) (pl:IsPart vl lo) (pu:IsPart vu hi)
  (hw:¬(bA items.size 0 lo=0/\bA items.size items.size hi=items.size))
  (h:Q (.ref s.heap.objs.size) {s with heap:=s.heap.push {cls:= .type "tuple",data:= .seq ((items.toList.drop (bA items.size 0 lo)).take (bA items.size items.size hi - bA items.size 0 lo)).toArray}})
  (g0:items.size<=sizeLine):wpAny (model prog w) A (getItem (.ref t) (.ref sl)) Q E s:=by
 have sS:sizeOk (.seq ((items.toList.drop (bA items.size 0 lo)).take (bA items.size items.size hi - bA items.size 0 lo)).toArray):=by
  show ((items.toList.drop (bA items.size 0 lo)).take (bA items.size items.size hi - bA items.size 0 lo)).toArray.size<=sizeLine;rw[O8,List.length_take,List.length_drop,Pt]
  lia
 have hj:bA items.size items.size hi<=items.size:=D0 _ _ (Pd _) hi;obtain⟨os,CS,zR,CI⟩:=id hs;have J3:s.TypeIs (.ref sl) "slice":=⟨os,CS,zR⟩;unfold getItem
 try with_reducible refine wpAny_holding ?_
 first | refine O3 (O6 ?_) | skip
 refine O3 (wpAny_sequenceKey ht.typeIs (by decide) ?_);refine O3 (wpAny_callSpecial?_slot (name:=Str.ofString "__getitem__") ht.typeIs PyProof.Rows.slot_tuple_getitem
  (wpAny_call_entry PyProof.Rows.slot_tuple_getitem ht.typeIs entry_tuple_getitem ?_ (args_tuple_getitem _ _)))
 show wpAny _ _ (Builtin.Tuple.tupleItemsOf (.ref t) >>=_) _ _ s;refine O3 (tupleItemsOf_ ht ?_);refine O3 (wpAny_typeOf J3 ?_);rw[if_pos (by decide)];refine O3 (dY hs pl pu ?_);have NS:¬((((bA items.size 0 lo:Nat):Int)==0&&(1:Int)==1&&(bA items.size items.size hi - bA items.size 0 lo)==items.size)=true):=by intro q;rw[O7,O7] at q;have q1:((bA items.size 0 lo:Nat):Int)=0:=Pw q.1.1;have q2:bA items.size items.size hi - bA items.size 0 lo=items.size:=Pw q.2;exact hw ⟨by lia,by lia⟩
 show wpAny _ _ (if (((bA items.size 0 lo:Nat):Int)==0&&(1:Int)==1&&(bA items.size items.size hi - bA items.size 0 lo)==items.size)=true then _ else _) _ _ s;rw[if_neg NS,xX]
 first
  | exact O3 (m:=Builtin.Tuple.tupleExact _) (wpAny_newObj_type (O6 ⟨_,rfl,O6 h⟩) sS)
  | exact O3 (m:=Builtin.Tuple.tupleExact _) (wpAny_newObj_type (O3 (O6 (O6 ⟨_,rfl,O6 h⟩))) sS)
  | exact O3 (O3 (m:=Builtin.Tuple.tupleExact _) (wpAny_newObj_type (O6 (O6 ⟨_,rfl,O6 h⟩)) sS))
  | exact O3 (O3 (m:=Builtin.Tuple.tupleExact _) (wpAny_newObj_type (O6 ⟨_,rfl,O6 h⟩) sS))
end
end HT
namespace L2
open PySem PySem.Spec PyProof.Rows
noncomputable abbrev TO:=St->Hp->(Option Int->Hp->Prop)->Prop
noncomputable def PO (X:Cx) (e:Option Expr) (t:TO):Prop:=
 ∀(pins:List (Addr×Obj)) (s:Shared) (σ:St) (H:Hp) (Q:Option Int->Hp->Prop),Inv X pins σ H s->t σ H Q->
  wpAny (model X.prog X.w) X.A (evalPart e X.env) (λu s'=>∃o H',Inv X pins σ H' s'/\IsPart u o/\Q o H') X.xe s
noncomputable def A8:TO:=λ_ H Q=>Q none H
noncomputable def Hy (t:TE):TO:=λσ H Q=>t σ H λx H1=>∃i,x= .int i/\Q (some i) H1
theorem intsAre_of {ns:List Int}:∀{us:List Value},ar (ns.map V.int) us->IntsAre us ns:=by
 induction ns with
 | nil=>intro us r;rw[List.map_nil] at r;cases r;exact .nil
 | cons n ns ih=>
  intro us r;rw[P1] at r;cases r with
  | cons r1 r2=>obtain⟨t,e⟩:=r1;subst e;exact .cons n t (ih r2)
section
variable {X:Cx} {e:Expr} {te:TE} {lo hi:Option Expr} {tl th:TO} {pos p2:Pos}
theorem tH:PO X none A8:=by intro pins s σ H Q I h;rw[evalPart_none];exact O6 ⟨none,H,I,.none,h⟩
theorem tI (h:PE X e te):PO X (some e) (Hy te):=by
 intro pins s σ H Q I hw;rw[evalPart_some];refine bq (h pins s σ H _ I hw) λu s1 ⟨x,H1,I1,r1,q1⟩=>?_
 obtain⟨i,rfl,q⟩:=q1;obtain⟨t,rfl⟩:=r1;exact⟨some i,H1,I1,.int i t,q⟩
noncomputable def Ez (X:Cx) (r:V->Option Int->Option Int->Hp->VK->Prop):Prop:=
 ∀(pins:List (Addr×Obj)) (s:Shared) (σ:St) (H:Hp) (x:V) (v vl vu:Value) (lo hi:Option Int) (sl:Addr) (Q:VK),Inv X pins σ H s->RelV x v->s.heap.IsSliceOf sl vl vu .none->IsPart vl lo->IsPart vu hi->r x lo hi H Q->
  ∃T id,typeLookup (.type T) "__getitem__"=pure (some (.builtin id))/\s.TypeIs v T/\wpAny (model X.prog X.w) X.A (getItem v (.ref sl)) (EP X pins σ Q) X.xe s
noncomputable def Ou (r:V->Option Int->Option Int->Hp->VK->Prop) (te:TE) (tl th:TO):TE:=λσ H Q=>te σ H λx H1=>tl σ H1 λl H2=>th σ H2 λu H3=>r x l u H3 Q
theorem pj {r:V->Option Int->Option Int->Hp->VK->Prop} (hr:Ez X r) (he:PE X e te) (hl:PO X lo tl) (hu:PO X hi th):PE X (.Subscript e (.Slice lo hi none p2) pos) (Ou r te tl th):=by
 intro pins s σ H Q I h;refine Subscript_ (bq (he pins s σ H _ I h) λv s1 ⟨x,H1,I1,r1,q1⟩=>?_);refine wpAny_Slice (bq (hl pins s1 σ H1 _ I1 q1) λvl s2 ⟨l,H2,I2,pl,q2⟩=>bq (hu pins s2 σ H2 _ I2 q2) λvu s3 ⟨u,H3,I3,pu,q3⟩=>?_);rw[evalPart_none];refine O6 ?_;have I4:Inv X pins σ H3 {s3 with heap:=s3.heap.push {cls:= .type "slice",data:= .fields #[vl,vu,.none]}}:=I3.kept (t':=s3.toks) λb ob q=>O5 _ q
 obtain⟨T,id,hT,ht,hg⟩:=hr pins {s3 with heap:=s3.heap.push {cls:= .type "slice",data:= .fields #[vl,vu,.none]}} σ H3 x v vl vu l u s3.heap.objs.size Q I4 r1 (Heap.IsSliceOf.new ..) pl pu q3;show wpAny (model X.prog X.w) X.A (subscriptTail e (.Slice lo hi none p2) v (.ref s3.heap.objs.size)) (EP X pins σ Q) X.xe {s3 with heap:=s3.heap.push {cls:= .type "slice",data:= .fields #[vl,vu,.none]}};exact tail_any (ops:=[.ref s3.heap.objs.size,v]) ht hT hg (by with_unfolding_all rfl)
noncomputable def kX (xs:List V) (lo hi:Option Int):List V:=(xs.drop (HT.bA xs.length 0 lo)).take (HT.bA xs.length xs.length hi - HT.bA xs.length 0 lo)
theorem ja (xs:List V) (lo hi:Option Int):(kX xs lo hi).length<=xs.length:=by
 unfold kX;rw[List.length_take,List.length_drop]
 lia
noncomputable def Lb (K:PySem.W.Frag):V->Option Int->Option Int->Hp->VK->Prop:=λx lo hi H Q=>∃a xs,x= .ref a/\d5 K H a xs/\
 ¬(HT.bA xs.length 0 lo=0/\HT.bA xs.length xs.length hi=xs.length)/\∀p,H p=none->Q (.ref p) (upd H p (.tup (kX xs lo hi)))
theorem Ed:Ez X (Lb X.K):=by
 intro pins s σ H x v vl vu lo hi sl Q I rx hs pl pu h;obtain⟨a,xs,rfl,hx,hw,q⟩:=h;cases rx;obtain⟨its,r,ht,hz⟩:=I.tuple hx;have hlen:its.toArray.size=xs.length:=by rw[O8];exact r.length.symm
 refine⟨"tuple",_,PyProof.Rows.slot_tuple_getitem.lookup,ht.typeIs,?_⟩;refine HT.gY ht hs pl pu (by rw[hlen];exact hw) ?_ (by rw[hlen];exact hz);rw[hlen];refine⟨.ref s.heap.objs.size,_,I.laid (t':=s.toks) (o:= .tup (kX xs lo hi)) (λb ob q=>O5 _ q) (Pd _) ?_,rfl,q _ (I.hok.fresh (Pd _))⟩;exact⟨Pj (ja xs lo hi) hz,_,(r.drop (HT.bA xs.length 0 lo)).take (HT.bA xs.length xs.length hi - HT.bA xs.length 0 lo),IsTup.new _ _⟩
noncomputable def G0 (K:PySem.W.Frag):R2:=λx y H Q=>∃a b xs ys,x= .ref a/\y= .ref b/\d5 K H a xs/\d5 K H b ys/\xs≠[]/\xs.length + ys.length<=sizeLine/\
 (ys=[]->Q (.ref a) H)/\(ys≠[]->∀p,H p=none->Q (.ref p) (upd H p (.tup (xs++ys))))
theorem ar.ni {xs:List V} {us:List Value} (r:ar xs us):us=[]↔xs=[]:=by
 cases r with
 | nil=>simp
 | cons _ _=>simp
theorem AB:kS X (binaryOp .Add) (G0 X.K):=by intro pins s σ H x y v u Q I rx ry h;obtain⟨a,b,xs,ys,rfl,rfl,ha,hb,hx,hz,q1,q2⟩:=h;cases rx;cases ry;obtain⟨its,r1,p1,_⟩:=I.tuple ha;obtain⟨aK,r2,p2,_⟩:=I.tuple hb;refine HT.zE p1 p2 (λz=>hx (r1.ni.mp z)) (λz=>⟨.ref a,H,I,rfl,q1 (r2.ni.mp z)⟩) (λz=>?_) (by rw[<-r1.length,<-r2.length];exact hz);refine⟨.ref s.heap.objs.size,_,I.laid (t':=s.toks) (o:= .tup (xs++ys)) (λb ob q=>O5 _ q) (Pd _) ?_,rfl,q2 (λw=>z (r2.ni.mpr w)) _ (I.hok.fresh (Pd _))⟩;exact⟨by rw[Po];exact hz,_,r1.append r2,IsTup.new _ _⟩
end
end L2
namespace L2
open PySem PySem.Spec PyProof.Rows
noncomputable def mY (n:Nat) (i:Int):Option Nat:=if 0<=i then(if i < n then some i.toNat else none) else if -(n:Int)<=i then some (i + n).toNat else none
noncomputable def jM {α:Type} (xs:List α) (i:Int):Option α:=(mY xs.length i).bind λj=>xs[j]?
theorem sU {n:Nat} {i:Int} {j:Nat} (h:mY n i=some j):seqIndex? i n=some j/\j < n/\ -(n:Int)<=i/\i < n:=by
 unfold mY at h;by_cases h0:0<=i
 ·rw[if_pos h0] at h;by_cases h1:i < n
  ·rw[if_pos h1] at h;have e:i.toNat=j:=Option.some.inj h;exact⟨by rw[seqIndex_of h0 h1,e],by lia,by lia,h1⟩
  ·rw[if_neg h1] at h;cases h
 ·rw[if_neg h0] at h;by_cases h1: -(n:Int)<=i
  ·rw[if_pos h1] at h;have e:(i + n).toNat=j:=Option.some.inj h;exact⟨by rw[seqIndex_neg (by lia) h1,e],by lia,h1,by lia⟩
  ·rw[if_neg h1] at h;cases h
theorem mq {α:Type} {xs:List α} {i:Int} {v:α} (h:jM xs i=some v):∃j,seqIndex? i xs.length=some j/\xs[j]?=some v/\j < xs.length/\ -(xs.length:Int)<=i/\i < xs.length:=by
 unfold jM at h;cases e:mY xs.length i with
 | none=>rw[e] at h;cases h
 | some j=>rw[e] at h;obtain⟨h1,h2,h3,h4⟩:=sU e;exact⟨j,h1,h,h2,h3,h4⟩
theorem fG {α:Type} {xs:List α} {j:Nat} {v:α} (h:xs[j]?=some v):jM xs (j:Int)=some v:=by
 have hj:j < xs.length:=(Pa.mp h).1;have e:mY xs.length (j:Int)=some j:=by unfold mY;rw[if_pos (by lia),if_pos (by lia)];simp
 unfold jM;rw[e];exact h
theorem ox {α:Type} (xs:List α) (v:α):jM (xs++[v]) (-1)=some v:=by
 have hl:(xs++[v]).length=xs.length + 1:=by simp
 have e:mY (xs++[v]).length (-1)=some xs.length:=by
  unfold mY;rw[hl,if_neg (by decide),if_pos (by lia)];congr 1
  lia
 unfold jM;rw[e];show (xs++[v])[xs.length]?=some v;simp
noncomputable def mh (b:Expr):Prop:=∀o i,subscripted b false o i=operate [o,i] (getItem o i)
noncomputable def E1 (X:Cx) (r:R2):Prop:=
 ∀(value slice:Expr) (pins:List (Addr×Obj)) (s:Shared) (σ:St) (H:Hp) (x y:V) (v u:Value) (Q:VK),Inv X pins σ H s->RelV x v->RelV y u->r x y H Q->
  subscripted slice false v u=operate [v,u] (getItem v u)->wpAny (model X.prog X.w) X.A (subscriptTail value slice v u) (EP X pins σ Q) X.xe s
noncomputable def LO (X:Cx) (id:String) (r:V->List V->Hp->VK->Prop):Prop:=
 ∀(pins:List (Addr×Obj)) (s:Shared) (σ:St) (H:Hp) (x:V) (xs:List V) (v:Value) (us:List Value) (Q:VK),Inv X pins σ H s->RelV x v->ar xs us->r x xs H Q->
  wpAny (model X.prog X.w) X.A (call (.builtin id) (v::us)) (EP X pins σ Q) X.xe s
section
variable {X:Cx} {a b:Expr} {ta tb:TE} {pos:Pos}
theorem GT {r:R2} (hr:E1 X r) (ha:PE X a ta) (hb:PE X b tb) (hs:mh b):PE X (.Subscript a b pos) (IR r ta tb):=by intro pins s σ H Q I h;exact Subscript_ (Cd ha hb I h λv u s2 x y H2 I2 rx ry q=>hr a b pins s2 σ H2 x y v u Q I2 rx ry q (hs _ _))
noncomputable def K3 (K:PySem.W.Frag):R2:=λx y H Q=>∃p xs i v,x= .ref p/\y= .int i/\cT K H p xs/\jM xs i=some v/\Q v H
noncomputable def K5 (K:PySem.W.Frag):R2:=λx y H Q=>∃p xs i v,x= .ref p/\y= .int i/\d5 K H p xs/\jM xs i=some v/\Q v H
noncomputable def K4:R2:=λx y H Q=>∃z i c,x= .str z/\y= .int i/\z.length<=sizeLine/\jM z.cps.toList i=some c/\Q (.str ⟨#[c]⟩) H
theorem sW:E1 X (K3 X.K):=by
 intro value slice pins s σ H x y v u Q I rx ry h hs;obtain⟨p,xs,i,z,rfl,rfl,hq,he,q⟩:=h;cases rx;obtain⟨t,rfl⟩:=ry;obtain⟨its,r,pl,hz⟩:=I.list hq;obtain⟨j,h1,h2,h3,h4,h5⟩:=mq he;obtain⟨w,ew,Li⟩:=r.get h2;have hl:=r.length;have hn:=iR;have fin:EP X pins σ Q w s:=⟨z,H,I,Li,q⟩;by_cases h0:0<=i
 ·have hj:i.toNat=j:=by rw[seqIndex_of h0 h5] at h1;exact Option.some.inj h1
  exact item_listR pl.isList h0 (by lia) (by rw[hj];simpa using ew) fin hs
 ·have hj:(i + (its.toArray.size:Int)).toNat=j:=by rw[seqIndex_neg (by lia) h4] at h1;rw[O8,<-hl];exact Option.some.inj h1
  exact subscriptTail_builtinR (x:=w) pl.isList.typeIs slot_list_getitem.lookup
   (wpAny_getItem_list_neg (Q:=λr s'=>r=w/\EP X pins σ Q r s') pl.isList (by lia) (by rw[O8] <;> lia) (by lia) (by rw[hj];simpa using ew) ⟨rfl,fin⟩) hs
theorem C2:E1 X (K5 X.K):=by
 intro value slice pins s σ H x y v u Q I rx ry h hs;obtain⟨p,xs,i,z,rfl,rfl,hq,he,q⟩:=h;cases rx;obtain⟨t,rfl⟩:=ry;obtain⟨its,r,pl,hz⟩:=I.tuple hq;obtain⟨j,h1,h2,h3,h4,h5⟩:=mq he;obtain⟨w,ew,Li⟩:=r.get h2;have hl:=r.length;have hn:=iR;have fin:EP X pins σ Q w s:=⟨z,H,I,Li,q⟩;exact subscriptTail_builtinR (x:=w) pl.typeIs slot_tuple_getitem.lookup
  (getItem_tuple (j:=j) (Q:=λr s'=>r=w/\EP X pins σ Q r s') pl (by lia) (by lia) (by rw[O8,<-hl];exact h1) (by simpa using ew) ⟨rfl,fin⟩) hs
theorem C1:E1 X K4:=by
 intro value slice pins s σ H x y v u Q I rx ry h hs;obtain⟨z,i,c,rfl,rfl,hz,he,q⟩:=h;obtain⟨t,rfl⟩:=rx;obtain⟨t',rfl⟩:=ry;obtain⟨j,h1,h2,h3,h4,h5⟩:=mq he;have hl:z.cps.toList.length=z.length:=by simp[Str.length]
 rw[hl] at h1 h4 h5;have hn:=iR;exact tail_any (typeIs_str s z t) slot_str_getitem.lookup (getItem_str (c:=c) (by
  have e1:decide (i < -(2 ^ 63:Int))=false:=Py (by lia);have e2:decide (i>=2 ^ 63)=false:=Py (by lia);rw[e1,e2,Bool.or_false]) (by rw[h1];simpa using h2) ⟨.str ⟨#[c]⟩,H,I.tok _,⟨_,rfl⟩,q⟩) hs
theorem qR (its:List Value) (n j:Nat) (u:Value):Obj.mapSeq (·.setIfInBounds j u) {cls:= .type "list",data:= .seq its.toArray n}={cls:= .type "list",data:= .seq (its.set j u).toArray n}:=by simp[Obj.mapSeq]
theorem Inv.lst {pins:List (Addr×Obj)} {σ:St} {H:Hp} {s:Shared} {p:Addr} {xs:List V} (I:Inv X pins σ H s) (h:H p=some (.lst xs)):
  ∃(its:List Value) (n:Nat),ar xs its/\s.heap.get? p=some {cls:= .type "list",data:= .seq its.toArray n}/\xs.length<=sizeLine:=by
 obtain⟨z,its,n,r,e⟩:=I.hok p _ h;exact⟨its,n,r,e,z⟩
theorem Inv.Dc {pins:List (Addr×Obj)} {σ:St} {H:Hp} {s:Shared} {p:Addr} {xs ys:List V} {its its':List Value} {n n':Nat} {f:Obj->Obj} (I:Inv X pins σ H s) (h:H p=some (.lst xs))
  (ho:s.heap.get? p=some {cls:= .type "list",data:= .seq its.toArray n}) (hf:f {cls:= .type "list",data:= .seq its.toArray n}={cls:= .type "list",data:= .seq its'.toArray n'}) (r:ar ys its') (hz:ys.length<=sizeLine) (t:Nat):
  Inv X pins σ (upd H p (.lst ys)) {s with heap:=s.heap.update p f,toks:=t}:=by
 have e:(s.heap.update p f).get? p=some {cls:= .type "list",data:= .seq its'.toArray n'}:=by rw[Heap.get?_update_self f ho (by rw[hf] <;> rfl),hf]
 refine I.write (x:=p) (e:=p) (by rw[h];trivial) (.inl rfl) (λb u hb q=>(PD _ _ (Ne.symm hb)).trans q) ⟨_,e⟩ ?_;exact⟨hz,its',n',r,e⟩
noncomputable def BM:V->V->V->Hp->(Hp->Prop)->Prop:=λo i v H Q=>∃p xs k j,o= .ref p/\i= .int k/\H p=some (.lst xs)/\mY xs.length k=some j/\Q (upd H p (.lst (xs.set j v)))
theorem set_list:E5 X BM:=by
 intro pins s σ H o i v ov iv u Q I ro ri rv h;obtain⟨p,xs,k,j,rfl,rfl,hp,hj,q⟩:=h;cases ro;obtain⟨t,rfl⟩:=ri;obtain⟨its,n,r,ho,hz⟩:=I.lst hp;obtain⟨h1,h2,h3,h4⟩:=sU hj;have hl:=r.length;have hn:=iR;have I':Inv X pins σ (upd H p (.lst (xs.set j v))) {s with heap:=s.heap.update p (Obj.mapSeq (·.setIfInBounds j u))}:=
  I.Dc hp ho (qR its n j u) (r.set rv j) (by rw[List.length_set];exact hz) s.toks
 by_cases h0:0<=k
 ·have hk:k.toNat=j:=by rw[seqIndex_of h0 h4] at h1;exact Option.some.inj h1
  exact PySem.W.ki_setAt ho h0 (by lia) (by rw[O8,<-hl];exact h4) (by rw[hk];exact⟨_,I',q⟩)
 ·have hk:(k + (its.toArray.size:Int)).toNat=j:=by rw[seqIndex_neg (by lia) h3] at h1;rw[O8,<-hl];exact Option.some.inj h1
  exact PySem.W.ki_setBack ho (by lia) (by rw[O8,<-hl];exact h3) (by lia) (by rw[hk];exact⟨_,I',q⟩)
theorem nK (lo hi:Option Int) (n:Nat):(sliceBounds lo hi none n).1=((HT.bA n 0 lo:Nat):Int)/\(sliceBounds lo hi none n).2.1=((HT.bA n n hi:Nat):Int)/\(sliceBounds lo hi none n).2.2=1:=by
 refine⟨?_,?_,rfl⟩
 ·cases lo with
  | none=>simp[sliceBounds,HT.bA]
  | some i=>
   simp only[sliceBounds,HT.bA,Option.getD_none,show (1:Int) > 0 by decide,if_true];by_cases h:i < 0
   ·simp only[h,if_true] <;> lia
   ·simp only[h,if_false] <;> lia
 ·cases hi with
  | none=>simp[sliceBounds,HT.bA]
  | some i=>
   simp only[sliceBounds,HT.bA,Option.getD_none,show (1:Int) > 0 by decide,if_true];by_cases h:i < 0
   ·simp only[h,if_true] <;> lia
   ·simp only[h,if_false] <;> lia
theorem k9 (its:List Value) (lo hi:Option Int):slicePick its.toArray lo hi none=((its.drop (HT.bA its.length 0 lo)).take (HT.bA its.length its.length hi - HT.bA its.length 0 lo)).toArray:=by obtain⟨h1,h2,h3⟩:=nK lo hi its.toArray.size;unfold slicePick;rw[h1,h2,h3];simp only[sliceRange_one,pick_run,O8] <;> rfl
noncomputable def K9 (K:PySem.W.Frag):V->Option Int->Option Int->Hp->VK->Prop:=λx lo hi H Q=>∃a xs,x= .ref a/\cT K H a xs/\∀p,H p=none->Q (.ref p) (upd H p (.lst (kX xs lo hi)))
theorem tQ:Ez X (K9 X.K):=by intro pins s σ H x v vl vu lo hi sl Q I rx hs pl pu h;obtain⟨a,xs,rfl,hx,q⟩:=h;cases rx;obtain⟨its,r,ht,hz⟩:=I.list hx;have hlen:=r.length;refine⟨"list",_,slot_list_getitem.lookup,ht.isList.typeIs,?_⟩;refine wpAny_getItem_list_slice ht.isList hs pl pu .none (by simp) ?_ (by rw[O8] <;> lia);rw[k9,<-hlen];refine⟨.ref s.heap.objs.size,_,I.laid (t':=s.toks) (o:= .lst (kX xs lo hi)) (λb ob q=>O5 _ q) (Pd _) ?_,rfl,q _ (I.hok.fresh (Pd _))⟩;exact⟨Pj (ja xs lo hi) hz,_,0,(r.drop (HT.bA xs.length 0 lo)).take (HT.bA xs.length xs.length hi - HT.bA xs.length 0 lo),Pf _ rfl⟩
theorem d6:eR X (.type "list") (λxs H Q=>∃p ys,xs=[.ref p]/\(cT X.K H p ys\/d5 X.K H p ys)/\∀l,H l=none->Q (.ref l) (upd H l (.lst ys))):=by
 intro pins s σ H xs us Q I r h;obtain⟨p,ys,rfl,hq,q⟩:=h;obtain⟨u,rfl,rx⟩:=vals1 r;cases rx;have fin:∀(its:List Value),ar ys its->ys.length<=sizeLine->∀(h':Heap) (c':Nat),(∀b o',s.heap.get? b=some o'->h'.get? b=some o')->
   h'.get? s.heap.objs.size=some {cls:= .type "list",dict:=none,data:= .seq its.toArray c',slots:=#[]}->EP X pins σ Q (.ref s.heap.objs.size) {s with heap:=h'}:=λits r' hz h' c' kp e=>
  ⟨.ref s.heap.objs.size,_,I.laid (t':=s.toks) kp (Pd _) (show bF X.prog X.w _ h' _ (.lst ys) from⟨hz,its,c',r',e⟩),rfl,q _ (I.hok.fresh (Pd _))⟩
 rcases hq with hq | hq
 ·obtain⟨its,r',pl,hz⟩:=I.list hq;have hlen:=r'.length;obtain⟨o,ho,hc,n,hd⟩:=pl.isList;exact call_list_seq p (.inl rfl) ho hc hd (λh' c' kp e=>fin its r' hz h' c' kp e) (by simp only[O8] <;> lia)
 ·obtain⟨its,r',pl,hz⟩:=I.tuple hq;have hlen:=r'.length;obtain⟨o,ho,hc,n,hd⟩:=pl;exact call_list_seq p (.inr rfl) ho hc hd (λh' c' kp e=>fin its r' hz h' c' kp e) (by simp only[O8] <;> lia)
theorem f6:eR X (.type "tuple") (λxs H Q=>∃p ys,xs=[.ref p]/\((cT X.K H p ys/\∀l,H l=none->Q (.ref l) (upd H l (.tup ys)))\/(d5 X.K H p ys/\Q (.ref p) H))):=by
 intro pins s σ H xs us Q I r h;obtain⟨p,ys,rfl,h⟩:=h;obtain⟨u,rfl,rx⟩:=vals1 r;cases rx;rcases h with ⟨hq,q⟩ | ⟨hq,q⟩
 ·obtain⟨its,r',pl,hz⟩:=I.list hq;have hlen:=r'.length;refine call_tuple_list pl.isList (λh' kp=>?_) (by simp only[O8] <;> lia);have I1:Inv X pins σ H {s with heap:=h'}:=I.kept (t':=s.toks) kp;have I2:Inv X pins σ (upd H h'.objs.size (.tup ys)) {s with heap:=h'.push {cls:= .type "tuple",data:= .seq its.toArray}}:=
   I1.laid (t':=s.toks) (λb o e=>O5 _ e) (Pd _) (show bF X.prog X.w _ _ _ (.tup ys) from⟨hz,its,r',IsTup.new _ _⟩)
  exact⟨.ref h'.objs.size,_,I2,rfl,q _ (I1.hok.fresh (Pd _))⟩
 ·obtain⟨its,r',pl,hz⟩:=I.tuple hq;exact call_tuple_same pl ⟨.ref p,H,I,rfl,q⟩
noncomputable def LF (K:PySem.W.Frag) (T:String) (x:V) (H:Hp):Prop:=match x with
 | .str _=>T="str"
 | .int _=>T="int"
 | .ref p=>(T="list"/\∃xs,cT K H p xs)\/(T="tuple"/\∃o,K.lookup p=some o/\o.cls= .type "tuple"/\o.dict=none)\/
   (T="dict"/\((∃eC,H p=some (.dK eC))\/∃eC,H p=some (.dT eC)))\/(T="set"/\∃S n,H p=some (.set S n))
 | _=>False
theorem yF {pins:List (Addr×Obj)} {σ:St} {H:Hp} {s:Shared} {T:String} {x:V} {v:Value} (I:Inv X pins σ H s) (r:RelV x v) (ty:LF X.K T x H):
  s.TypeIs v T/\∀a,v= .ref a->∃ob,s.heap.get? a=some ob/\ob.dict=none:=by
 cases x with
 | str z=>obtain⟨t,rfl⟩:=r;cases (show T="str" from ty);exact⟨typeIs_str s z t,λ_ e=>nomatch e⟩
 | int i=>obtain⟨t,rfl⟩:=r;cases (show T="int" from ty);exact⟨typeIs_int s i t,λ_ e=>nomatch e⟩
 | ref p=>
  cases r;rcases ty with ⟨rfl,xs,hq⟩ | ⟨rfl,o,hk,hc,hd⟩ | ⟨rfl,hk⟩ | ⟨rfl,S,n,hk⟩
  ·obtain⟨its,_,pl,_⟩:=I.list hq;refine⟨pl.isList.typeIs,λa e=>?_⟩;cases e;obtain⟨o,n,e,c,hd,_⟩:=pl;exact⟨o,e,hd⟩
  ·refine⟨⟨o,I.oR p o hk,hc⟩,λa e=>?_⟩;cases e;exact⟨o,I.oR _ o hk,hd⟩
  ·have z:∃o,s.heap.get? p=some o/\o.ExactDict:=by
    rcases hk with ⟨eC,hk⟩ | ⟨eC,hk⟩
    ·obtain⟨_,_,_,_,o,_,_,e,ex,_⟩:=I.hok p _ hk;exact⟨o,e,ex⟩
    ·obtain⟨_,_,_,_,o,_,_,e,ex,_⟩:=I.hok p _ hk;exact⟨o,e,ex⟩
   obtain⟨o,e,ex⟩:=z;refine⟨⟨o,e,ex.1⟩,λa e2=>?_⟩;cases e2;exact⟨o,e,ex.2.1⟩
  ·obtain⟨o,_,_,_,e,ex,_⟩:=I.hok p _ hk;refine⟨⟨o,e,ex.1⟩,λa e2=>?_⟩;cases e2;exact⟨o,e,ex.2.1⟩
 | _=>exact False.elim ty
noncomputable def Hr (K:PySem.W.Frag) (T:String) (r:V->List V->Hp->VK->Prop) (to:TE):TE:=λσ H Q=>to σ H λx H1=>LF K T x H1/\r x [] H1 Q
noncomputable def Lu (K:PySem.W.Frag) (T:String) (r:V->List V->Hp->VK->Prop) (to:TE) (t:TA):TE:=λσ H Q=>to σ H λx H1=>LF K T x H1/\t σ H1 λxs H2=>r x xs H2 Q
variable {o e:Expr} {es:List Expr} {to:TE} {t:TA} {name:Str} {apos eW:Pos} {T id:String} {r:V->List V->Hp->VK->Prop}
theorem DC (pa:PlainAttrs T) (slot:Slot T name id) (Kr:typeOf (.builtin id)=pure (.type "method_descriptor")) (hm:LO X id r) (ho:PE X o to)
  (wU:attributeBase o name X.env (eval o X.env)=eval o X.env:=by rfl) (xf:(apos.endLine==eW.line)=true:=by rfl):PE X (.Call (.Attribute o name apos) [] [] eW) (Hr X.K T r to):=by
 intro pins s σ H Q I h;refine wpAny_Call_method0_late wU xf (bq (ho pins s σ H _ I h) λv s1 ⟨x,H1,I1,r1,ty,q1⟩=>?_);obtain⟨h1,h2⟩:=yF I1 r1 ty;exact⟨T,id,pa,slot,Kr,h1,h2,Calls.callWith_builtin rfl (PySem.evalArgs_none (hm pins s1 σ H1 x [] v [] Q I1 r1 .nil q1))⟩
theorem BJ (pa:PlainAttrs T) (slot:Slot T name id) (Kr:typeOf (.builtin id)=pure (.type "method_descriptor")) (hm:LO X id r) (ho:PE X o to) (ha:PA X (e::es) t)
  (wU:attributeBase o name X.env (eval o X.env)=eval o X.env:=by rfl)
  (Kb:((backTo eW (starEach (e::es) X.env)).all (λx=> !x.1)&&(backToKw eW (keywordEach [] X.env)).all (λx=>x.1.isSome)
   &&decide ((e::es).length + ([]:List Keyword).length + (if ([]:List Keyword).isEmpty then 0 else 1) < 30))=true:=by rfl)
  (xf:(apos.endLine==eW.line)=true:=by rfl) (hs:starEach (e::es) X.env=(false,eval e X.env)::starEach es X.env:=by rfl) (CU:(backTo eW (starEach es X.env)).any (·.1)=false:=by rfl):
  PE X (.Call (.Attribute o name apos) (e::es) [] eW) (Lu X.K T r to t):=by
 intro pins s σ H Q I h;refine wpAny_Call_method_late wU Kb xf rfl (bq (ho pins s σ H _ I h) λv s1 ⟨x,H1,I1,r1,ty,q1⟩=>?_);obtain⟨h1,h2⟩:=yF I1 r1 ty;refine⟨T,id,pa,slot,Kr,h1,h2,?_⟩;have hA:=ha eW pins s1 σ H1 _ I1 q1;rw[hs] at hA ⊢;refine Calls.callWith_builtin (by show (false||(backTo eW (starEach es X.env)).any (·.1))=false;rw[CU] <;> rfl) (Calls.evalArgs_plain ?_);exact bq hA λus s2 ⟨vs,H2,I2,r2,q2⟩=>hm pins s2 σ H2 x vs v us Q I2 r1 r2 q2
end
end L2
namespace L2
open PySem PySem.Spec PyProof.Rows
noncomputable def HZ (X:Cx) (id:String) (r:V->List V->Hp->VK->Prop):Prop:=
 ∀(pins:List (Addr×Obj)) (s:Shared) (σ:St) (H:Hp) (x:V) (xs:List V) (v:Value) (us:List Value) (Q:VK),Inv X pins σ H s->RelV x v->ar xs us->r x xs H Q->
  wpAny (model X.prog X.w) X.A (call (.builtin id) (v::us)) (EP X pins σ Q) X.xe s
theorem ar.cons_inv {x:V} {xs:List V} {us:List Value} (h:ar (x::xs) us):∃u ut,us=u::ut/\RelV x u/\ar xs ut:=by
 cases h with
 | cons r t=>exact⟨_,_,rfl,r,t⟩
theorem ar.one {x:V} {us:List Value} (h:ar [x] us):∃u,us=[u]/\RelV x u:=
 have ⟨u,ut,e,r,t⟩:=h.cons_inv
 ⟨u,by cases t;exact e,r⟩
theorem ar.two {x y:V} {us:List Value} (h:ar [x,y] us):∃u v,us=[u,v]/\RelV x u/\RelV y v:=
 have ⟨u,ut,e,r,t⟩:=h.cons_inv;have ⟨v,e2,q⟩:=t.one
 ⟨u,v,e2▸e,r,q⟩
theorem ar.zero:∀{us:List Value},ar [] us->us=[]
 | _,.nil=>rfl
theorem ar.dropLast {xs:List V} {us:List Value} (h:ar xs us):ar xs.dropLast us.dropLast:=by
 induction h with
 | nil=>exact .nil
 | cons r t ih=>
  cases t with
  | nil=>exact .nil
  | cons q t'=>exact .cons r ih
theorem qt {α:Type} (l:List α):l.eraseIdx (l.length - 1)=l.dropLast:=by
 induction l with
 | nil=>rfl
 | cons a r ih=>
  cases r with
  | nil=>rfl
  | cons b r=>
   have e:(a::b::r).length - 1=((b::r).length - 1) + 1:=by
    have h1:(a::b::r).length=r.length + 2:=rfl;have h2:(b::r).length=r.length + 1:=rfl
    lia
   rw[e,List.eraseIdx_cons_succ,ih]
   all_goals rfl
section
variable {X:Cx} {pins:List (Addr×Obj)} {σ:St} {H:Hp} {s:Shared} {l b:Addr} {xs ys zs:List V}
theorem Inv.An {its its':List Value} {n:Nat} {f:Array Value->Array Value} {t':Nat} (I:Inv X pins σ H s) (hH:H l=some (.lst xs))
  (e:s.heap.get? l=some {cls:= .type "list",data:= .seq its.toArray n}) (hf:f its.toArray=its'.toArray) (hv:ar ys its') (hz:ys.length<=sizeLine):
  Inv X pins σ (upd H l (.lst ys)) {s with heap:=s.heap.update l (Obj.mapSeq f),toks:=t'}:=by
 have q:=PySem.IsL.update e f;rw[hf] at q;refine I.write (x:=l) (e:=l) (by rw[hH];exact trivial) (.inl rfl) (λb' u hb hu=>(PD s.heap (Obj.mapSeq f) (Ne.symm hb)).trans hu) ⟨_,q⟩ ?_;exact⟨hz,its',_,hv,q⟩
theorem Inv.Gu {its:List Value} {t':Nat} (I:Inv X pins σ H s) (hv:ar ys its) (hz:ys.length<=sizeLine):
  Inv X pins σ (upd H s.heap.objs.size (.lst ys)) {s with heap:=s.heap.push {cls:= .type "list",data:= .seq its.toArray},toks:=t'}:=
 I.laid (λ_ _ q=>O5 _ q) (Pd _) ⟨hz,its,0,hv,Pf _ rfl⟩
theorem Inv.fresh (I:Inv X pins σ H s):H s.heap.objs.size=none:=I.hok.fresh (Pd _)
theorem Inv.qQ (I:Inv X pins σ H s) (hH:H l=some (.lst xs)):xs.length<=sizeLine/\∃(its:List Value) (n:Nat),ar xs its/\xs.length=its.length/\s.heap.get? l=some {cls:= .type "list",data:= .seq its.toArray n}:=by obtain⟨z,its,n,r,e⟩:=I.hok l _ hH;exact⟨z,its,n,r,r.length,e⟩
theorem xM {n:Nat} (h:n<=sizeLine):Builtin.List.listTooLong n=false:=by unfold Builtin.List.listTooLong;exact Py (by lia)
end
section
variable {X:Cx}
noncomputable def tM:V->List V->Hp->VK->Prop:=λx vs H Q=>∃l xs y,x= .ref l/\vs=[y]/\H l=some (.lst xs)/\xs.length < sizeLine/\Q .bg (upd H l (.lst (xs++[y])))
theorem lU:HZ X "list.append" tM:=by
 intro pins s σ H x vs v us Q I rx rv h;obtain⟨l,xs,y,rfl,rfl,hH,hz,q⟩:=h;cases rx;obtain⟨u,rfl,ru⟩:=rv.one;obtain⟨z,its,n,r,hl,e⟩:=I.qQ hH;refine call_meets F.slot_list_append ⟨_,e,rfl⟩ F.entry_list_append (F.args_list_append_2 _ _) (PySem.list_append l its.toArray n u (by rw[O8];lia)) ⟨e,?_⟩;refine⟨.bg,_,I.An (its':=its++[u]) hH e (by simp) (r.append (.cons ru .nil)) ?_,rfl,q⟩;rw[Po,List.length_singleton]
 lia
noncomputable def tN:V->List V->Hp->VK->Prop:=λx vs H Q=>∃l b xs zs,x= .ref l/\vs=[.ref b]/\H l=some (.lst xs)/\H b=some (.lst zs)/\xs.length + zs.length<=sizeLine/\Q .bg (upd H l (.lst (xs++zs)))
theorem uT:HZ X "list.extend" tN:=by
 intro pins s σ H x vs v us Q I rx rv h;obtain⟨l,b,xs,zs,rfl,rfl,hH,hB,hz,q⟩:=h;cases rx;obtain⟨u,rfl,ru⟩:=rv.one;cases ru;obtain⟨z,its,n,r,hl,e⟩:=I.qQ hH;obtain⟨z2,aK,n2,r2,eB,e2⟩:=I.qQ hB;have g0:its.toArray.size + aK.toArray.size<=sizeLine:=by rw[O8,O8];lia
 have FV:¬(!its.toArray.isEmpty&&Builtin.List.listTooLong (its.toArray.size + aK.toArray.size))=true:=by rw[xM g0,Bool.and_false];exact Bool.false_ne_true
 refine call_meets F.slot_list_extend ⟨_,e,rfl⟩ F.entry_list_extend (F.args_list_extend_2 _ _)
  (AutoSeq1.list_extend_list_list_0 l its.toArray n b aK.toArray n2 FV (by rw[O8];lia) (by lia)) ⟨e,e2,?_⟩
 refine⟨.bg,_,I.An (its':=its++aK) hH e (by simp) (r.append r2) ?_,rfl,q⟩;rw[Po]
 lia
noncomputable def K8:V->List V->Hp->VK->Prop:=λx vs H Q=>∃l xs y,x= .ref l/\vs=[]/\H l=some (.lst xs)/\xs[xs.length - 1]?=some y/\Q y (upd H l (.lst xs.dropLast))
theorem KN:HZ X "list.pop" K8:=by
 intro pins s σ H x vs v us Q I rx rv h;obtain⟨l,xs,y,rfl,rfl,hH,hy,q⟩:=h;cases rx;have Gd:=rv.zero;subst Gd;obtain⟨z,its,n,r,hl,e⟩:=I.qQ hH;obtain⟨u,hu,ru⟩:=r.get hy;have Mu:its.toArray[its.toArray.size - 1]?=some u:=by show its.toArray[its.length - 1]?=some u;rw[<-Array.getElem?_toList,<-hl];exact hu
 refine call_meets F.slot_list_pop ⟨_,e,rfl⟩ F.entry_list_pop (F.args_list_pop_1 _) (MeetsSeq.list_pop_last l its.toArray n u Mu (by rw[O8];lia)) ⟨e,?_⟩;refine⟨y,_,I.An (its':=its.dropLast) hH e ?_ r.dropLast ?_,ru,q⟩
 ·show its.toArray.eraseIdxIfInBounds (its.toArray.size - 1)=its.dropLast.toArray;rw[O8,List.eraseIdxIfInBounds_toArray,qt]
 ·rw[List.length_dropLast]
  lia
noncomputable def yc:V->List V->Hp->VK->Prop:=λx vs H Q=>∃l xs,x= .ref l/\vs=[]/\H l=some (.lst xs)/\Q .bg (upd H l (.lst []))
theorem xG:HZ X "list.clear" yc:=by intro pins s σ H x vs v us Q I rx rv h;obtain⟨l,xs,rfl,rfl,hH,q⟩:=h;cases rx;have Gd:=rv.zero;subst Gd;obtain⟨z,its,n,r,hl,e⟩:=I.qQ hH;refine call_meets F.slot_list_clear ⟨_,e,rfl⟩ F.entry_list_clear (F.args_list_clear_1 _) (AutoSeq1.list_clear_list_0 l its.toArray n (by rw[O8];lia)) ⟨e,?_⟩;exact⟨.bg,_,I.An (its':=[]) (ys:=[]) hH e rfl .nil (Nat.zero_le _),rfl,q⟩
noncomputable def K1:R2:=λx y H Q=>∃l b xs zs,x= .ref l/\y= .ref b/\H l=some (.lst xs)/\H b=some (.lst zs)/\xs.length + zs.length<=sizeLine/\∀p,H p=none->Q (.ref p) (upd H p (.lst (xs++zs)))
theorem fy:kS X (binaryOp .Add) K1:=by
 intro pins s σ H x y v u Q I rx ry h;obtain⟨l,b,xs,zs,rfl,rfl,hH,hB,hz,q⟩:=h;cases rx;cases ry;obtain⟨z,its,n,r,hl,e⟩:=I.qQ hH;obtain⟨z2,aK,n2,r2,eB,e2⟩:=I.qQ hB;refine PySem.P.add_list e e2 ?_ (by rw[O8,O8];lia);have ea:its.toArray++aK.toArray=(its++aK).toArray:=by simp
 rw[ea];exact⟨.ref _,_,I.Gu (t':=s.toks) (r.append r2) (by rw[Po];lia),rfl,q _ I.fresh⟩
end
end L2
namespace Att
open PySem PySem.W PySem.Calls PyProof.Rows
theorem ji {P:Params} {h:Heap}:∀(ns:List Int) (vs:List Value),WellAll P h vs (ns.map WData.int)->IntsAre vs ns:=by
 intro ns
 induction ns with
 | nil=>intro vs w;rw[List.map_nil] at w;cases w;exact .nil
 | cons n ns ih=>
  intro vs w;rw[P1] at w;cases w with
  | cons a b=>cases a;exact .cons _ _ (ih _ b)
theorem u7 {l:OpenLaw} {n:Nat} (hn:l.most=some n) {P:Params} {h:Heap} {args:List WData} {vals:List Value}
  (z9:l.row.toRowW.claim.pre args=true) (ES:WellAll P h vals args):
  ∃a vs ns,vals=[Value.ref a]/\args=[WData.list (ns.map WData.int)]/\h.get? a=some {cls:= .type "list",data:= .seq vs.toArray}/\IntsAre vs ns/\ns.length<=n:=by
 have NZ:WShape.hasAll [] args [.list .int]=true:=(pre_splitW z9).1;have hc:l.pre.holds [] {args:=args}=true:=(pre_splitW z9).2;obtain⟨d,r,rfl,h1,h2⟩:=hasAllW_cons NZ;obtain rfl:=hasAllW_nil h2;obtain⟨xs,rfl,h3⟩:=hasW_list h1;obtain⟨ns,rfl⟩:=items_int h3;have hlen:ns.length<=n:=by
  unfold OpenLaw.pre at hc;have h4:(WTm.not (.lt (.lit (.int (n:Int))) (.len (.arg 0)))).holds [] {args:=[.list (ns.map .int)]}=true:=by have h4:=(holds_andW hc).1;rw[hn] at h4;exact h4
  have h5:=condW_of h4 (w_not (w_lt w_lit (w_len_list (w_arg rfl))));rw[Ph] at h5;refine Nat.le_of_not_lt λq=>?_
  have q':(n:Int) < ((ns.length:Nat):Int):=by lia
  first
   | (rw[PF q'] at h5;exact absurd h5 (by decide))
   | (simp at h5;lia)
 cases ES with
 | cons w1 w2=>
  cases w2;cases w1 with
  | list ho hall=>exact⟨_,_,ns,rfl,rfl,ho,ji ns _ hall,hlen⟩
theorem u3 (l:OpenLaw) (args:List WData):l.row.toRowW.claim.post args (.bool true) args=true:=
 postW_of (r:=l.row.toRowW) (X:=(true==true))
  (show WShape.has [] (.bool true) .bool=true by first | rfl | decide | simp[WShape.has,WShape.arms,WShape.armsAll])
  (show (WTm.eq .res (.lit (.bool true))).value [] {args:=args,res:=some (.bool true),after:=args}=some (.bool (true==true)) from w_eq_bool (w_res rfl) w_lit) rfl
theorem oy {l:OpenLaw} {n:Nat} {q:Program} {loose:List Str} {XP:(Str->Option Value)->Heap->Prop} {YP:World->Heap->Prop} {d:DefRec}
  (hn:l.most=some n) (FN:d.params.defaults=[])
  (call:∀(w:World) (s₀ s₁:Shared) (mg mb:Str->Option Value) (fa:Addr) (o:Obj) (pm cd doc:Value) (a:Addr) (vs:List Value) (ns:List Int),
   Ground q loose [] XP w s₀ mg mb s₁.heap->YP w s₁.heap->
   s₁.heap.get? fa=some o->o.data= .func (docDef d.name d.params d.body d.scope pm cd doc)->s₁.heap.CodeRec cd d.name->mg d.name=some (.ref fa)->
   s₁.heap.get? a=some {cls:= .type "list",data:= .seq vs.toArray}->IntsAre vs ns->ns.length<=n->s₁.gens=#[]->
   codeAny (model l.prog w) callerA (.call (.ref fa) ⟨[.ref a],[]⟩) (λr s'=>r= .ok (.ret (.bool true))/\OldK s₁.heap s'.heap/\s'.os=s₁.os/\AllBare s'.gens) s₁):
  WalkO q loose XP YP l.row.toRowW d [] (λf vs=>PySem.call f vs):=by
 intro w s₀ s₁ mg mb G Y fa o pm cd doc dV kV ho hd y9 hD hmg hg args vals as z9 hlay hrd ES mT;obtain rfl:dV= .none:=Dflts.none hD FN;obtain rfl:kV= .none:=Dflts.noKw hD;obtain⟨a,vs,ns,rfl,rfl,CN,hints,hlen⟩:=u7 hn z9 ES;refine enter_call (codeAny_mono (call w s₀ s₁ mg mb fa o pm cd doc a vs ns G Y ho (fd_plain hd) y9 hmg CN hints hlen hg) λr s' hq=>?_);obtain⟨rfl,h2,h3,h4⟩:=hq;exact⟨.inl ⟨.bool true,.bool true,[],rfl,λ_=>rfl,.bool true,u3 l _,λ_=>⟨List.Pairwise.nil,λ_ hm=>(nomatch hm)⟩⟩,h2,h3,h4⟩
end Att
namespace L2
open PySem PySem.Spec PyProof.Rows
theorem md:∀{vs:List Value} {ns:List Int},IntsAre vs ns->ar (ns.map V.int) vs
 | _,_,.nil=> .nil
 | _,_,.cons n t h=> .cons ⟨t,rfl⟩ (md h)
noncomputable def B3 (H:Hp):Prop:=∀b,H b=none\/∃o xs,H b=some (.sI o (.lst xs))
theorem xA {P:Program} {w:World} {K:PySem.W.Frag} {mg mb:Str->Option Value} {CX:jm} {k:Nat} {fa a:Addr} {fd:FuncData} {x:Str} {sp:Sp} {s₁:Shared} {vs:List Value} {ns:List Int}
  (KX:K.In s₁.heap) (BC:s₁.heap.Ns mainGlobals mg) (hb:s₁.heap.Ns builtinsNs mb) (oN:∀x:Str,x≠"__name__"->mb x=bootBuiltins x) (fm:s₁.heap.NoLimit) (hg:s₁.gens=#[])
  (ha:s₁.heap.get? a=some {cls:= .type "list",data:= .seq vs.toArray}) (hi:IntsAre vs ns) (hl:ns.length<=sizeLine) (hr:gM k callerA)
  (F:∀base:Heap,K.In base->base.Ns mainGlobals mg->iH P w K mg base CX k fa fd [x] sp) (FJ:∀(s:Shared) (u:Value),BindsTo s fd ⟨[u],[]⟩ [(x,u)])
  (n0:∀H:Hp,B3 H->cT K H a (ns.map V.int)->sp [.ref a] H (λv _=>v= .bl true) λ_ _ _=>False)
  (JT:∀H e s',CX [] H s₁ (λ_ _ _=>False) e s'->False):
  codeAny (model P w) callerA (.call (.ref fa) ⟨[.ref a],[]⟩) (λr s'=>r= .ok (.ret (.bool true))/\OldK s₁.heap s'.heap/\s'.os=s₁.os/\AllBare s'.gens) s₁:=by
 have rv:=md hi;have KH:=hi.length;have core:∀H:Hp,B3 H->cT K H a (ns.map V.int)->d4 P w H s₁.heap->(∀b,H b≠none->b=a)->(H a≠none->K.lookup a=none)->
   codeAny (model P w) callerA (.call (.ref fa) ⟨[.ref a],[]⟩) (λr s'=>r= .ok (.ret (.bool true))/\OldK s₁.heap s'.heap/\s'.os=s₁.os/\AllBare s'.gens) s₁:=by
  intro H hO hS hok hA hK;have r4:∀{b:Addr} {o:Obj},s₁.heap.get? b=some o->H b=none->(mS s₁.heap H).get? b=some o:=λe n=>wZ e n
  have GC:∀{b:Addr} {o:Obj} {es:Array DictEntry} {ep:Nat},s₁.heap.get? b=some o->o.data= .dict es ep->H b=none:=λ {b o es ep} e d=>by
   cases q:H b with
   | none=>rfl
   | some u=>have e':b=a:=hA b (by rw[q];simp);subst e';rw[ha] at e;cases e;have d':Data.seq vs.toArray _=Data.dict es ep:=d;cases d'
  have IK:∀{b:Addr} {m:Str->Option Value},s₁.heap.Ns b m->(mS s₁.heap H).Ns b m:=λ {b m} ⟨o,es,ep,e,d,r⟩=>⟨o,es,ep,r4 e (GC e d),d,r⟩
  have L3:K.In (mS s₁.heap H):=λb o e=>r4 (KX b o e) (by
   cases q:H b with
   | none=>rfl
   | some u=>
    have e':b=a:=hA b (by rw[q];simp);subst e';rw[hK (by rw[q];simp)] at e;cases e)
  have hM:Mod K mg (mS s₁.heap H):=⟨L3,IK BC,⟨mb,IK hb,oN⟩,let ⟨mc,h1,h2⟩:=fm;⟨mc,IK h1,h2⟩⟩;have e0:zl P w K mg (mS s₁.heap H) callerA [] s₁ H:=⟨rfl,hM,λb o e=>Ay e,Nat.le_of_eq (uG _ _),trivial,λb hb=>absurd (show b∈([]:List Addr) from hb) (by simp),hok,.of_eq hg⟩;refine codeAny_mono ((F _ L3 (IK BC)).run callerA [] s₁ H ⟨[.ref a],[]⟩ [.ref a] [.ref a] _ _ hr e0 (FJ s₁ (.ref a)) (.cons rfl .nil) (n0 H hO hS)) λr s' h=>?_
  cases r with
  | error e=>exact(JT H e s' h).elim
  | ok fl=>
   cases fl with
   | next=>exact False.elim h
   | brk=>exact False.elim h
   | cont=>exact False.elim h
   | ret u=>
    obtain⟨v,H',os,bare,un,zY,r',q⟩:=h;have q':v= .bl true:=q;subst q';obtain rfl:u=Value.bool true:=r';refine⟨rfl,OldK.of_keep λb o e=>?_,os,bare⟩;cases q:H b with
    | none=>exact un.keep b o e q (by intro z;exact absurd (show b∈([]:List Addr) from z) (by simp)) (by simp)
    | some u=>
     rcases hO b with z | ⟨ob,xs,z⟩
     ·rw[q] at z;cases z
     ·have z2:=un.frzs b ob _ z;obtain⟨e1,_⟩:=hok b _ z;obtain⟨e2,_⟩:=zY b _ z2;rw[e] at e1;cases e1;exact e2
 cases hk:K.lookup a with
 | some o=>have e:=KX a o hk;rw[ha] at e;cases e;refine core (λ_=>none) (λ_=> .inl rfl) (.inr ⟨_,vs.toArray,_,hk,rfl,rfl,rfl,by rw[O8,KH];exact hl,by simpa using rv⟩) (λb u z=>by have z':(none:Option HO)=some u:=z;cases z') (λb z=>absurd rfl z) λz=>absurd rfl z
 | none=>
  refine core (λb=>if b=a then some (.sI {cls:= .type "list",data:= .seq vs.toArray} (.lst (ns.map V.int))) else none) (λb=>?_) (.inl (.inr ⟨{cls:= .type "list",data:= .seq vs.toArray},if_pos rfl⟩)) (λb u z=>?_) (λb z=>?_) λ_=>hk
  ·by_cases hb:b=a
   ·exact .inr ⟨_,_,if_pos hb⟩
   ·exact .inl (if_neg hb)
  ·by_cases hb:b=a
   ·have z':=(if_pos hb).symm.trans z;cases z';subst hb;exact⟨ha,by rw[Ph];exact hl,vs,_,rv,ha⟩
   ·have z':=(if_neg hb).symm.trans z;cases z'
  ·by_cases hb:b=a
   ·exact hb
   ·exact absurd (if_neg hb) z
end L2
namespace L2
open PySem PySem.Spec PyProof.Rows
theorem Bh {l:PySem.W.OpenLaw} {n k:Nat} {q:Program} {loose:List Str} {XP:(Str->Option Value)->Heap->Prop} {YP:World->Heap->Prop} {d:DefRec} {K:Params->PySem.W.Frag} {CX:World->jm} {sp:World->Sp} {x:Str}
  (hn:l.most=some n) (kU:n<=sizeLine) (FN:d.params.defaults=[]) (hr:gM k callerA)
  (hY:∀(w:World) (h:Heap),YP w h->(K w.params).In h)
  (F:∀(w:World) (mg:Str->Option Value) (fa:Addr) (h:Heap),(K w.params).In h->h.Ns mainGlobals mg->mg d.name=some (.ref fa)->
   ∃fd:FuncData,(∀(s:Shared) (u:Value),BindsTo s fd ⟨[u],[]⟩ [(x,u)])/\
    ∀base:Heap,(K w.params).In base->base.Ns mainGlobals mg->iH l.prog w (K w.params) mg base (CX w) k fa fd [x] (sp w))
  (n0:∀(w:World) (H:Hp) (a:Addr) (ns:List Int),ns.length<=n->B3 H->cT (K w.params) H a (ns.map V.int)->sp w [.ref a] H (λv _=>v= .bl true) λ_ _ _=>False)
  (JT:∀(w:World) (H:Hp) (s:Shared) (e:Value) (s':Shared),CX w [] H s (λ_ _ _=>False) e s'->False):
  PySem.W.WalkO q loose XP YP l.row.toRowW d [] (λf vs=>PySem.call f vs):=by
 refine Att.oy hn FN λw s₀ s₁ mg mb fa o pm cd doc a vs ns G Y ho hd y9 hmg CN hints hlen hg=>?_
 have KX:=hY w _ Y;obtain⟨fd,hb,hF⟩:=F w mg fa _ KX G.T.g hmg;exact xA KX G.T.g G.T.b G.T.builtins G.T.nolimit hg CN hints (Pj hlen kU) hr hF hb (λH hO hS=>n0 w H a ns hlen hO hS) λH e s'=>JT w H s₁ e s'
end L2
namespace L2
open PySem PySem.Spec PyProof.Rows
noncomputable def mH (s:Stmt):Arguments:=match s with
 | .FunctionDef _ a _ _ _ _ _ _ _ _=>a
 | _=>{posonlyargs:=[],args:=[],vararg:=none,kwonlyargs:=[],kw_defaults:=[],kwarg:=none,defaults:=[]}
noncomputable def gU (s:Stmt):List Stmt:=match s with
 | .FunctionDef _ _ b _ _ _ _ _ _ _=>b
 | _=>[]
noncomputable def bh (s:Stmt):Scope:=match s with
 | .FunctionDef _ _ _ _ _ _ sc _ _ _=>sc
 | _=>{kind:= .function,names:=[],isGenerator:=false,isCoroutine:=false}
theorem Gj {A B:Prop} (h:B):if false=true then A else B:=by rw[if_neg Bool.false_ne_true];exact h
theorem Gk {A B:Prop} (h:A):if true=true then A else B:=by rw[if_pos rfl];exact h
noncomputable def bB (H H':Hp):Prop:=∀b o,H b=some o->H' b=some o
theorem bB.refl (H:Hp):bB H H:=λ_ _ h=>h
theorem bB.trans {H H1 H2:Hp} (a:bB H H1) (b:bB H1 H2):bB H H2:=λc o h=>b c o (a c o h)
end L2
end
section
namespace Mx
open PySem PyProof.Rows
inductive D where
 | int (i:Int)
 | str (x:Str)
 | tup (ds:List D)
mutual
noncomputable def D.gd:D->D->Bool
 | .int i,.int j=>i==j
 | .str x,.str y=>x==y
 | .tup a,.tup b=>D.eqs a b
 | _,_=>false
noncomputable def D.eqs:List D->List D->Bool
 | [],[]=>true
 | x::xs,y::ys=>D.gd x y&&D.eqs xs ys
 | _,_=>false
end
mutual
noncomputable def D.lt:D->D->Bool
 | .int i,.int j=>decide (i < j)
 | .int _,_=>true
 | .str _,.int _=>false
 | .str x,.str y=>decide (x.cps.toList < y.cps.toList)
 | .str _,.tup _=>true
 | .tup a,.tup b=>D.eK a b
 | .tup _,_=>false
noncomputable def D.eK:List D->List D->Bool
 | [],[]=>false
 | [],_::_=>true
 | _::_,[]=>false
 | x::xs,y::ys=>if D.gd x y=true then D.eK xs ys else D.lt x y
end
mutual
theorem D.cD:∀a b:D,D.gd a b=true↔a=b
 | .int i,.int j=>by simp[D.gd]
 | .str x,.str y=>by simp[D.gd]
 | .tup a,.tup b=>by simp only[D.gd,D.tup.injEq];exact D.sE a b
 | .int _,.str _=>by simp[D.gd]
 | .int _,.tup _=>by simp[D.gd]
 | .str _,.int _=>by simp[D.gd]
 | .str _,.tup _=>by simp[D.gd]
 | .tup _,.int _=>by simp[D.gd]
 | .tup _,.str _=>by simp[D.gd]
theorem D.sE:∀a b:List D,D.eqs a b=true↔a=b
 | [],[]=>by simp[D.eqs]
 | [],_::_=>by simp[D.eqs]
 | _::_,[]=>by simp[D.eqs]
 | x::xs,y::ys=>by simp only[D.eqs,O7,List.cons.injEq];rw[D.cD x y,D.sE xs ys]
end
noncomputable instance:DecidableEq D:=λa b=>if h:D.gd a b=true then isTrue ((D.cD a b).mp h) else isFalse λe=>h ((D.cD a b).mpr e)
theorem D.gW (a b:D):D.gd a b=decide (a=b):=by rw[Bool.eq_iff_iff,D.cD];simp
theorem D.c6 (x y:D) (xs ys:List D):D.eK (x::xs) (y::ys)=if x=y then D.eK xs ys else D.lt x y:=by
 rw[D.eK];by_cases h:x=y
 ·rw[if_pos h,if_pos ((D.cD x y).mpr h)]
 ·rw[if_neg h,if_neg λe=>h ((D.cD x y).mp e)]
mutual
theorem D.lt_irrefl:∀a:D,D.lt a a=false
 | .int i=>by simp[D.lt]
 | .str x=>by simp only[D.lt];exact strKind.irrefl _
 | .tup a=>by simp only[D.lt];exact D.j8 a
theorem D.j8:∀a:List D,D.eK a a=false
 | []=>by simp[D.eK]
 | x::xs=>by rw[D.c6,if_pos rfl];exact D.j8 xs
end
mutual
theorem D.dR:∀a b:D,D.lt a b=false->D.lt b a=false->a=b
 | .int i,.int j,h1,h2=>by simp only[D.lt,decide_eq_false_iff_not] at h1 h2;congr 1;lia
 | .str x,.str y,h1,h2=>by simp only[D.lt] at h1 h2;have:=strKind.total _ _ h1 h2;congr 1;cases x;cases y;simp only at this;congr 1;exact Array.toList_inj.mp this
 | .tup a,.tup b,h1,h2=>by simp only[D.lt] at h1 h2;rw[D.lR a b h1 h2]
 | .int _,.str _,h1,_=>by simp[D.lt] at h1
 | .int _,.tup _,h1,_=>by simp[D.lt] at h1
 | .str _,.int _,_,h2=>by simp[D.lt] at h2
 | .str _,.tup _,h1,_=>by simp[D.lt] at h1
 | .tup _,.int _,_,h2=>by simp[D.lt] at h2
 | .tup _,.str _,_,h2=>by simp[D.lt] at h2
theorem D.lR:∀a b:List D,D.eK a b=false->D.eK b a=false->a=b
 | [],[],_,_=>rfl
 | [],_::_,h1,_=>by simp[D.eK] at h1
 | _::_,[],_,h2=>by simp[D.eK] at h2
 | x::xs,y::ys,h1,h2=>by
  rw[D.c6] at h1 h2;by_cases h:x=y
  ·subst h;rw[if_pos rfl] at h1 h2;rw[D.lR xs ys h1 h2]
  ·rw[if_neg h] at h1;rw[if_neg (Ne.symm h)] at h2;exact absurd (D.dR x y h1 h2) h
end
mutual
theorem D.lt_trans:∀a b c:D,D.lt a b=true->D.lt b c=true->D.lt a c=true
 | .int i,.int j,.int k,h1,h2=>by simp only[D.lt,decide_eq_true_eq] at *;lia
 | .int _,_,.str _,_,_=>by simp[D.lt]
 | .int _,_,.tup _,_,_=>by simp[D.lt]
 | .int _,.str _,.int _,_,h2=>by simp[D.lt] at h2
 | .int _,.tup _,.int _,_,h2=>by simp[D.lt] at h2
 | .str _,.int _,_,h1,_=>by simp[D.lt] at h1
 | .str x,.str y,.str z,h1,h2=>by simp only[D.lt] at *;exact strKind.trans _ _ _ h1 h2
 | .str _,.str _,.int _,_,h2=>by simp[D.lt] at h2
 | .str _,_,.tup _,_,_=>by simp[D.lt]
 | .str _,.tup _,.int _,_,h2=>by simp[D.lt] at h2
 | .str _,.tup _,.str _,_,h2=>by simp[D.lt] at h2
 | .tup _,.int _,_,h1,_=>by simp[D.lt] at h1
 | .tup _,.str _,_,h1,_=>by simp[D.lt] at h1
 | .tup _,.tup _,.int _,_,h2=>by simp[D.lt] at h2
 | .tup _,.tup _,.str _,_,h2=>by simp[D.lt] at h2
 | .tup a,.tup b,.tup c,h1,h2=>by simp only[D.lt] at *;exact D.lS a b c h1 h2
theorem D.lS:∀a b c:List D,D.eK a b=true->D.eK b c=true->D.eK a c=true
 | [],[],_,h1,_=>by simp[D.eK] at h1
 | [],_::_,[],_,h2=>by simp[D.eK] at h2
 | [],_::_,_::_,_,_=>by simp[D.eK]
 | _::_,[],_,h1,_=>by simp[D.eK] at h1
 | _::_,_::_,[],_,h2=>by simp[D.eK] at h2
 | x::xs,y::ys,z::zs,h1,h2=>by
  rw[D.c6] at h1 h2 ⊢;by_cases h:x=y
  ·subst h;rw[if_pos rfl] at h1;by_cases h':x=z
   ·rw[if_pos h'] at h2 ⊢;exact D.lS xs ys zs h1 h2
   ·rw[if_neg h'] at h2 ⊢;exact h2
  ·rw[if_neg h] at h1;by_cases h':y=z
   ·subst h';rw[if_neg h];exact h1
   ·rw[if_neg h'] at h2;have h3:=D.lt_trans x y z h1 h2;by_cases h'':x=z
    ·subst h'';rw[D.lt_irrefl] at h3;cases h3
    ·rw[if_neg h''];exact h3
end
@[reducible] noncomputable def Fp:KeyOrd where
 α:=D
 blt:=D.lt
 irrefl:=D.lt_irrefl
 trans:=D.lt_trans
 negTrans:=λa b c h=>by
  cases h1:D.lt a b with
  | true=>exact .inl rfl
  | false=>
   right;cases h2:D.lt b a with
   | true=>exact D.lt_trans b a c h2 h
   | false=>rw[D.dR a b h1 h2] at h;exact h
 total:=D.dR
end Mx
end
section
namespace MxSort
open PySem PySem.W PyProof.Rows
section
variable {O:KeyOrd} {key:Nat->O.α}
noncomputable def qK (key:Nat->O.α) (p:Array Nat) (i:Nat):O.α:=key (p.getD i 0)
noncomputable def Up (key:Nat->O.α) (p:Array Nat) (n:Nat):Prop:=∀i j,i<=j->j < n->O.kle (qK key p i) (qK key p j)
noncomputable def Dn (key:Nat->O.α) (p:Array Nat) (n:Nat):Prop:=∀i j,i<=j->j < n->O.kle (qK key p j) (qK key p i)
theorem sJ {p q:Array Nat} {i j:Nat} (h:p[i]?=q[j]?):p.getD i 0=q.getD j 0:=by
 have e1:∀(p:Array Nat) (i:Nat),p.getD i 0=(p[i]?).getD 0:=λp i=>by simp[Array.getD_eq_getD_getElem?]
 rw[e1,e1,h]
theorem sX {p:Array Nat} {i j:Nat} (hj:j<=p.size) (k:Nat):qK key (kas_rev p i j) k=if i<=k/\k < j then qK key p (i + j - 1 - k) else qK key p k:=by
 have e:=getElem?_mirror_all (i:=i) hj k;unfold kas_rev qK;by_cases h1:i<=k/\k < j
 ·rw[if_pos h1] at e ⊢;exact congrArg key (sJ e)
 ·rw[if_neg h1] at e ⊢;exact congrArg key (sJ e)
noncomputable def Ord (N:Nat) (p:Array Nat):Prop:=p.toList.Perm (List.range N)
theorem Ord.size {N:Nat} {p:Array Nat} (h:Ord N p):p.size=N:=by have:=h.length_eq;rw[List.length_range] at this;rw[<-this];simp
variable {cmp:Nat->Nat->(Bool->Shared->Prop)->Shared->Prop} {s:Shared} {N:Nat}
noncomputable def Tells (O:KeyOrd) (key:Nat->O.α) (cmp:Nat->Nat->(Bool->Shared->Prop)->Shared->Prop) (N:Nat) (s:Shared):Prop:=
 ∀i j,i < N->j < N->∀C:Bool->Shared->Prop,C (O.blt (key i) (key j)) s->cmp i j C s
theorem Up.succ {p:Array Nat} {n:Nat} (h:Up key p n) (h1:1<=n) (h2:O.kle (qK key p (n - 1)) (qK key p n)):Up key p (n + 1):=λi j fN hj=>by
 by_cases e:j=n
 ·subst e;by_cases e2:i=j
  ·subst e2;exact KeyOrd.kle_refl _
  ·exact PC (h i (j - 1) (by lia) (by lia)) h2
 ·exact h i j fN (by lia)
theorem Dn.succ {p:Array Nat} {n:Nat} (h:Dn key p n) (h1:1<=n) (h2:O.kle (qK key p n) (qK key p (n - 1))):Dn key p (n + 1):=λi j fN hj=>by
 by_cases e:j=n
 ·subst e;by_cases e2:i=j
  ·subst e2;exact KeyOrd.kle_refl _
  ·exact PC h2 (h i (j - 1) (by lia) (by lia))
 ·exact h i j fN (by lia)
theorem Dn.of {p q:Array Nat} {n:Nat} (e:∀k,qK key q k=qK key p k) (h:Dn key p n):Dn key q n:=λi j a b=>by rw[e,e];exact h i j a b
theorem yG {p:Array Nat} {n:Nat} (hn:n<=p.size) (h:Dn key p n):Up key (kas_rev p 0 n) n:=λi j fN hj=>by rw[sX hn,sX hn,if_pos (by lia),if_pos (by lia)];exact h _ _ (by lia) (by lia)
end
end MxSort
end
section
namespace Mx
open PySem PySem.Spec PyProof.Rows L2 PySem.SeqAt
mutual
noncomputable def D.dep:D->Nat
 | .int _=>0
 | .str _=>0
 | .tup ds=>D.cn ds + 1
noncomputable def D.cn:List D->Nat
 | []=>0
 | d::ds=>max (D.dep d) (D.cn ds)
end
mutual
noncomputable def DV (H:Hp):V->D->Prop
 | x,.int i=>x= .int i
 | x,.str z=>x= .str z
 | x,.tup ds=>∃a xs,x= .ref a/\H a=some (.tup xs)/\aX H xs ds
noncomputable def aX (H:Hp):List V->List D->Prop
 | [],[]=>True
 | x::xs,d::ds=>DV H x d/\aX H xs ds
 | [],_::_=>False
 | _::_,[]=>False
end
theorem aX.nil {H:Hp}:aX H [] []:=by unfold aX;trivial
theorem aX.cons {H:Hp} {x:V} {xs:List V} {d:D} {ds:List D} (h:DV H x d) (t:aX H xs ds):aX H (x::xs) (d::ds):=by unfold aX;exact⟨h,t⟩
theorem DV.int {H:Hp} {i:Int}:DV H (.int i) (.int i):=by unfold DV;rfl
theorem DV.str {H:Hp} {x:Str}:DV H (.str x) (.str x):=by unfold DV;rfl
theorem DV.tup {H:Hp} {a:Addr} {xs:List V} {ds:List D} (h:H a=some (.tup xs)) (t:aX H xs ds):DV H (.ref a) (.tup ds):=by unfold DV;exact⟨a,xs,rfl,h,t⟩
theorem DV.ag {H:Hp} {x:V} {ds:List D} (h:DV H x (.tup ds)):∃a xs,x= .ref a/\H a=some (.tup xs)/\aX H xs ds:=by unfold DV at h;exact h
theorem DV.int_inv {H:Hp} {x:V} {i:Int} (h:DV H x (.int i)):x= .int i:=by unfold DV at h;exact h
theorem DV.str_inv {H:Hp} {x:V} {i:Str} (h:DV H x (.str i)):x= .str i:=by unfold DV at h;exact h
theorem aX.cons_inv {H:Hp} {xs:List V} {d:D} {ds:List D} (h:aX H xs (d::ds)):∃x r,xs=x::r/\DV H x d/\aX H r ds:=by
 cases xs with
 | nil=>unfold aX at h;exact h.elim
 | cons x r=>unfold aX at h;exact⟨x,r,rfl,h⟩
theorem aX.length {H:Hp}:∀{xs:List V} {ds:List D},aX H xs ds->xs.length=ds.length
 | [],[],_=>rfl
 | [],_::_,h=>by unfold aX at h;exact h.elim
 | _::_,[],h=>by unfold aX at h;exact h.elim
 | _::xs,_::ds,h=>by unfold aX at h;simp[aX.length h.2]
theorem aX.get {H:Hp}:∀{xs:List V} {ds:List D} {i:Nat} {x:V},aX H xs ds->xs[i]?=some x->∃d,ds[i]?=some d/\DV H x d
 | [],_,_,_,_,e=>by simp at e
 | _::_,[],_,_,h,_=>by unfold aX at h;exact h.elim
 | _::_,_::_,0,_,h,e=>by unfold aX at h;simp at e;subst e;exact⟨_,rfl,h.1⟩
 | _::xs,_::ds,i + 1,x,h,e=>by unfold aX at h;obtain⟨d,e1,e2⟩:=aX.get (i:=i) h.2 (by simpa using e);exact⟨d,by simpa using e1,e2⟩
theorem aX.append {H:Hp}:∀{xs ys:List V} {ds es:List D},aX H xs ds->aX H ys es->aX H (xs++ys) (ds++es)
 | [],_,[],_,_,h=>h
 | [],_,_::_,_,h,_=>by unfold aX at h;exact h.elim
 | _::_,_,[],_,h,_=>by unfold aX at h;exact h.elim
 | _::xs,ys,_::ds,es,h,h'=>by unfold aX at h;exact aX.cons h.1 (aX.append h.2 h')
noncomputable def zq (H H':Hp):Prop:=∀a xs,H a=some (.tup xs)->H' a=some (.tup xs)
mutual
theorem DV.mono {H H':Hp} (t:zq H H'):∀{x:V} {d:D},DV H x d->DV H' x d
 | x,.int i,h=>by unfold DV at h ⊢;exact h
 | x,.str z,h=>by unfold DV at h ⊢;exact h
 | x,.tup ds,h=>by obtain⟨a,xs,e,e1,e2⟩:=h.ag;subst e;exact DV.tup (t a xs e1) (aX.mono t e2)
theorem aX.mono {H H':Hp} (t:zq H H'):∀{xs:List V} {ds:List D},aX H xs ds->aX H' xs ds
 | [],[],_=>aX.nil
 | [],_::_,h=>by unfold aX at h;exact h.elim
 | _::_,[],h=>by unfold aX at h;exact h.elim
 | _::xs,_::ds,h=>by unfold aX at h;exact aX.cons (DV.mono t h.1) (aX.mono t h.2)
end
mutual
theorem DV.inj {H:Hp}:∀{x:V} {d e:D},DV H x d->DV H x e->d=e
 | x,.int i,e,h1,h2=>by
  have:=h1.int_inv;subst this;cases e with
  | int j=>have:=h2.int_inv;injection this with q;rw[q]
  | str j=>have:=h2.str_inv;cases this
  | tup j=>obtain⟨_,_,q,_⟩:=h2.ag;cases q
 | x,.str i,e,h1,h2=>by
  have:=h1.str_inv;subst this;cases e with
  | int j=>have:=h2.int_inv;cases this
  | str j=>have:=h2.str_inv;injection this with q;rw[q]
  | tup j=>obtain⟨_,_,q,_⟩:=h2.ag;cases q
 | x,.tup ds,e,h1,h2=>by
  obtain⟨a,xs,q,e1,e2⟩:=h1.ag;subst q;cases e with
  | int j=>have:=h2.int_inv;cases this
  | str j=>have:=h2.str_inv;cases this
  | tup j=>obtain⟨b,ys,q,f1,f2⟩:=h2.ag;cases q;rw[e1] at f1;cases f1;rw[aX.inj e2 f2]
theorem aX.inj {H:Hp}:∀{xs:List V} {ds es:List D},aX H xs ds->aX H xs es->ds=es
 | [],[],[],_,_=>rfl
 | [],[],_::_,_,h=>by unfold aX at h;exact h.elim
 | [],_::_,_,h,_=>by unfold aX at h;exact h.elim
 | _::_,[],_,h,_=>by unfold aX at h;exact h.elim
 | _::_,_::_,[],_,h=>by unfold aX at h;exact h.elim
 | _::xs,_::ds,_::es,h1,h2=>by unfold aX at h1 h2;rw[DV.inj h1.1 h2.1,aX.inj h1.2 h2.2]
end
noncomputable def Ie (ds es:List D) (j:Nat):Bool:=match ds[j]?,es[j]? with
 | some d,some e=>D.gd d e
 | _,_=>true
theorem rT:∀ds es:List D,((List.range (min ds.length es.length)).all (Ie ds es)&&ds.length==es.length)=D.eqs ds es
 | [],[]=>by simp[D.eqs]
 | [],_::_=>by simp[D.eqs]
 | _::_,[]=>by simp[D.eqs]
 | d::ds,e::es=>by
  have ih:=rT ds es;have hm:min (d::ds).length (e::es).length=min ds.length es.length + 1:=by simp only[Pq];lia
  have e1:((d::ds).length==(e::es).length)=(ds.length==es.length):=by rw[Bool.eq_iff_iff];simp
  rw[hm,List.range_succ_eq_map,List.all_cons,List.all_map,e1,D.eqs,<-ih,Bool.and_assoc];rfl
theorem mI {d:D}:∀{ds:List D} {j:Nat},ds[j]?=some d->D.dep d<=D.cn ds
 | [],_,h=>by simp at h
 | d'::ds,0,h=>by simp at h;subst h;unfold D.cn;lia
 | d'::ds,j + 1,h=>by have:=mI (ds:=ds) (j:=j) (by simpa using h);unfold D.cn;lia
section
variable {P:Program} {w:World} {H:Hp} {s:Shared}
theorem au (hok:d4 P w H s.heap) {a:Addr} {xs:List V} (h:H a=some (.tup xs)):∃its:List Value,ar xs its/\s.heap.IsTuple a its.toArray:=by obtain⟨_,its,r,t⟩:=hok a _ h;exact⟨its,r,t⟩
theorem eq_data (hok:d4 P w H s.heap):∀(n:Nat) (d e:D) (x y:V) (u v:Value) (A:Around),D.dep d<=n->A.units + n < cLine->DV H x d->DV H y e->RelV x u->RelV y v->EqAt A s u v (D.gd d e):=by
 intro n
 induction n with
 | zero=>
  intro d e x y u v A hd hu hx hy rx ry;cases d with
  | int i=>
   have:=hx.int_inv;subst this;obtain⟨t,rfl⟩:=rx;cases e with
   | int j=>have:=hy.int_inv;subst this;obtain⟨t',rfl⟩:=ry;exact EqAt.int_int i t j t'
   | str j=>have:=hy.str_inv;subst this;obtain⟨t',rfl⟩:=ry;exact EqAt.int_str i t j t'
   | tup j=>obtain⟨b,ys,q,f1,f2⟩:=hy.ag;subst q;cases ry;obtain⟨its,_,ht⟩:=au hok f1;exact EqAt.int_tuple i t ht (by lia)
  | str i=>
   have:=hx.str_inv;subst this;obtain⟨t,rfl⟩:=rx;cases e with
   | int j=>have:=hy.int_inv;subst this;obtain⟨t',rfl⟩:=ry;exact EqAt.str_int i t j t'
   | str j=>have:=hy.str_inv;subst this;obtain⟨t',rfl⟩:=ry;exact EqAt.str_str i t j t'
   | tup j=>obtain⟨b,ys,q,f1,f2⟩:=hy.ag;subst q;cases ry;obtain⟨its,_,ht⟩:=au hok f1;exact EqAt.str_tuple i t ht (by lia)
  | tup ds=>unfold D.dep at hd;lia
 | succ n ih=>
  intro d e x y u v A hd hu hx hy rx ry;cases d with
  | int i=>exact ih (.int i) e x y u v A (by unfold D.dep;lia) (by lia) hx hy rx ry
  | str i=>exact ih (.str i) e x y u v A (by unfold D.dep;lia) (by lia) hx hy rx ry
  | tup ds=>
   obtain⟨a,xs,q,e1,e2⟩:=hx.ag;subst q;cases rx;obtain⟨its,r1,ht⟩:=au hok e1;cases e with
   | int j=>have:=hy.int_inv;subst this;obtain⟨t',rfl⟩:=ry;exact EqAt.tuple_int j t' ht (by lia)
   | str j=>have:=hy.str_inv;subst this;obtain⟨t',rfl⟩:=ry;exact EqAt.tuple_str j t' ht (by lia)
   | tup es=>
    obtain⟨b,ys,q,f1,f2⟩:=hy.ag;subst q;cases ry;obtain⟨aK,r2,bR⟩:=au hok f1;by_cases gv:a=b
    ·subst gv;rw[e1] at f1;cases f1;have:=aX.inj e2 f2;subst this;have q:D.gd (.tup ds) (.tup ds)=true:=(D.cD _ _).mpr rfl;rw[q];exact EqAt.same _
    ·have l1:its.toArray.size=ds.length:=by rw[O8,<-r1.length,e2.length]
     have l2:aK.toArray.size=es.length:=by rw[O8,<-r2.length,f2.length]
     have key:=RcAt.tuples (A:=A) (e:=Ie ds es) ht bR (by lia) (λj h1 h2=>?_)
     ·have q:=rT ds es;rw[<-l1,<-l2] at q;rw[q] at key;exact EqAt.of_refs gv key
     ·have iG:j < xs.length:=by rw[e2.length,<-l1];exact h1
      have lK:j < ys.length:=by rw[f2.length,<-l2];exact h2
      obtain⟨d,g1,g2⟩:=e2.get (i:=j) (x:=xs[j]) (by simp[iG]);obtain⟨e,k1,k2⟩:=f2.get (i:=j) (x:=ys[j]) (by simp[lK]);obtain⟨u,vq,ru⟩:=r1.get (i:=j) (x:=xs[j]) (by simp[iG]);obtain⟨v,Aa,rv⟩:=r2.get (i:=j) (x:=ys[j]) (by simp[lK]);have eu:its.toArray[j]=u:=by have:its[j]?=some u:=vq;simp only[List.getElem_toArray];have q:=Pa.mp this;exact q.2
      have ev:aK.toArray[j]=v:=by have:aK[j]?=some v:=Aa;simp only[List.getElem_toArray];have q:=Pa.mp this;exact q.2
      rw[eu,ev];have ee:Ie ds es j=D.gd d e:=by unfold Ie;rw[g1,k1]
      rw[ee];refine ih d e xs[j] ys[j] u v A.in1 ?_ (by show A.units + 1 + n < cLine;lia) g2 k2 ru rv;have:=mI g1;unfold D.dep at hd
      lia
end
mutual
noncomputable def D.ek:D->D->Prop
 | .int _,.int _=>True
 | .str _,.str _=>True
 | .tup a,.tup b=>D.gg a b
 | _,_=>False
noncomputable def D.gg:List D->List D->Prop
 | x::xs,y::ys=>D.ek x y/\D.gg xs ys
 | _,_=>True
end
noncomputable def B0 (A:Around) (s:Shared) (u v:Value) (b:Bool):Prop:=
 ∀(prog:Program) (w:World) (E:Value->Shared->Prop) (Q:Value->Shared->Prop),Q (.bool b) s->wpAny (model prog w) A (richCompare .Lt u v) Q E s
inductive Zp (A:Around) (s:Shared):List Value->List Value->List D->List D->Prop
 | nil {ws:List Value} {es:List D}:ws.length=es.length->Zp A s [] ws [] es
 | Aw {vs:List Value} {ds:List D}:vs.length=ds.length->Zp A s vs [] ds []
 | cons {v w:Value} {d e:D} {vs ws:List Value} {ds es:List D}:EqAt A s v w (D.gd d e)->(d≠e->B0 A s v w (D.lt d e))->Zp A s vs ws ds es->Zp A s (v::vs) (w::ws) (d::ds) (e::es)
section
open PySem.AutoSeq1 (wpAny_loadPart')
open PySem.MeetsSeq PySem.MeetsSeq2 PySem.MeetsSeq3
theorem lh (l b:Addr) (items fu:Array Value) (n n2:Nat) (dd yY:Option Addr) (sl vt:Array (Option Value)) (ds es:List D) (z1:items.size=ds.length) (z2:fu.size=es.length):
  Meets (Builtin.«tuple.__lt__» ⟨[.ref l,.ref b],[]⟩)
   (λA R s=>s.heap.get? l=some {cls:= .type "tuple",dict:=dd,data:= .seq items n,slots:=sl}/\s.heap.get? b=some {cls:= .type "tuple",dict:=yY,data:= .seq fu n2,slots:=vt}/\
    Zp A.in1 s items.toList fu.toList ds es/\R (.ok (.ret (.bool (D.eK ds es)))) s):=
 .of_wp λprog w A R s h=>by
  obtain⟨hp,g,d,tk,os⟩:=s;obtain⟨hl,hb,Od,h⟩:=h;have f2:=AutoSeq1.sub_tuple_tuple
  wp_walk using wpAny_loadPart' hl,wpAny_loadPart' hb,wpAny_forIn_list _ (λrest b s'=>b.1=none/\s'=⟨hp,g,d,tk,os⟩/\∃(vs ws:List Value) (vk dk:List D),rest=vs.zip ws/\
   Zp A.in1 ⟨hp,g,d,tk,os⟩ vs ws vk dk/\vk.length + fu.size=dk.length + items.size/\R (.ok (.ret (.bool (D.eK vk dk)))) ⟨hp,g,d,tk,os⟩) _
  case turn=>
   rintro⟨y,x⟩ rest b s' ⟨lL,rfl,vs,ws,vk,dk,hz,Kx,hlen,hR⟩;cases Kx with
   | nil _=>rw[List.zip_nil_left] at hz;cases hz
   | Aw _=>rw[List.zip_nil_right] at hz;cases hz
   | cons he hl Gg=>
    rename_i v wv d0 e0 vv ws' ds'' es'';rw[List.zip_cons_cons] at hz;injection hz with hyx F9;injection hyx with hy hx;subst hy hx;rw[D.c6] at hR;simp only[Pq] at hlen;refine O3 (he prog w _ _ ?_);by_cases hde:d0=e0
    ·rw[if_pos hde] at hR;rw[(D.cD d0 e0).mpr hde]
     wp_walk
     exact⟨rfl,rfl,_,_,_,_,F9,Gg,by lia,hR⟩
    ·rw[if_neg hde] at hR;have M5:D.gd d0 e0=false:=by rw[D.gW];exact Py hde
     rw[M5];have NW:=hl hde prog w
     wp_walk using NW
     exact⟨_,rfl,by simpa using hR⟩
  case fin=>
   rintro⟨b1,b2⟩ s' ⟨lL,rfl,vs,ws,vk,dk,hz,Kx,hlen,hR⟩;simp only at lL;subst lL;have hv:D.eK vk dk=decide (items.size < fu.size):=by
    cases Kx with
    | nil _=>
     cases dk with
     | nil=>simp only[List.length_nil] at hlen;rw[D.eK];exact(Py (by lia)).symm
     | cons c u=>simp only[List.length_nil,Pq] at hlen;rw[D.eK];exact(PF (by lia)).symm
    | Aw _=>
     cases vk with
     | nil=>simp only[List.length_nil] at hlen;rw[D.eK];exact(Py (by lia)).symm
     | cons c u=>simp only[List.length_nil,Pq] at hlen;rw[D.eK];exact(Py (by lia)).symm
    | cons he hl Gg=>rw[List.zip_cons_cons] at hz;cases hz
   rw[hv] at hR
   wp_walk
   exact⟨_,rfl,by simpa [Builtin.Tuple.tupleCompareSizes] using hR⟩
  case h=>exact⟨rfl,rfl,items.toList,fu.toList,ds,es,rfl,Od,by lia,h⟩
end
section
variable {P:Program} {w:World} {H:Hp} {s:Shared}
theorem yW (hok:d4 P w H s.heap) {A:Around} {n:Nat} (hu:A.units + n < cLine) (ih:∀(d e:D) (x y:V) (u v:Value),D.dep d<=n->D.ek d e->DV H x d->DV H y e->RelV x u->RelV y v->B0 A s u v (D.lt d e)):
  ∀{xs ys:List V} {us vs:List Value} {ds es:List D},D.cn ds<=n->D.gg ds es->aX H xs ds->aX H ys es->ar xs us->ar ys vs->Zp A s us vs ds es
 | [],ys,us,vs,[],es,_,_,_,h2,r1,r2=>by cases r1;exact .nil (by rw[<-r2.length,h2.length])
 | x::xs,[],us,vs,ds,[],_,_,h1,_,r1,r2=>by cases r2;exact .Aw (by rw[<-r1.length,h1.length])
 | [],_,_,_,_::_,_,_,_,h,_,_,_=>by unfold aX at h;exact h.elim
 | _::_,_,_,_,[],_,_,_,h,_,_,_=>by unfold aX at h;exact h.elim
 | _::_,[],_,_,_::_,_::_,_,_,_,h,_,_=>by unfold aX at h;exact h.elim
 | _::_,_::_,_,_,_::_,[],_,_,_,h,_,_=>by unfold aX at h;exact h.elim
 | x::xs,y::ys,us,vs,d::ds,e::es,hd,hl,h1,h2,r1,r2=>by
  unfold aX at h1 h2;unfold D.gg at hl;unfold D.cn at hd;cases r1 with
  | cons r1 t1=>
   cases r2 with
   | cons r2 t2=>exact .cons (eq_data hok n d e x y _ _ A (by lia) hu h1.1 h2.1 r1 r2) (λ_=>ih d e x y _ _ (by lia) hl.1 h1.1 h2.1 r1 r2) (yW hok hu ih (by lia) hl.2 h1.2 h2.2 t1 t2)
theorem Ao (hok:d4 P w H s.heap):∀(n:Nat) (d e:D) (x y:V) (u v:Value) (A:Around),D.dep d<=n->A.units + n < cLine->D.ek d e->DV H x d->DV H y e->RelV x u->RelV y v->B0 A s u v (D.lt d e):=by
 intro n
 induction n with
 | zero=>
  intro d e x y u v A hd hu hl hx hy rx ry;cases d with
  | int i=>
   have:=hx.int_inv;subst this;obtain⟨t,rfl⟩:=rx;cases e with
   | int j=>have:=hy.int_inv;subst this;obtain⟨t',rfl⟩:=ry;intro prog wd E Q q;exact(PyProof.Rows.lt_int q:wpAny (model prog wd) A (compareOp .Lt (.int i t) (.int j t')) Q E s)
   | str j=>unfold D.ek at hl;exact hl.elim
   | tup j=>unfold D.ek at hl;exact hl.elim
  | str i=>
   have:=hx.str_inv;subst this;obtain⟨t,rfl⟩:=rx;cases e with
   | int j=>unfold D.ek at hl;exact hl.elim
   | str j=>have:=hy.str_inv;subst this;obtain⟨t',rfl⟩:=ry;intro prog wd E Q q;exact(PySem.P.lt_str q:wpAny (model prog wd) A (compareOp .Lt (.str i t) (.str j t')) Q E s)
   | tup j=>unfold D.ek at hl;exact hl.elim
  | tup ds=>unfold D.dep at hd;lia
 | succ n ih=>
  intro d e x y u v A hd hu hl hx hy rx ry;cases d with
  | int i=>exact ih (.int i) e x y u v A (by unfold D.dep;lia) (by lia) hl hx hy rx ry
  | str i=>exact ih (.str i) e x y u v A (by unfold D.dep;lia) (by lia) hl hx hy rx ry
  | tup ds=>
   obtain⟨a,xs,q,e1,e2⟩:=hx.ag;subst q;cases rx;cases e with
   | int j=>unfold D.ek at hl;exact hl.elim
   | str j=>unfold D.ek at hl;exact hl.elim
   | tup es=>
    obtain⟨b,ys,q,f1,f2⟩:=hy.ag;subst q;cases ry;obtain⟨its,r1,ht⟩:=au hok e1;obtain⟨aK,r2,bR⟩:=au hok f1;have l1:its.toArray.size=ds.length:=by rw[O8,<-r1.length,e2.length]
    have l2:aK.toArray.size=es.length:=by rw[O8,<-r2.length,f2.length]
    have qD:D.cn ds<=n:=by unfold D.dep at hd;lia
    have CL:D.gg ds es:=by unfold D.ek at hl;exact hl
    have zz:Zp A.in1 s its aK ds es:=yW hok (n:=n) (by show A.units + 1 + n < cLine;lia) (λd e x y u v hd2 eB Ac hy2 rx2 ry2=>ih d e x y u v A.in1 hd2 (by show A.units + 1 + n < cLine;lia) eB Ac hy2 rx2 ry2) qD CL e2 f2 r1 r2;intro prog wd E Q q;obtain⟨⟨cls,dd,data,sl⟩,ho,hc,k,zV⟩:=id ht;obtain⟨⟨Fk,yY,data2,vt⟩,sP,uB,k2,qE⟩:=id bR;simp only at hc zV uB qE;subst hc zV uB qE;have q':Q (.bool (D.eK ds es)) s:=by have z:=q;unfold D.lt at z;exact z
    exact richCompare_meets_room (op:= .Lt) ⟨_,ho,rfl⟩ ⟨_,sP,rfl⟩ PySem.F.slot_tuple_lt PySem.F.entry_tuple_lt (PySem.F.args_tuple_lt_2 _ _) (lh a b its.toArray aK.toArray k k2 dd yY sl vt ds es l1 l2)
     ⟨ho,sP,zz,show Value.bool (D.eK ds es)≠Value.notImplemented/\Q (.bool (D.eK ds es)) s from⟨(λx=>nomatch x),q'⟩⟩ (by lia)
end
end Mx
end
section
namespace Mx
open PySem PySem.W PySem.Spec PyProof.Rows L2 PySem.SeqAt MxSort
section
variable {P:Program} {w:World} {H:Hp} {prog:Program} {s:Shared} {A:Around}
theorem Aj {b:Bool} {n m:Nat} {Q:Bool->Shared->Prop} {us vs:List Value} {ds es:List D} (z:Zp A s us vs ds es):∀(i:Nat),1<=i->ds.length + m=es.length + n->Q (D.eK ds es) s->KatLex prog w A b (decide (n < m)) Q (us.zip vs) i s:=by
 induction z with
 | nil hl=>
  intro i hi hlen q;rw[List.zip_nil_left];refine kat_nil ?_;rename_i ws es;cases es with
  | nil=>simp only[List.length_nil] at hlen;rw[D.eK] at q;rw[Py (by lia)];exact q
  | cons c u=>simp only[List.length_nil,Pq] at hlen;rw[D.eK] at q;rw[PF (by lia)];exact q
 | Aw hl=>
  intro i hi hlen q;rw[List.zip_nil_right];refine kat_nil ?_;rename_i vs ds;cases ds with
  | nil=>simp only[List.length_nil] at hlen;rw[D.eK] at q;rw[Py (by lia)];exact q
  | cons c u=>simp only[List.length_nil,Pq] at hlen;rw[D.eK] at q;rw[Py (by lia)];exact q
 | cons he hl z' ih=>
  intro i hi hlen q;rename_i v wv d e vv ws' vk dk;rw[List.zip_cons_cons];simp only[Pq] at hlen;rw[D.c6] at q;refine kat_cons (he prog w _ _ ?_);by_cases hde:d=e
  ·rw[(D.cD d e).mpr hde];rw[if_pos hde] at q;exact kat_yes (ih (i + 1) (by lia) (by lia) q)
  ·rw[show D.gd d e=false by rw[D.gW];exact Py hde];rw[if_neg hde] at q;refine kat_no ?_;rw[show (b&&i==0)=false by rw[show (i==0)=false by simp;lia];simp];exact kat_one v wv (hl hde prog w _ _ q)
end
noncomputable def gN (ds es:List D):Prop:=es.Perm ds/\es.Pairwise λa b=>D.lt b a=false
theorem aX.map {H:Hp} {xs:List V} {ds:List D} (h:aX H xs ds):∀{p:List Nat},(∀i∈p,i < xs.length)->aX H (p.map λi=>xs.getD i .bg) (p.map λi=>ds.getD i (.int 0))
 | [],_=>aX.nil
 | i::p,hp=>by have hi:=hp i Pe;obtain⟨d,e1,e2⟩:=h.get (i:=i) (x:=xs[i]) (by simp[hi]);refine aX.cons ?_ (aX.map h λj hj=>hp j (Pb _ hj));dsimp only;rw[show xs.getD i .bg=xs[i] by simp[hi],show ds.getD i (.int 0)=d by simp[e1]];exact e2
theorem pT {xs:List V} {us:List Value} (h:ar xs us):∀{p:List Nat},(∀i∈p,i < xs.length)->ar (p.map λi=>xs.getD i .bg) (p.map λi=>us.getD i .none)
 | [],_=> .nil
 | i::p,hp=>by have hi:=hp i Pe;obtain⟨u,e1,e2⟩:=h.get (i:=i) (x:=xs[i]) (by simp[hi]);refine .cons ?_ (pT h λj hj=>hp j (Pb _ hj));dsimp only;rw[show xs.getD i .bg=xs[i] by simp[hi],show us.getD i .none=u by simp[e1]];exact e2
theorem ka {α:Type} (l:List α) (d:α):(List.range l.length).map (λi=>l.getD i d)=l:=by
 refine List.ext_getElem (by simp) λi h1 h2=>?_
 simp at h1;simp[h1]
end Mx
end
section
namespace L2
open PySem PySem.Spec PyProof.Rows
noncomputable def mD (env:Env):List (Str×NameKind)->List (Str×Addr)->List (Str×Addr)
 | [],cs=>cs
 | (n,k)::r,cs=>mD env r (if k== .free then(n,(env.cells.lookup n).getD 0)::cs else cs)
noncomputable def eG (scope:Scope) (env:Env):List (Str×Addr):=mD env scope.names []
theorem jY {env:Env}:∀(l:List (Str×NameKind)) (cs:List (Str×Addr)),(∀y∈l,y.2= .free->∃c,env.cells.lookup y.1=some c)->
  (forIn l cs (λx r=>do
   if x.2==NameKind.free then do let a<-cellOf env x.1;pure (ForInStep.yield ((x.1,a)::r)) else pure (ForInStep.yield r)):Sem (List (Str×Addr)))=pure (mD env l cs)
 | [],cs,_=>rfl
 | (n,k)::r,cs,h=>by
  rw[List.forIn_cons];have ih:=λcs=>jY r cs λy hy=>h y (Pb _ hy)
  cases hk:(k==NameKind.free) with
  | false=>simp only[hk,Bool.false_eq_true,if_false,mD,pure_bind];exact ih cs
  | true=>
   obtain⟨c,hc⟩:=h (n,k) Pe (by simpa using hk);have mQ:env.cells.lookup n=some c:=hc;have e:cellOf env n=pure c:=by unfold cellOf;rw[mQ]
   simp only[hk,if_true,mD,e,pure_bind,mQ,Option.getD_some];exact ih _
theorem f9 {scope:Scope} {env:Env} (h:∀y∈scope.names,y.2= .free->∃c,env.cells.lookup y.1=some c):closureFor scope env=pure (eG scope env):=by have q:=jY (env:=env) scope.names [] h;unfold closureFor eG;rw[<-q];simp only[bind_pure]
theorem i7 {env:Env} {x:Str} {c:Addr}:∀(l:List (Str×NameKind)) (cs:List (Str×Addr)),(∀y∈l,y.2= .free->∃c,env.cells.lookup y.1=some c)->
  (∀c,cs.lookup x=some c->env.cells.lookup x=some c)->(mD env l cs).lookup x=some c->env.cells.lookup x=some c
 | [],cs,_,h2,h=>h2 c h
 | (n,k)::r,cs,h1,h2,h=>by
  refine i7 r _ (λy hy=>h1 y (Pb _ hy)) (λc' mQ=>?_) h;by_cases hk:(k==NameKind.free)=true
  ·rw[if_pos hk] at mQ;rw[Pz] at mQ;by_cases hx:(x==n)=true
   ·rw[hx] at mQ;have qH:x=n:=by simpa using hx
    subst qH;obtain⟨c₁,e⟩:=h1 (x,k) Pe (by simpa using hk);have e':env.cells.lookup x=some c₁:=e;rw[e'] at mQ ⊢;simpa using mQ
   ·rw[Bool.not_eq_true] at hx;rw[hx] at mQ;exact h2 c' mQ
  ·rw[if_neg hk] at mQ;exact h2 c' mQ
theorem jP {env:Env} {x:Str}:∀(l:List (Str×NameKind)) (cs:List (Str×Addr)),(((x,NameKind.free)∈l)\/∃c,cs.lookup x=some c)->∃c,(mD env l cs).lookup x=some c
 | [],cs,h=>by
  rcases h with h | h
  ·cases h
  ·exact h
 | (n,k)::r,cs,h=>by
  refine jP r _ ?_;by_cases hk:(k==NameKind.free)=true
  ·rw[if_pos hk];by_cases hx:(x==n)=true
   ·exact .inr ⟨_,by rw[Pz,hx]⟩
   ·rw[Bool.not_eq_true] at hx;rcases h with h | h
    ·rcases Pk.mp h with e | h
     ·injection e with e1 e2;subst e1;simp at hx
     ·exact .inl h
    ·exact .inr (by obtain⟨c,e⟩:=h;exact⟨c,by rw[Pz,hx];exact e⟩)
  ·rw[if_neg hk];rcases h with h | h
   ·rcases Pk.mp h with e | h
    ·injection e with e1 e2;subst e2;exact absurd rfl hk
    ·exact .inl h
   ·exact .inr h
theorem aT {env:Env} {x:Str}:∀{names:List (Str×NameKind)} {k:NameKind},names.lookup x=some k->
  (names.map λ(n,k)=>if (k==NameKind.free&&env.scope.kind== .function&&env.kindOf n==some .cell) then(n,NameKind.cell) else(n,k)).lookup x=
   some (if (k==NameKind.free&&env.scope.kind== .function&&env.kindOf x==some .cell) then NameKind.cell else k)
 | [],_,h=>by simp at h
 | (n,k')::r,k,h=>by
  have ih:=@aT env x r k;show List.lookup x ((if (k'==NameKind.free&&env.scope.kind== .function&&env.kindOf n==some .cell)=true then(n,NameKind.cell) else(n,k'))::_)=_;cases hx:x==n with
  | true=>
   have qH:x=n:=by simpa using hx
   subst qH;simp only[Pz,hx] at h;cases h;by_cases hc:(k'==NameKind.free&&env.scope.kind== .function&&env.kindOf x==some .cell)=true
   ·simp only[hc,if_true,Pz,hx]
   ·rw[if_neg hc,if_neg hc];simp only[Pz,hx]
  | false=>
   simp only[Pz,hx] at h;by_cases hc:(k'==NameKind.free&&env.scope.kind== .function&&env.kindOf n==some .cell)=true
   ·rw[if_pos hc];simp only[Pz,hx];exact ih h
   ·rw[if_neg hc];simp only[Pz,hx];exact ih h
theorem bC {env:Env} {x:Str}:∀{names:List (Str×NameKind)},names.lookup x=none->
  (names.map λ(n,k)=>if (k==NameKind.free&&env.scope.kind== .function&&env.kindOf n==some .cell) then(n,NameKind.cell) else(n,k)).lookup x=none
 | [],h=>rfl
 | (n,k')::r,h=>by
  show List.lookup x ((if (k'==NameKind.free&&env.scope.kind== .function&&env.kindOf n==some .cell)=true then(n,NameKind.cell) else(n,k'))::_)=_;cases hx:x==n with
  | true=>simp only[Pz,hx] at h;cases h
  | false=>
   simp only[Pz,hx] at h;by_cases hc:(k'==NameKind.free&&env.scope.kind== .function&&env.kindOf n==some .cell)=true
   ·rw[if_pos hc];simp only[Pz,hx];exact bC h
   ·rw[if_neg hc];simp only[Pz,hx];exact bC h
noncomputable def cK (cap:List (Option Nat)) (σ:St):St:=cap.map λo=>o.bind λi=>(σ[i]?).join
noncomputable def Bj (X:Cx) (ifs:List Expr) (t:TT):Prop:=
 ∀(pins:List (Addr×Obj)) (s:Shared) (σ:St) (H:Hp) (Q:Bool->Hp->Prop),Inv X pins σ H s->t σ H Q->
  wpAny (model X.prog X.w) X.A (forIn ifs true λc r=>if r=true then do let ok<-isTrue c X.env (eval c X.env);pure (ForInStep.yield ok) else pure (ForInStep.yield r)) (TP X pins σ Q) X.xe s
noncomputable def Lz:TT:=λ_ H Q=>Q true H
theorem AV {X:Cx}:Bj X [] Lz:=λ_ _ _ H _ I h=>wpAny_tests_nil ⟨H,I,h⟩
theorem AW {X:Cx} {c:Expr} {t:TT} (h:PT X c t):Bj X [c] t:=λpins s σ H Q I hw=>wpAny_tests_one (h pins s σ H Q I hw)
noncomputable def EZ (J:It) (g:TG) (tt:TT) (te:TE) (σ0:St) (D:Addr) (F:Hp->Prop) (H1:Hp):Prop:=
 ∃W:Nat->Nat->List V->Hp->Prop,(∃m,W 0 m [] (upd H1 D (.lst [])))/\∀i m acc H,W i m acc H->
  (J.stop i H/\F H)\/(J.go i H/\∀x H',J.yld i H x H'->g x σ0 H' λσ2 H2=>tt σ2 H2 λb H3=>if b=true then te σ2 H3 λv H4=>∃dB,H4 D=some (.lst dB)/\dB.length < sizeLine/\
   ∃m',m' < m/\W (i + 1) m' (dB++[v]) (upd H4 D (.lst (dB++[v]))) else∃m',m' < m/\W (i + 1) m' acc H3)
end L2
end
section
namespace Mx
open PySem PySem.W PySem.Spec PyProof.Rows L2 PySem.SeqAt
section
variable {X:Cx}
noncomputable def La:V->Option Int->Option Int->Hp->VK->Prop:=λx lo hi H Q=>∃z,x= .str z/\z.length<=sizeLine/\Q (.str (PySem.Txt.slice z lo hi)) H
theorem Ec:Ez X La:=by
 intro pins s σ H x v vl vu lo hi sl Q I rx hs pl pu h;obtain⟨z,rfl,hz,q⟩:=h;obtain⟨t,rfl⟩:=rx;refine⟨"str",_,PySem.F.slot_str_getitem.lookup,typeIs_str _ _ _,?_⟩;have fin:∀(t':Tok) (k:Nat),EP X pins σ Q (.str (PySem.Txt.slice z lo hi) t') {s with toks:=k}:=λt' k=>⟨.str _,H,I.tok k,⟨t',rfl⟩,q⟩
 have hlen:=Pj (PySem.Txt.slice_le z lo hi) hz;obtain⟨o,ho,hc,hd⟩:=hs;cases pl with
 | none=>
  cases pu with
  | none=>exact wpAny_getItem_str_slice (l:=none) (u:=none) (st:=none) ⟨o,ho,hc,hd⟩ rfl (post_val_or_str ⟨hlen,fin⟩)
  | int j tj=>exact wpAny_getItem_str_slice (l:=none) (u:=some (j,tj)) (st:=none) ⟨o,ho,hc,hd⟩ rfl (post_val_or_str ⟨hlen,fin⟩)
 | int i ti=>
  cases pu with
  | none=>exact wpAny_getItem_str_slice (l:=some (i,ti)) (u:=none) (st:=none) ⟨o,ho,hc,hd⟩ rfl (post_val_or_str ⟨hlen,fin⟩)
  | int j tj=>exact wpAny_getItem_str_slice (l:=some (i,ti)) (u:=some (j,tj)) (st:=none) ⟨o,ho,hc,hd⟩ rfl (post_val_or_str ⟨hlen,fin⟩)
noncomputable def K2 (K:PySem.W.Frag):List V->Hp->VK->Prop:=λxs H Q=>∃x T t b,xs=[x,.ty T]/\gP K H x t/\PySem.W.kitOne K t (.type T)=some b/\Q (.bl b) H
theorem vV:eR X (.builtin "isinstance") (K2 X.K):=by intro pins s σ H xs us Q I r h;obtain⟨x,T,t,b,rfl,ty,hk,q⟩:=h;obtain⟨u,v,rfl,r1,r2⟩:=r.two;cases r2;exact uL I r1 ty hk λtk=>⟨.bl b,H,I.tok tk,rfl,q⟩
end
end Mx
end
section
namespace Mx
open PySem PySem.W PySem.Spec PyProof.Rows L2
structure vB (z TI TO i1 i2:Addr):Prop where
 TIz:TI≠z
 TOz:TO≠z
 i1z:i1≠z
 i2z:i2≠z
 TITO:TI≠TO
 TIi1:TI≠i1
 TIi2:TI≠i2
 TOi1:TO≠i1
 TOi2:TO≠i2
 i12:i1≠i2
theorem cM {H:Hp} {p:Addr} (h:H p=none) (o:HO):bB H (upd H p o):=λb u q=>by rw[ax (aE q h)];exact q
theorem lY {H H':Hp} (h:bB H H'):zq H H':=λa xs q=>h a _ q
theorem yi {H1 H:Hp} {D:Addr} {o:HO} (h:bB H1 H) (hD:H1 D=none):bB H1 (upd H D o):=λb u q=>by rw[ax (aE q hD)];exact h b u q
theorem kN {H:Hp} {D:Addr} {xs ys:List V} (hD:H D=some (.lst xs)):zq H (upd H D (.lst ys)):=λb zs q=>by
 by_cases e:b=D
 ·subst e;rw[hD] at q;cases q
 ·rw[ax e];exact q
theorem EA {α:Type} {x y:α} {r:List α}:jM (x::y::r) 1=some y:=fG (j:=1) rfl
theorem at2 {α:Type} {x y z:α} {r:List α}:jM (x::y::z::r) 2=some z:=fG (j:=2) rfl
section
variable {K:PySem.W.Frag} {g:TG} {tt:TT} {te:TE} {σ0:L2.St} {D:Addr} {F:Hp->Prop} {H1:Hp}
theorem oF {J:It} {n:Nat} (hD:H1 D=none) (E:Nat->List Mx.D) (hE:E 0=[]) (hn:n < sizeLine) (go:∀i H,i < n->bB H1 H->J.go i H) (stop:∀H,bB H1 H->J.stop n H)
  (hs:∀i x H H',i < n->bB H1 H->J.yld i H x H'->bB H H'/\∀(N:V->Hp->Prop) (M:Hp->Prop),(∀v H4 e,bB H' H4->DV H4 v e->E (i + 1)=E i++[e]->N v H4)->(∀H3,bB H' H3->E (i + 1)=E i->M H3)->
   g x σ0 H' λσ2 H2=>tt σ2 H2 λb H3=>if b=true then te σ2 H3 N else M H3)
  (hd:∀H acc,bB H1 H->H D=some (.lst acc)->aX H acc (E n)->F H):EZ J g tt te σ0 D F H1:=by
 refine⟨λi m acc H=>m=n - i/\i<=n/\bB H1 H/\H D=some (.lst acc)/\aX H acc (E i)/\acc.length<=i,⟨n,by simp,Nat.zero_le _,cM hD _,aI,by rw[hE];exact aX.nil,Pd _⟩,?_⟩;rintro i m acc H ⟨rfl,hi,hS,JV,nZ,oP⟩;by_cases bX:i < n
 ·refine .inr ⟨go i H bX hS,λx H' y=>?_⟩;obtain⟨s1,st⟩:=hs i x H H' bX hS y;refine st _ _ (λv H4 e s4 he e4=>?_) (λH3 s3 e3=>?_)
  ·have Lk:=s1.trans s4;have FA:=Lk _ _ JV;refine⟨acc,FA,by lia,n - (i + 1),by lia,rfl,bX,yi (hS.trans Lk) hD,aI,?_,by simp;lia⟩;rw[e4];exact(aX.append (nZ.mono (lY Lk)) (aX.cons he aX.nil)).mono (kN FA)
  ·have Lj:=s1.trans s3;exact⟨n - (i + 1),by lia,rfl,bX,hS.trans Lj,Lj _ _ JV,by rw[e3];exact nZ.mono (lY Lj),by lia⟩
 ·have e:i=n:=by lia
  subst e;exact .inl ⟨stop H hS,hd H acc hS JV nZ⟩
end
noncomputable def bo:Bool->Heap->Addr->Addr->Nat->Prop
 | false,h,i,l,k=>h.IsListIter i l k
 | true,h,i,l,k=>h.IsTupleIter i l k
noncomputable def dq:Bool->Heap->Addr->Array Value->Prop
 | false,h,l,xs=>h.IsList l xs
 | true,h,l,xs=>h.IsTuple l xs
theorem bo.at:∀{b:Bool} {h h':Heap} {i l:Addr} {k:Nat},bo b h i l k->(∀o,h.get? i=some o->h'.get? i=some o)->bo b h' i l k
 | false,_,_,_,_,_,x,e=>Heap.IsListIter.at x e
 | true,_,_,_,_,_,x,e=>Heap.IsTupleIter.at x e
theorem dq.at:∀{b:Bool} {h h':Heap} {l:Addr} {xs:Array Value},dq b h l xs->(∀o,h.get? l=some o->h'.get? l=some o)->dq b h' l xs
 | false,_,_,_,_,x,e=>let ⟨o,ho,r⟩:=x;⟨o,e o ho,r⟩
 | true,_,_,_,_,x,e=>let ⟨o,ho,r⟩:=x;⟨o,e o ho,r⟩
theorem bo.obj:∀{b:Bool} {h:Heap} {i l:Addr} {k:Nat},bo b h i l k->∃o,h.get? i=some o/\∀v,o.data≠ .cell v
 | false,_,_,_,_,x=>by obtain⟨o,e,c,d⟩:=x;exact⟨o,e,λv q=>by rw[d] at q;cases q⟩
 | true,_,_,_,_,x=>by obtain⟨o,e,c,d⟩:=x;exact⟨o,e,λv q=>by rw[d] at q;cases q⟩
section
variable {prog:Program} {w:World} {A:Around} {E:Value->Shared->Prop} {s:Shared}
theorem rF {it t:Addr} {i:Nat} {items:Array Value} {x:Value} {Q:Value->Shared->Prop} (hit:s.heap.IsTupleIter it t i) (ht:s.heap.IsTuple t items) (hx:items[i]?=some x)
  (hQ:∀h',h'.IsTupleIter it t (i + 1)->Heap.SameBut it s.heap h'->Q x {s with heap:=h'}):wpAny (model prog w) A (Builtin.SmallTypes.nextOf (.ref it)) Q E s:=by
 obtain⟨o,ho,hc,hd⟩:=id hit;obtain⟨ol,CP,_,nl,wX⟩:=ht;unfold Builtin.SmallTypes.nextOf;refine O3 (wpAny_callSpecial?_slot (name:=Str.ofString "__next__") hit.typeIs F.slot_tuple_iterator_next (wpAny_call_entry F.slot_tuple_iterator_next hit.typeIs F.entry_tuple_iterator_next (show wpAny _ _ (field (.ref it) 0 >>=_) _ _ s from O3 (wpAny_field ho hd (x:= .ref t) rfl ?_)) (F.args_tuple_iterator_next_1 _)));show wpAny _ _ (if (Value.ref t==Value.none)=true then _ else _) _ _ s;rw[if_neg (show¬((Value.ref t==Value.none)=true) from Bool.false_ne_true)];refine(show wpAny _ _ (field (.ref it) 1 >>=_) _ _ s from O3 (wpAny_field ho hd (x:= .int i 0) rfl (show wpAny _ _ (seqItems? (.ref t) >>=_) _ _ s from O3 (wpAny_seqItems CP wX ?_))));simp only[Int.toNat_natCast,hx];refine O3 (wpAny_setField ho hd (by simp) (O6 ⟨x,rfl,O6 (hQ _ ⟨_,Heap.get?_update_self _ ho (Obj.isFreed_of_fields (Obj.data_mapFields hd _)),(Obj.cls_mapFields ..).trans hc,?_⟩ (Heap.SameBut.update ..))⟩));rw[Obj.data_mapFields hd];simp[rawInt]
theorem vc {it t:Addr} {i:Nat} {items:Array Value} {Q:Value->Shared->Prop} (hh:A.handled=none) (hit:s.heap.IsTupleIter it t i) (ht:s.heap.IsTuple t items) (hx:items[i]?=none)
  (hE:∀h' e,Heap.ExtBut it s.heap h'->(∃o,h'.get? e=some o/\o.cls= .type "StopIteration")->E (.ref e) {s with heap:=h'}):wpAny (model prog w) A (Builtin.SmallTypes.nextOf (.ref it)) Q E s:=by
 obtain⟨o,ho,hc,hd⟩:=id hit;obtain⟨ol,CP,_,nl,wX⟩:=ht;unfold Builtin.SmallTypes.nextOf;refine O3 (wpAny_callSpecial?_slot (name:=Str.ofString "__next__") hit.typeIs F.slot_tuple_iterator_next (wpAny_call_entry F.slot_tuple_iterator_next hit.typeIs F.entry_tuple_iterator_next (show wpAny _ _ (field (.ref it) 0 >>=_) _ _ s from O3 (wpAny_field ho hd (x:= .ref t) rfl ?_)) (F.args_tuple_iterator_next_1 _)));show wpAny _ _ (if (Value.ref t==Value.none)=true then _ else _) _ _ s;rw[if_neg (show¬((Value.ref t==Value.none)=true) from Bool.false_ne_true)];refine(show wpAny _ _ (field (.ref it) 1 >>=_) _ _ s from O3 (wpAny_field ho hd (x:= .int i 0) rfl (show wpAny _ _ (seqItems? (.ref t) >>=_) _ _ s from O3 (wpAny_seqItems CP wX ?_))));simp only[Int.toNat_natCast,hx];refine O3 (wpAny_rule (O3 (wpAny_setField ho hd (by simp) (show wpAny _ _ (newExc (.type "StopIteration") [] >>=_) _ _ _ from O3 ?_))));simp only[newExc,newTuple];refine O3 (wpAny_newObj_type (O3 (m:=firstArgMember _ _) (wpAny_of_eq (a:=Value.none) (by first | rfl | (simp only[firstArgMember];rfl)) (wpAny_newObj_type ?_ (by size_fits)))) (by size_fits));simp only[raiseNew];refine O3 (wpAny_handled ?_)
 first | rw[show A.in1.handled=none from hh] | rw[hh]
 exact O3 (O6 (wpAny_throw (hE _ _ (((Heap.SameBut.update ..).extBut.push _).push _) ⟨_,Pf _ rfl,rfl⟩)))
theorem ei {b:Bool} {it l:Addr} {i:Nat} {items:Array Value} {x:Value} {Q:Value->Shared->Prop} (hit:bo b s.heap it l i) (hl:dq b s.heap l items) (hx:items[i]?=some x)
  (hQ:∀h',bo b h' it l (i + 1)->Heap.SameBut it s.heap h'->Q x {s with heap:=h'}):wpAny (model prog w) A (Builtin.SmallTypes.nextOf (.ref it)) Q E s:=by
 cases b with
 | false=>exact wpAny_nextOf_list_item hit hl hx hQ
 | true=>exact rF hit hl hx hQ
theorem iQ {b:Bool} {it l:Addr} {i:Nat} {items:Array Value} {Q:Value->Shared->Prop} (hh:A.handled=none) (hit:bo b s.heap it l i) (hl:dq b s.heap l items) (hx:items[i]?=none)
  (hE:∀h' e,Heap.ExtBut it s.heap h'->(∃o,h'.get? e=some o/\o.cls= .type "StopIteration")->E (.ref e) {s with heap:=h'}):wpAny (model prog w) A (Builtin.SmallTypes.nextOf (.ref it)) Q E s:=by
 cases b with
 | false=>exact wpAny_nextOf_list_end hh hit hl hx hE
 | true=>exact vc hh hit hl hx hE
end
structure iI (z TO i1 i2 l:Addr):Prop where
 z:l≠z
 o:l≠TO
 a:l≠i1
 b:l≠i2
section
variable {prog:Program} {w:World} {A:Around} {E:Value->Shared->Prop} {s:Shared}
theorem vi {b1 b2:Bool} {z TI TO i1 i2 l1 l2:Addr} {k1 k2:Nat} {xs ys:Array Value} {x y a b:Value} {Q:Option Value->Shared->Prop} (D:vB z TI TO i1 i2) (O1:iI z TO i1 i2 l1) (O2:iI z TO i1 i2 l2)
  (hz:IsZip s.heap z TI TO .none) (JY:IsPair s.heap TI (.ref i1) (.ref i2)) (J0:IsPair s.heap TO a b) (h1:bo b1 s.heap i1 l1 k1) (h2:bo b2 s.heap i2 l2 k2) (dz:dq b1 s.heap l1 xs) (eB:dq b2 s.heap l2 ys) (hx:xs[k1]?=some x) (hy:ys[k2]?=some y)
  (hQ:∀h',IsZip h' z TI TO (rawInt s.heap.objs.size)->IsPair h' TO x y->bo b1 h' i1 l1 (k1 + 1)->bo b2 h' i2 l2 (k2 + 1)->IsPair h' s.heap.objs.size x y->
   (∀c o,c≠z->c≠TO->c≠i1->c≠i2->s.heap.get? c=some o->h'.get? c=some o)->Q (some (.ref s.heap.objs.size)) {s with heap:=h'}):wpAny (model prog w) A (pyNext (.ref z)) Q E s:=by
 have hT:s.TypeIs (.ref z) "zip":=⟨_,hz,rfl⟩;unfold pyNext;refine O3 (wpAny_attempt (wpAny_callSpecial?_slot (name:=Str.ofString "__next__") hT F.slot_zip_next (wpAny_call_entry F.slot_zip_next hT F.entry_zip_next ?_ (F.args_zip_next_1 _))));refine(show wpAny _ _ (field (.ref z) 2 >>=_) _ _ _ from O3 (wpAny_field hz rfl (x:= .bool false) rfl (show wpAny _ _ (field (.ref z) 3 >>=_) _ _ _ from O3 (wpAny_field hz rfl (x:= .ref TI) rfl (O3 (wpAny_seqItems JY rfl (show wpAny _ _ (Builtin.SmallTypes.ownedTupleIsFree (.ref z) >>=_) _ _ _ from O3 ?_)))))));unfold Builtin.SmallTypes.ownedTupleIsFree;refine O3 (wpAny_field hz rfl (x:= .none) rfl (O6 ?_));simp only[if_true];refine O3 (wpAny_rule (O3 (wpAny_field hz rfl (x:= .ref TO) rfl (O3 (PM hz (by simp) λg1 z1 e1=>O3 ?_)))))
 replace z1:IsZip g1 z TI TO .ellipsis:=z1
 simp only[List.zipIdx_cons,List.zipIdx_nil,List.forIn_cons,List.forIn_nil];refine O3 (O3 (wpAny_onRaise (show wpAny _ _ (Builtin.SmallTypes.nextOf (.ref i1) >>=_) _ _ _ from O3 (ei (h1.at λo q=>e1.extBut _ o D.i1z q) (dz.at λo q=>e1.extBut _ o O1.z q) hx λg2 j1 e2=>O6 ?_))));have t2:IsPair g2 TO a b:=e2.extBut _ _ D.TOi1 (e1.extBut _ _ D.TOz J0);refine O3 (wpAny_seqItems t2 rfl (O3 (wpAny_updateSeq_pair t2 λg3 t3 e3=>O3 (wpAny_letGo (O6 ?_)))))
 replace t3:IsPair g3 TO x b:=t3
 refine O3 (O3 (wpAny_onRaise (show wpAny _ _ (Builtin.SmallTypes.nextOf (.ref i2) >>=_) _ _ _ from O3 (ei (h2.at λo q=>e3.extBut _ o D.TOi2.symm (e2.extBut _ o D.i12.symm (e1.extBut _ o D.i2z q))) (eB.at λo q=>e3.extBut _ o O2.o (e2.extBut _ o O2.a (e1.extBut _ o O2.z q))) hy λg4 j2 e4=>O6 ?_))));have t4:IsPair g4 TO x b:=e4.extBut _ _ D.TOi2 t3;refine O3 (wpAny_seqItems t4 rfl (O3 (wpAny_updateSeq_pair t4 λg5 t5 e5=>O3 (wpAny_letGo (O6 (O6 ?_))))))
 replace t5:IsPair g5 TO x y:=t5
 refine O3 (wpAny_seqItems t5 rfl (O3 (wpAny_newTuple ?_)));have sz:g5.objs.size=s.heap.objs.size:=by rw[e5.1,e4.1,e3.1,e2.1,e1.1]
 have z5:IsZip g5 z TI TO .ellipsis:=e5.extBut _ _ D.TOz.symm (e4.extBut _ _ D.i2z.symm (e3.extBut _ _ D.TOz.symm (e2.extBut _ _ D.i1z.symm z1)));have old:∀c o,c≠z->c≠TO->c≠i1->c≠i2->s.heap.get? c=some o->g5.get? c=some o:=λc o c1 c2 c3 c4 q=>e5.extBut _ _ c2 (e4.extBut _ _ c4 (e3.extBut _ _ c2 (e2.extBut _ _ c3 (e1.extBut _ _ c1 q))))
 have n1:bo b1 g5 i1 l1 (k1 + 1):=j1.at λo q=>e5.extBut _ o D.TOi1.symm (e4.extBut _ o D.i12 (e3.extBut _ o D.TOi1.symm q))
 have n2:bo b2 g5 i2 l2 (k2 + 1):=j2.at λo q=>e5.extBut _ o D.TOi2.symm q
 have MS:z < g5.objs.size:=Pi z5;refine(show wpAny _ _ (Builtin.SmallTypes.ownedTupleHandOut (.ref z) (.ref g5.objs.size) >>=_) _ _ _ from O3 ?_);unfold Builtin.SmallTypes.ownedTupleHandOut;have z6:IsZip (g5.push {cls:= .type "tuple",data:= .seq #[x,y]}) z TI TO .ellipsis:=O5 _ z5;refine O3 (PM z6 (by simp) λg7 z7 e7=>?_)
 replace z7:IsZip g7 z TI TO (rawInt g5.objs.size):=z7
 refine PM z7 (by simp) λg8 z8 e8=>?_
 replace z8:IsZip g8 z TI TO (rawInt g5.objs.size):=z8
 have up:∀c o,c≠z->g5.get? c=some o->g8.get? c=some o:=λc o c1 q=>e8.extBut _ _ c1 (e7.extBut _ _ c1 (O5 _ q))
 have t8:IsPair g8 g5.objs.size x y:=e8.extBut _ _ (Nat.ne_of_gt MS) (e7.extBut _ _ (Nat.ne_of_gt MS) (Pf _ rfl));rw[sz] at z8 t8;refine O6 ⟨_,rfl,O6 ?_⟩;show Q (some (.ref g5.objs.size)) _;rw[sz];exact hQ g8 z8 (up _ _ D.TOz t5) (n1.at λo q=>up _ o D.i1z q) (n2.at λo q=>up _ o D.i2z q) t8 λc o c1 c2 c3 c4 q=>up c o c1 (old c o c1 c2 c3 c4 q)
theorem yU {b1 b2:Bool} {z TI TO i1 i2 l1 l2:Addr} {k1 k2:Nat} {xs ys:Array Value} {a b:Value} {Q:Option Value->Shared->Prop} (hh:A.handled=none) (D:vB z TI TO i1 i2) (O1:iI z TO i1 i2 l1) (O2:iI z TO i1 i2 l2)
  (hz:IsZip s.heap z TI TO .none) (JY:IsPair s.heap TI (.ref i1) (.ref i2)) (J0:IsPair s.heap TO a b) (h1:bo b1 s.heap i1 l1 k1) (h2:bo b2 s.heap i2 l2 k2) (dz:dq b1 s.heap l1 xs) (eB:dq b2 s.heap l2 ys) (CJ:xs[k1]?=none\/ys[k2]?=none)
  (hQ:∀h',(∀c o,c≠z->c≠TO->c≠i1->c≠i2->s.heap.get? c=some o->h'.get? c=some o)->Q none {s with heap:=h'}):wpAny (model prog w) A (pyNext (.ref z)) Q E s:=by
 have hT:s.TypeIs (.ref z) "zip":=⟨_,hz,rfl⟩;unfold pyNext;refine O3 (wpAny_attempt (wpAny_callSpecial?_slot (name:=Str.ofString "__next__") hT F.slot_zip_next (wpAny_call_entry F.slot_zip_next hT F.entry_zip_next ?_ (F.args_zip_next_1 _))));have stop:∀(h':Heap) (e:Addr),(∀c o,c≠z->c≠TO->c≠i1->c≠i2->s.heap.get? c=some o->h'.get? c=some o)->(∃o,h'.get? e=some o/\o.cls= .type "StopIteration")->wpAny (model prog w) A (isInstance (.ref e) (.type "StopIteration")) (λr s'=>r=true/\Q none s') E {s with heap:=h'}:=λh' e kk he=>by obtain⟨o,ho,hc⟩:=he;exact wpAny_isInstance (T:="StopIteration") (b:=true) ⟨o,ho,hc⟩ isSubtype_stop ⟨rfl,hQ _ kk⟩
 refine(show wpAny _ _ (field (.ref z) 2 >>=_) _ _ _ from O3 (wpAny_field hz rfl (x:= .bool false) rfl (show wpAny _ _ (field (.ref z) 3 >>=_) _ _ _ from O3 (wpAny_field hz rfl (x:= .ref TI) rfl (O3 (wpAny_seqItems JY rfl (show wpAny _ _ (Builtin.SmallTypes.ownedTupleIsFree (.ref z) >>=_) _ _ _ from O3 ?_)))))));unfold Builtin.SmallTypes.ownedTupleIsFree;refine O3 (wpAny_field hz rfl (x:= .none) rfl (O6 ?_));simp only[if_true];refine O3 (wpAny_rule (O3 (wpAny_field hz rfl (x:= .ref TO) rfl (O3 (PM hz (by simp) λg1 z1 e1=>O3 ?_)))))
 replace z1:IsZip g1 z TI TO .ellipsis:=z1
 simp only[List.zipIdx_cons,List.zipIdx_nil,List.forIn_cons,List.forIn_nil];refine O3 (O3 (wpAny_onRaise ?_));show wpAny _ _ (Builtin.SmallTypes.nextOf (.ref i1) >>=_) _ _ _;cases hx:xs[k1]? with
 | none=>
  refine O3 (iQ hh (h1.at λo q=>e1.extBut _ o D.i1z q) (dz.at λo q=>e1.extBut _ o O1.z q) hx λg2 e e2 he=>?_);obtain⟨oe,CO,Bv⟩:=he;have z2:IsZip g2 z TI TO .ellipsis:=e2 _ _ D.i1z.symm z1;have Ka:e≠z:=λx=>by subst x;rw[z2] at CO;cases CO;simp at Bv
  refine PM z2 (by simp) λg3 _ e3=>?_
  refine O3 (wpAny_mono (stop g3 e (λc o c1 _ c3 _ x=>e3.extBut _ _ c1 (e2 _ _ c3 (e1.extBut _ _ c1 x))) ⟨oe,e3.extBut _ _ Ka CO,Bv⟩) (λr s' q=>?_) λ_ _ q=>q);obtain⟨rfl,q⟩:=q;exact O6 q
 | some x=>
  have hy:ys[k2]?=none:=by rcases CJ with h | h;rw[hx] at h;cases h;exact h
  refine O3 (ei (h1.at λo q=>e1.extBut _ o D.i1z q) (dz.at λo q=>e1.extBut _ o O1.z q) hx λg2 j1 e2=>O6 ?_);have t2:IsPair g2 TO a b:=e2.extBut _ _ D.TOi1 (e1.extBut _ _ D.TOz J0);refine O3 (wpAny_seqItems t2 rfl (O3 (wpAny_updateSeq_pair t2 λg3 t3 e3=>O3 (wpAny_letGo (O6 ?_)))));refine O3 (O3 (wpAny_onRaise (show wpAny _ _ (Builtin.SmallTypes.nextOf (.ref i2) >>=_) _ _ _ from O3 (iQ hh (h2.at λo q=>e3.extBut _ o D.TOi2.symm (e2.extBut _ o D.i12.symm (e1.extBut _ o D.i2z q))) (eB.at λo q=>e3.extBut _ o O2.o (e2.extBut _ o O2.a (e1.extBut _ o O2.z q))) hy λg4 e e4 he=>?_))));obtain⟨oe,CO,Bv⟩:=he;have z4:IsZip g4 z TI TO .ellipsis:=e4 _ _ D.i2z.symm (e3.extBut _ _ D.TOz.symm (e2.extBut _ _ D.i1z.symm z1));have Ka:e≠z:=λx=>by subst x;rw[z4] at CO;cases CO;simp at Bv
  refine PM z4 (by simp) λg5 _ e5=>?_
  refine O3 (wpAny_mono (stop g5 e (λc o c1 c2 c3 c4 x=>e5.extBut _ _ c1 (e4 _ _ c4 (e3.extBut _ _ c2 (e2.extBut _ _ c3 (e1.extBut _ _ c1 x))))) ⟨oe,e5.extBut _ _ Ka CO,Bv⟩) (λr s' q=>?_) λ_ _ q=>q);obtain⟨rfl,q⟩:=q;exact O6 q
end
noncomputable def gf:Bool->Addr->Obj
 | false,l=>{cls:= .type "list_iterator",data:= .fields #[.ref l,.int 0 0]}
 | true,l=>{cls:= .type "tuple_iterator",data:= .fields #[.ref l,.int 0 0]}
theorem j4:∀{b:Bool} {h:Heap} {i l:Addr},h.get? i=some (gf b l)->bo b h i l 0
 | false,_,_,_,e=>⟨_,e,rfl,rfl⟩
 | true,_,_,_,e=>⟨_,e,rfl,rfl⟩
theorem iO (b:Bool) (l:Addr):(gf b l).isFreed=false:=by cases b <;> rfl
noncomputable abbrev IW (h:Heap) (b1:Bool) (l1:Addr):Heap:=h.push (gf b1 l1)
noncomputable abbrev IX (h:Heap) (b1 b2:Bool) (l1 l2:Addr):Heap:=(IW h b1 l1).push (gf b2 l2)
noncomputable abbrev IY (h:Heap) (b1 b2:Bool) (l1 l2:Addr):Heap:=(IX h b1 b2 l1 l2).push {cls:= .type "tuple",data:= .seq #[.ref h.objs.size,.ref (IW h b1 l1).objs.size]}
noncomputable abbrev IZ (h:Heap) (b1 b2:Bool) (l1 l2:Addr):Heap:=(IY h b1 b2 l1 l2).push {cls:= .type "tuple",data:= .seq #[.none,.none]}
noncomputable abbrev EY (h:Heap) (b1 b2:Bool) (l1 l2:Addr):Heap:=(IZ h b1 b2 l1 l2).push {cls:= .type "zip",data:= .fields #[.none,.bool false,.bool false,.ref (IX h b1 b2 l1 l2).objs.size,.ref (IY h b1 b2 l1 l2).objs.size]}
theorem dq.push {b:Bool} {h:Heap} {l:Addr} {xs:Array Value} (x:dq b h l xs) (o:Obj):dq b (h.push o) l xs:=x.at λ_ e=>O5 _ e
theorem yV (b1 b2:Bool) (l1 l2:Addr) (xs ys:Array Value):
  Meets (Builtin.«zip.__new__» ⟨[.type "zip",.ref l1,.ref l2],[]⟩) (λ_ R s=>dq b1 s.heap l1 xs/\dq b2 s.heap l2 ys/\R (.ok (.ret (.ref (IZ s.heap b1 b2 l1 l2).objs.size))) {s with heap:=EY s.heap b1 b2 l1 l2}):=
 .of_wp λprog w A R s h=>by
  obtain⟨hp,g,d,tk,os⟩:=s;obtain⟨dz,eB,h⟩:=h;have uI:=sub_zip;have Ip:=eB.push (gf b1 l1);cases b1 <;> cases b2
  ·have k1:Heap.IsList (Shared.heap ⟨hp,g,d,tk,os⟩) l1 xs:=dz;have k2:Heap.IsList (Shared.heap ⟨hp.push {cls:= .type "list_iterator",data:= .fields #[.ref l1,.int 0 0]},g,d,tk,os⟩) l2 ys:=Ip
   wp_walk using wpAny_pyIter_list k1,wpAny_pyIter_list k2
   exact⟨_,rfl,h⟩
  ·have k1:Heap.IsList (Shared.heap ⟨hp,g,d,tk,os⟩) l1 xs:=dz;have k2:Heap.IsTuple (Shared.heap ⟨hp.push {cls:= .type "list_iterator",data:= .fields #[.ref l1,.int 0 0]},g,d,tk,os⟩) l2 ys:=Ip
   wp_walk using wpAny_pyIter_list k1,wpAny_pyIter_tuple k2
   exact⟨_,rfl,h⟩
  ·have k1:Heap.IsTuple (Shared.heap ⟨hp,g,d,tk,os⟩) l1 xs:=dz;have k2:Heap.IsList (Shared.heap ⟨hp.push {cls:= .type "tuple_iterator",data:= .fields #[.ref l1,.int 0 0]},g,d,tk,os⟩) l2 ys:=Ip
   wp_walk using wpAny_pyIter_tuple k1,wpAny_pyIter_list k2
   exact⟨_,rfl,h⟩
  ·have k1:Heap.IsTuple (Shared.heap ⟨hp,g,d,tk,os⟩) l1 xs:=dz;have k2:Heap.IsTuple (Shared.heap ⟨hp.push {cls:= .type "tuple_iterator",data:= .fields #[.ref l1,.int 0 0]},g,d,tk,os⟩) l2 ys:=Ip
   wp_walk using wpAny_pyIter_tuple k1,wpAny_pyIter_tuple k2
   exact⟨_,rfl,h⟩
section
variable {prog:Program} {w:World} {A:Around} {E:Value->Shared->Prop} {s:Shared}
theorem uo {b1 b2:Bool} {l1 l2:Addr} {xs ys:Array Value} {Q:Value->Shared->Prop} (dz:dq b1 s.heap l1 xs) (eB:dq b2 s.heap l2 ys)
  (h:∀h',IsZip h' (s.heap.objs.size + 4) (s.heap.objs.size + 2) (s.heap.objs.size + 3) .none->IsPair h' (s.heap.objs.size + 2) (.ref s.heap.objs.size) (.ref (s.heap.objs.size + 1))->IsPair h' (s.heap.objs.size + 3) .none .none->
   bo b1 h' s.heap.objs.size l1 0->bo b2 h' (s.heap.objs.size + 1) l2 0->(∀c o,s.heap.get? c=some o->h'.get? c=some o)->Q (.ref (s.heap.objs.size + 4)) {s with heap:=h'}):wpAny (model prog w) A (call (.type "zip") [.ref l1,.ref l2]) Q E s:=by
 refine callType_new F.called_zip (by decide) (F.typeCall_zip_2 _ _) (F.newCall_zip_2 _ _) (λobj=>F.args_object_init_3 obj _ _) F.entry_zip_new (yV b1 b2 l1 l2 xs ys) ⟨dz,eB,?_⟩;have y1:(IW s.heap b1 l1).objs.size=s.heap.objs.size + 1:=PH ..;have y2:(IX s.heap b1 b2 l1 l2).objs.size=s.heap.objs.size + 2:=by rw[PH,y1]
 have y3:(IY s.heap b1 b2 l1 l2).objs.size=s.heap.objs.size + 3:=by rw[PH,y2]
 have y4:(IZ s.heap b1 b2 l1 l2).objs.size=s.heap.objs.size + 4:=by rw[PH,y3]
 have g5:(EY s.heap b1 b2 l1 l2).get? (IZ s.heap b1 b2 l1 l2).objs.size=some _:=Pf _ rfl;have g4:(EY s.heap b1 b2 l1 l2).get? (IY s.heap b1 b2 l1 l2).objs.size=some _:=O5 _ (Pf _ rfl);have g3:(EY s.heap b1 b2 l1 l2).get? (IX s.heap b1 b2 l1 l2).objs.size=some _:=O5 _ (O5 _ (Pf _ rfl));have g2:(EY s.heap b1 b2 l1 l2).get? (IW s.heap b1 l1).objs.size=some _:=O5 _ (O5 _ (O5 _ (Pf _ (iO b2 l2))));have g1:(EY s.heap b1 b2 l1 l2).get? s.heap.objs.size=some _:=O5 _ (O5 _ (O5 _ (O5 _ (Pf _ (iO b1 l1)))));show _/\_;rw[y2,y3,y4] at g5;rw[y1,y2] at g3;rw[y3] at g4;rw[y1] at g2;rw[y4];exact⟨⟨_,g5,rfl⟩,h _ g5 g3 g4 (j4 g1) (j4 g2) λc o x=>O5 _ (O5 _ (O5 _ (O5 _ (O5 _ x))))⟩
end
noncomputable def jx:Bool->List V->HO
 | false,xs=> .lst xs
 | true,xs=> .tup xs
theorem mU {b:Bool} {xs ys:List V} (h:jx b xs=jx b ys):xs=ys:=by
 cases b with
 | false=>injection h
 | true=>injection h
noncomputable def Jg (b1 b2:Bool) (l1 l2:Addr):It where
 go:=λi H=>∃xs ys x y,H l1=some (jx b1 xs)/\H l2=some (jx b2 ys)/\xs[i]?=some x/\ys[i]?=some y
 yld:=λi H v H'=>∃p x y,v= .ref p/\H p=none/\H'=upd H p (.tup [x,y])/\∀xs ys,H l1=some (jx b1 xs)->H l2=some (jx b2 ys)->xs[i]?=some x/\ys[i]?=some y
 stop:=λi H=>∃xs ys,H l1=some (jx b1 xs)/\H l2=some (jx b2 ys)/\(xs.length<=i\/ys.length<=i)
theorem cH {X:Cx} {pins:List (Addr×Obj)} {s:Shared} {σ:L2.St} {H:Hp} (I:Inv X pins σ H s) {b:Bool} {l:Addr} {xs:List V} (h:H l=some (jx b xs)):∃its:List Value,ar xs its/\dq b s.heap l its.toArray:=by
 cases b with
 | false=>obtain⟨its,r,p,_⟩:=I.list (.inl (.inl h));exact⟨its,r,p.isList⟩
 | true=>obtain⟨its,r,p,_⟩:=I.tuple (.inl (.inl h));exact⟨its,r,p⟩
noncomputable def OE (b1 b2:Bool) (z TI TO i1 i2 l1 l2:Addr) (i:Nat) (h:Heap):Prop:=IsZip h z TI TO .none/\IsPair h TI (.ref i1) (.ref i2)/\(∃a b,IsPair h TO a b)/\bo b1 h i1 l1 i/\bo b2 h i2 l2 i
theorem vf {P:Program} {w:World} {K:PySem.W.Frag} {es:List Expr} {k:Nat} {tp:Pos} {b1 b2:Bool} {z TI TO i1 i2 l1 l2:Addr} (ap:vB z TI TO i1 i2):
  Turn P w K (.Tuple es k tp) (Jg b1 b2 l1 l2) [z,TI,TO,i1,i2] z (OE b1 b2 z TI TO i1 i2 l1 l2) where
 mem:=by simp
 obj:=λi h st b hb=>by
  obtain⟨s1,s2,⟨a,b',s3⟩,s4,s5⟩:=st;simp only[Pk,Pl,or_false] at hb;rcases hb with rfl | rfl | rfl | rfl | rfl
  ·exact⟨_,s1,λv q=>by cases q⟩
  ·exact⟨_,s2,λv q=>by cases q⟩
  ·exact⟨_,s3,λv q=>by cases q⟩
  ·exact s4.obj
  ·exact s5.obj
 keep:=λi h h' st kk=>by obtain⟨s1,s2,⟨a,b',s3⟩,s4,s5⟩:=st;exact⟨kk z (by simp) _ s1,kk TI (by simp) _ s2,⟨a,b',kk TO (by simp) _ s3⟩,s4.at λo e=>kk i1 (by simp) o e,s5.at λo e=>kk i2 (by simp) o e⟩
 item:=by
  intro X hP hw hK hc i pins s σ H E I hf st hg;subst hP hw hK;obtain⟨xs,ys,x,y,dz,eB,hx,hy⟩:=hg;obtain⟨s1,s2,⟨a,b',s3⟩,s4,s5⟩:=st;obtain⟨cV,r1,p1⟩:=cH I dz;obtain⟨aK,r2,p2⟩:=cH I eB;obtain⟨u1,vq,Lf⟩:=r1.get hx;obtain⟨u2,N5,Oo⟩:=r2.get hy;have ne:∀{l:Addr} {o:HO},H l=some o->∀b∈[z,TI,TO,i1,i2],l≠b:=λ {l o} hl b hb e=>by subst e;rw[(hf l hb).1] at hl;cases hl
  have off:∀{l:Addr} {o:HO},H l=some o->iI z TO i1 i2 l:=λ {l o} hl=>⟨ne hl z (by simp),ne hl TO (by simp),ne hl i1 (by simp),ne hl i2 (by simp)⟩
  refine vi ap (off dz) (off eB) s1 s2 s3 s4 s5 p1 p2 (by simpa using vq) (by simpa using N5) λh' a1 a2 a3 a4 a5 a7=>⟨_,rfl,?_⟩
  refine wpAny_letOwnedTupleGo_zip (s:={s with heap:=h'}) a1 λh2 c1 c2=>?_
  have J4:s.heap.objs.size≠z:=λe=>by have:=Pi s1;rw[<-e] at this;exact Nat.lt_irrefl _ this
  have JZ:IsPair h2 TI (.ref i1) (.ref i2):=(c2.2 TI ap.TIz).trans (a7 TI _ ap.TIz ap.TITO ap.TIi1 ap.TIi2 s2);have FE:h2.get? s.heap.objs.size=some {cls:= .type "tuple",data:= .seq #[u1,u2]}:=(c2.2 _ J4).trans a5;have kk:∀b o,b∉[z,TI,TO,i1,i2]->s.heap.get? b=some o->h2.get? b=some o:=λb o hb e=>by simp only[Pk,Pl,or_false,not_or] at hb;exact(c2.2 b hb.1).trans (a7 b o hb.1 hb.2.2.1 hb.2.2.2.1 hb.2.2.2.2 e)
  have lt:∀{b:Addr} {o:Obj},s.heap.get? b=some o->b≠s.heap.objs.size:=λe=>PJ (Pi e)
  have xJ:∀b u,H b=some u->b∉[z,TI,TO,i1,i2]:=λb u e hb=>by rw[(hf b hb).1] at e;cases e
  have qC:H s.heap.objs.size=none:=I.fresh;have I2:Inv X pins σ (upd H s.heap.objs.size (.tup [x,y])) {s with heap:=h2,toks:=s.toks}:=by
   refine I.step (g':=s.gens) (d':=s.drawn) (ch:=[z,TI,TO,i1,i2]) (λb hb=>⟨(hf b hb).2.2.2.1,(hf b hb).2.1,(hf b hb).2.2.2.2.1,(hf b hb).2.2.2.2.2⟩) (λb o _ _ hb e _=>kk b o hb e) (λb o _ _ hb e _=>⟨o.slots,kk b o hb e⟩)
    (λb o hb e n=>by rw[ax (lt e)];exact n) (λb o hb e=>⟨o,kk b o hb e⟩) (λb zs e=>by rw[ax (aE e qC)];exact e) (λb o u e=>by rw[ax (aE e qC)];exact e)
    (λb ps e=>⟨#[],by rw[ax (aE e qC),e];simp⟩) (λm hm=>?_) (λb u e=>?_) I.bare
   ·obtain⟨o,dk,ep,ho,rr⟩:=hm;exact⟨o,dk,ep,kk _ o (λhb=>(hf _ hb).2.1 rfl) ho,rr⟩
   ·by_cases hb:b=s.heap.objs.size
    ·subst hb;rw[aI] at e;cases e;exact⟨by show 2<=sizeLine;decide,[u1,u2],.cons Lf (.cons Oo .nil),_,FE,rfl,0,rfl⟩
    ·rw[ax hb] at e;refine(I.hok b u e).kE (λc v hc q=>kk c v ?_ q) (λc q=>by rw[ax (aE q qC)];exact q) λc zs q=>by rw[ax (aE q qC)];exact q
     rcases hc with rfl | hc
     ·exact xJ c u e
     ·exact xJ c _ hc
  refine⟨.ref s.heap.objs.size,_,I2,rfl,⟨s.heap.objs.size,x,y,rfl,qC,rfl,λpY IV q1 q2=>?_⟩,⟨c1,JZ,⟨u1,u2,(c2.2 TO ap.TOz).trans a2⟩,a3.at λo e=>(c2.2 i1 ap.i1z).trans e,a4.at λo e=>(c2.2 i2 ap.i2z).trans e⟩,λb hb=>?_⟩
  ·rw[dz] at q1;rw[eB] at q2;rw[mU (Option.some.inj q1).symm,mU (Option.some.inj q2).symm];exact⟨hx,hy⟩
  ·rw[ax (λe=>?_)]
   ·exact(hf b hb).1
   ·have q:∃o,s.heap.get? b=some o:=by
     simp only[Pk,Pl,or_false] at hb;rcases hb with rfl | rfl | rfl | rfl | rfl
     ·exact⟨_,s1⟩
     ·exact⟨_,s2⟩
     ·exact⟨_,s3⟩
     ·obtain⟨o,e,_⟩:=s4.obj;exact⟨o,e⟩
     ·obtain⟨o,e,_⟩:=s5.obj;exact⟨o,e⟩
    obtain⟨o,q⟩:=q;exact lt q e
 done:=by
  intro X hP hw hK hc i pins s σ H E I hf st hg;subst hP hw hK;obtain⟨xs,ys,dz,eB,CJ⟩:=hg;obtain⟨s1,s2,⟨a,b',s3⟩,s4,s5⟩:=st;obtain⟨cV,r1,p1⟩:=cH I dz;obtain⟨aK,r2,p2⟩:=cH I eB;have ne:∀{l:Addr} {o:HO},H l=some o->∀b∈[z,TI,TO,i1,i2],l≠b:=λ {l o} hl b hb e=>by subst e;rw[(hf l hb).1] at hl;cases hl
  have off:∀{l:Addr} {o:HO},H l=some o->iI z TO i1 i2 l:=λ {l o} hl=>⟨ne hl z (by simp),ne hl TO (by simp),ne hl i1 (by simp),ne hl i2 (by simp)⟩
  have e1:=r1.length;have e2:=r2.length;refine yU (I.ok.hd hc) ap (off dz) (off eB) s1 s2 s3 s4 s5 p1 p2 (by simp;lia) λh' kk=>⟨rfl,?_⟩
  have xJ:∀b u,H b=some u->b∉[z,TI,TO,i1,i2]:=λb u e hb=>by rw[(hf b hb).1] at e;cases e
  have xy:∀b o,b∉[z,TI,TO,i1,i2]->s.heap.get? b=some o->h'.get? b=some o:=λb o hb e=>by simp only[Pk,Pl,or_false,not_or] at hb;exact kk b o hb.1 hb.2.2.1 hb.2.2.2.1 hb.2.2.2.2 e
  refine I.step (g':=s.gens) (d':=s.drawn) (t':=s.toks) (h':=h') (ch:=[z,TI,TO,i1,i2]) (λb hb=>⟨(hf b hb).2.2.2.1,(hf b hb).2.1,(hf b hb).2.2.2.2.1,(hf b hb).2.2.2.2.2⟩) (λb o _ _ hb e _=>xy b o hb e) (λb o _ _ hb e _=>⟨o.slots,xy b o hb e⟩)
   (λb o hb e n=>n) (λb o hb e=>⟨o,xy b o hb e⟩) (λb zs e=>e) (λb o u e=>e) (λb ps e=>⟨#[],by rw[e];simp⟩) (λm hm=>?_) (λb u e=>?_) I.bare
  ·obtain⟨o,dk,ep,ho,rr⟩:=hm;exact⟨o,dk,ep,xy _ o (λhb=>(hf _ hb).2.1 rfl) ho,rr⟩
  ·refine(I.hok b u e).kE (λc v hc q=>xy c v ?_ q) (λc q=>q) λc zs q=>q
   rcases hc with rfl | hc
   ·exact xJ c u e
   ·exact xJ c _ hc
 self:=λ_ _ _ _ _ st h=>wpAny_pyIter_zip st.1 h
noncomputable def Gi (ta:TA):TI:=λσ H R=>ta σ H λvs H1=>∃b1 b2 l1 l2 xs ys,vs=[.ref l1,.ref l2]/\H1 l1=some (jx b1 xs)/\H1 l2=some (jx b2 ys)/\R (Jg b1 b2 l1 l2) H1
theorem AM {X:Cx} {es:List Expr} {k:Nat} {tp:Pos} {a b:Expr} {ta:TA} {p pos:Pos} (hg:Gl X "zip") (hm:X.mg "zip"=none) (ha:PA X [a,b] ta) (hs:starEach [a,b] X.env=[(false,eval a X.env),(false,eval b X.env)]:=by rfl) (vo:starEach [b] X.env=[(false,eval b X.env)]:=by rfl):
  PI X (.Tuple es k tp) (.Call (.Name "zip" p) [a,b] [] pos) (Gi ta):=by
 intro pins s σ H R I h;refine Call_ (ej I hg hm boot_zip (PyProof.Rows.callWith_type1 (bq (ha pos pins s σ H _ I h) λus s1 ⟨vs,H1,I1,r1,q1⟩=>?_) (by rw[hs,vo]) (by rw[vo];rfl)));obtain⟨b1,b2,l1,l2,xs,ys,e,e1,e2,q⟩:=q1;subst e;obtain⟨u,v,rfl,ru,rv⟩:=r1.two;cases ru;cases rv;obtain⟨cV,_,p1⟩:=cH I1 e1;obtain⟨aK,_,p2⟩:=cH I1 e2;refine uo p1 p2 λh' g1 g2 g3 g4 g5 kk=>?_
 refine wpAny_pyIter_zip (s:={s1 with heap:=h'}) g1 ?_;have I2:Inv X pins σ H1 {s1 with heap:=h'}:=I1.kept (t':=s1.toks) kk;refine⟨s1.heap.objs.size + 4,[s1.heap.objs.size + 4,s1.heap.objs.size + 2,s1.heap.objs.size + 3,s1.heap.objs.size,s1.heap.objs.size + 1],_,_,H1,rfl,I2,vf (l1:=l1) (l2:=l2) ⟨?_,?_,?_,?_,?_,?_,?_,?_,?_,?_⟩,⟨g1,g2,⟨_,_,g3⟩,g4,g5⟩,λb hb=>?_,q⟩
 iterate 10 (first | (apply PJ;lia) | (apply Nat.ne_of_gt;lia))
 have jh:s1.heap.objs.size<=b:=by simp only[Pk,Pl,or_false] at hb;rcases hb with h | h | h | h | h <;> (rw[h];first | exact Nat.le_add_right _ _ | exact Pd _)
 exact I1.qA jh (I1.hok.fresh jh)
open AutoSeq1 (wpAny_loadPart')
theorem wo {prog:Program} {w:World} {A:Around} (hh:A.handled=none) (b:Bool) (it l:Addr) (iM:l≠it) (items:Array Value):
  Draws prog w A it [it,l] items.size (λi v=>items[i]?=some v) (λi h=>bo b h it l i/\dq b h l items) where
 live:=λ_ _ st=>let ⟨o,ho,_⟩:=st.1.obj;⟨o,ho⟩
 frame:=λ_ _ _ st hk=>⟨st.1.at λo e=>hk it (by simp) o e,st.2.at λo e=>hk l (by simp) o e⟩
 item:=λi s Q E hi st hQ=>by
  refine ei st.1 st.2 (x:=items[i]) (by simp[hi]) λh' Ke hs'=>?_
  exact hQ _ h' s.toks (by simp[hi]) ⟨Ke,st.2.at λo e=>hs'.extBut _ o iM e⟩ hs'
 done:=λs Q E st hE=>iQ hh st.1 st.2 (by simp) hE
theorem ux (b:Bool) (l:Addr) (xs:Array Value):
  Meets (Builtin.«enumerate.__new__» ⟨[.type "enumerate",.ref l],[]⟩) (λ_ R s=>dq b s.heap l xs/\
   R (.ok (.ret (.ref (s.heap.push (gf b l)).objs.size)))
    {s with heap:=(s.heap.push (gf b l)).push {cls:= .type "enumerate",data:= .fields #[.none,.bool false,.ref s.heap.objs.size,rawInt 0,.none,.none]}}):=
 .of_wp λprog w A R s h=>by
  obtain⟨hp,g,d,tk,os⟩:=s;obtain⟨hl,h⟩:=h;have uI:=sub_enumerate;cases b
  ·have hL:Heap.IsList (Shared.heap ⟨hp,g,d,tk,os⟩) l xs:=hl
   wp_walk
   refine wpAny_stack_any λst=>O6 ?_
   split
   ·rename_i c _ _ _ _ _;cases (c==Value.type "enumerate")
    ·wp_walk using wpAny_pyIter_list hL
     exact⟨_,rfl,h⟩
    ·wp_walk using wpAny_pyIter_list hL
     exact⟨_,rfl,h⟩
   ·wp_walk using wpAny_pyIter_list hL
    exact⟨_,rfl,h⟩
  ·have hL:Heap.IsTuple (Shared.heap ⟨hp,g,d,tk,os⟩) l xs:=hl
   wp_walk
   refine wpAny_stack_any λst=>O6 ?_
   split
   ·rename_i c _ _ _ _ _;cases (c==Value.type "enumerate")
    ·wp_walk using wpAny_pyIter_tuple hL
     exact⟨_,rfl,h⟩
    ·wp_walk using wpAny_pyIter_tuple hL
     exact⟨_,rfl,h⟩
   ·wp_walk using wpAny_pyIter_tuple hL
    exact⟨_,rfl,h⟩
section
variable {prog:Program} {w:World} {A:Around} {E:Value->Shared->Prop} {s:Shared}
theorem ql {b:Bool} {l:Addr} {xs:Array Value} {Q:Value->Shared->Prop} (hl:dq b s.heap l xs)
  (h:∀h',IsEnum h' (s.heap.objs.size + 1) s.heap.objs.size 0 .none->bo b h' s.heap.objs.size l 0->(∀c o,s.heap.get? c=some o->h'.get? c=some o)->Q (.ref (s.heap.objs.size + 1)) {s with heap:=h'}):
  wpAny (model prog w) A (call (.type "enumerate") [.ref l]) Q E s:=by
 refine callType_new F.called_enumerate (by decide) (F.typeCall_enumerate_1 _) (F.newCall_enumerate_1 _) (λobj=>F.args_object_init_2 obj _) F.entry_enumerate_new
  (ux b l xs) ⟨hl,?_⟩
 have hz:(s.heap.push (gf b l)).objs.size=s.heap.objs.size + 1:=PH ..;have he:IsEnum ((s.heap.push (gf b l)).push {cls:= .type "enumerate",data:= .fields #[.none,.bool false,.ref s.heap.objs.size,rawInt 0,.none,.none]}) (s.heap.push (gf b l)).objs.size s.heap.objs.size 0 .none:=Pf _ rfl;have g1:=O5 {cls:= .type "enumerate",data:= .fields #[.none,.bool false,.ref s.heap.objs.size,rawInt 0,.none,.none]} (Pf s.heap (iO b l));show _/\_;rw[hz] at he;rw[hz];exact⟨⟨_,he,rfl⟩,h _ he (j4 g1) λc o x=>O5 _ (O5 _ x)⟩
end
noncomputable def Jf (b:Bool) (l:Addr):It where
 go:=λi H=>∃xs x,H l=some (jx b xs)/\xs[i]?=some x
 yld:=λi H v H'=>∃p x,v= .ref p/\H p=none/\H'=upd H p (.tup [.int i,x])/\∀xs,H l=some (jx b xs)->xs[i]?=some x
 stop:=λi H=>∃xs,H l=some (jx b xs)/\xs.length=i
noncomputable def eT (b:Bool) (e it l:Addr) (i:Nat) (h:Heap):Prop:=(∃old,IsEnum h e it i old)/\bo b h it l i
theorem rG {P:Program} {w:World} {K:PySem.W.Frag} {es:List Expr} {k:Nat} {tp:Pos} {b:Bool} {e it l:Addr} (ap:e≠it):
  Turn P w K (.Tuple es k tp) (Jf b l) [e,it] e (eT b e it l) where
 mem:=by simp
 obj:=λi h st c hb=>by
  obtain⟨⟨old,s1⟩,s4⟩:=st;simp only[Pk,Pl,or_false] at hb;rcases hb with rfl | rfl
  ·exact⟨_,s1,λv q=>by cases q⟩
  ·exact s4.obj
 keep:=λi h h' st kk=>by obtain⟨⟨old,s1⟩,s4⟩:=st;exact⟨⟨old,kk e (by simp) _ s1⟩,s4.at λo q=>kk it (by simp) o q⟩
 item:=by
  intro X hP hw hK hc i pins s σ H E I hf st hg;subst hP hw hK;obtain⟨xs,x,dz,hx⟩:=hg;obtain⟨⟨old,s1⟩,s4⟩:=st;obtain⟨cV,r1,p1⟩:=cH I dz;obtain⟨u1,vq,Lf⟩:=r1.get hx;have ne:∀{l:Addr} {o:HO},H l=some o->∀c∈[e,it],l≠c:=λ {l o} hl c hb q=>by subst q;rw[(hf l hb).1] at hl;cases hl
  have bX:i < cV.toArray.size:=by have:=(Pa.mp vq).1;simpa using this
  refine wpAny_pyNext_enum_itemD (wo (A:=X.A.in1) (I.ok.hd hc) b it l (ne dz it (by simp)) cV.toArray) s1 ⟨s4,p1⟩ bX ap (λhm=>?_) λy h' tk hy a1 a2 a3 a4 a5=>⟨_,rfl,?_⟩
  ·rcases Pk.mp hm with q | hm
   ·exact ap q
   ·exact ne dz e (by simp) (PN.mp hm).symm
  have Oc:y=u1:=by
   have q:cV.toArray[i]?=some u1:=by simpa using vq
   rw[q] at hy;exact(Option.some.inj hy).symm
  subst Oc;refine wpAny_letOwnedTupleGo_enum (s:={s with heap:=h',toks:=tk + 1}) a1 λh2 c1 c2=>?_
  have J4:s.heap.objs.size≠e:=λq=>by have:=Pi s1;rw[<-q] at this;exact Nat.lt_irrefl _ this
  have FE:h2.get? s.heap.objs.size=some {cls:= .type "tuple",data:= .seq #[.int i tk,y]}:=(c2.2 _ J4).trans a3;have kk:∀b o,b∉[e,it]->s.heap.get? b=some o->h2.get? b=some o:=λb o hb q=>by simp only[Pk,Pl,or_false,not_or] at hb;exact(c2.2 b hb.1).trans (a5 b o hb.1 hb.2 q)
  have lt:∀{b:Addr} {o:Obj},s.heap.get? b=some o->b≠s.heap.objs.size:=λe=>PJ (Pi e)
  have xJ:∀b u,H b=some u->b∉[e,it]:=λb u q hb=>by rw[(hf b hb).1] at q;cases q
  have qC:H s.heap.objs.size=none:=I.fresh;have I2:Inv X pins σ (upd H s.heap.objs.size (.tup [.int i,x])) {s with heap:=h2,toks:=tk + 1}:=by
   refine I.step (g':=s.gens) (d':=s.drawn) (ch:=[e,it]) (λb hb=>⟨(hf b hb).2.2.2.1,(hf b hb).2.1,(hf b hb).2.2.2.2.1,(hf b hb).2.2.2.2.2⟩) (λb o _ _ hb e _=>kk b o hb e) (λb o _ _ hb e _=>⟨o.slots,kk b o hb e⟩)
    (λb o hb e n=>by rw[ax (lt e)];exact n) (λb o hb e=>⟨o,kk b o hb e⟩) (λb zs e=>by rw[ax (aE e qC)];exact e) (λb o u e=>by rw[ax (aE e qC)];exact e)
    (λb ps e=>⟨#[],by rw[ax (aE e qC),e];simp⟩) (λm hm=>?_) (λb u q=>?_) I.bare
   ·obtain⟨o,dk,ep,ho,rr⟩:=hm;exact⟨o,dk,ep,kk _ o (λhb=>(hf _ hb).2.1 rfl) ho,rr⟩
   ·by_cases hb:b=s.heap.objs.size
    ·subst hb;rw[aI] at q;cases q;exact⟨by show 2<=sizeLine;decide,[.int i tk,y],.cons ⟨_,rfl⟩ (.cons Lf .nil),_,FE,rfl,0,rfl⟩
    ·rw[ax hb] at q;refine(I.hok b u q).kE (λc v hc z=>kk c v ?_ z) (λc z=>by rw[ax (aE z qC)];exact z) λc zs z=>by rw[ax (aE z qC)];exact z
     rcases hc with rfl | hc
     ·exact xJ c u q
     ·exact xJ c _ hc
  refine⟨.ref s.heap.objs.size,_,I2,rfl,⟨s.heap.objs.size,x,rfl,qC,rfl,λpY q1=>?_⟩,⟨⟨_,by simpa using c1⟩,a2.1.at λo q=>(c2.2 it ap.symm).trans q⟩,λb hb=>?_⟩
  ·rw[dz] at q1;rw[mU (Option.some.inj q1).symm];exact hx
  ·rw[ax (λq=>?_)]
   ·exact(hf b hb).1
   ·have z:∃o,s.heap.get? b=some o:=by
     simp only[Pk,Pl,or_false] at hb;rcases hb with rfl | rfl
     ·exact⟨_,s1⟩
     ·obtain⟨o,e,_⟩:=s4.obj;exact⟨o,e⟩
    obtain⟨o,z⟩:=z;exact lt z q
 done:=by
  intro X hP hw hK hc i pins s σ H E I hf st hg;subst hP hw hK;obtain⟨xs,dz,CJ⟩:=hg;obtain⟨⟨old,s1⟩,s4⟩:=st;obtain⟨cV,r1,p1⟩:=cH I dz;have ne:∀{l:Addr} {o:HO},H l=some o->∀c∈[e,it],l≠c:=λ {l o} hl c hb q=>by subst q;rw[(hf l hb).1] at hl;cases hl
  have e1:=r1.length;have hn:cV.toArray.size=i:=by simp;lia
  refine wpAny_pyNext_enum_endD (wo (A:=X.A.in1) (I.ok.hd hc) b it l (ne dz it (by simp)) cV.toArray) s1 (by rw[hn];exact⟨s4,p1⟩) λh' kk=>⟨rfl,?_⟩
  have xJ:∀b u,H b=some u->b∉[e,it]:=λb u q hb=>by rw[(hf b hb).1] at q;cases q
  have xy:∀b o,b∉[e,it]->s.heap.get? b=some o->h'.get? b=some o:=λb o hb q=>by simp only[Pk,Pl,or_false,not_or] at hb;exact kk b o hb.2 q
  refine I.step (g':=s.gens) (d':=s.drawn) (t':=s.toks) (h':=h') (ch:=[e,it]) (λb hb=>⟨(hf b hb).2.2.2.1,(hf b hb).2.1,(hf b hb).2.2.2.2.1,(hf b hb).2.2.2.2.2⟩) (λb o _ _ hb e _=>xy b o hb e) (λb o _ _ hb e _=>⟨o.slots,xy b o hb e⟩)
   (λb o hb e n=>n) (λb o hb e=>⟨o,xy b o hb e⟩) (λb zs e=>e) (λb o u e=>e) (λb ps e=>⟨#[],by rw[e];simp⟩) (λm hm=>?_) (λb u q=>?_) I.bare
  ·obtain⟨o,dk,ep,ho,rr⟩:=hm;exact⟨o,dk,ep,xy _ o (λhb=>(hf _ hb).2.1 rfl) ho,rr⟩
  ·refine(I.hok b u q).kE (λc v hc z=>xy c v ?_ z) (λc z=>z) λc zs z=>z
   rcases hc with rfl | hc
   ·exact xJ c u q
   ·exact xJ c _ hc
 self:=λ_ _ _ _ _ st h=>by obtain⟨⟨old,s1⟩,_⟩:=st;exact wpAny_pyIter_enum s1 h
noncomputable def CW (ta:TA):TI:=λσ H R=>ta σ H λvs H1=>∃b l xs,vs=[.ref l]/\H1 l=some (jx b xs)/\R (Jf b l) H1
theorem xW {X:Cx} {es:List Expr} {k:Nat} {tp:Pos} {a:Expr} {ta:TA} {p pos:Pos} (hg:Gl X "enumerate") (hm:X.mg "enumerate"=none) (ha:PA X [a] ta) (hs:starEach [a] X.env=[(false,eval a X.env)]:=by rfl):
  PI X (.Tuple es k tp) (.Call (.Name "enumerate" p) [a] [] pos) (CW ta):=by
 intro pins s σ H R I h;refine Call_ (ej I hg hm boot_enumerate (PyProof.Rows.callWith_type1 (bq (ha pos pins s σ H _ I h) λus s1 ⟨vs,H1,I1,r1,q1⟩=>?_) (by rw[hs];rfl) rfl));obtain⟨b,l,xs,e,e1,q⟩:=q1;subst e;obtain⟨u,rfl,ru⟩:=r1.one;cases ru;obtain⟨cV,_,p1⟩:=cH I1 e1;refine ql p1 λh' g1 g2 kk=>?_
 refine wpAny_pyIter_enum (s:={s1 with heap:=h'}) g1 ?_;have I2:Inv X pins σ H1 {s1 with heap:=h'}:=I1.kept (t':=s1.toks) kk;refine⟨s1.heap.objs.size + 1,[s1.heap.objs.size + 1,s1.heap.objs.size],_,_,H1,rfl,I2,rG (l:=l) (Nat.succ_ne_self _),⟨⟨_,g1⟩,g2⟩,λc hb=>?_,q⟩;have jh:s1.heap.objs.size<=c:=by simp only[Pk,Pl,or_false] at hb;rcases hb with h | h <;> (rw[h];first | exact Nat.le_add_right _ _ | exact Pd _)
 exact I1.qA jh (I1.hok.fresh jh)
theorem nW {M:Model} {A:Around} {E:Value->Shared->Prop} {s:Shared} {src:Source} {n:Nat} {Q:Nat->Shared->Prop} (hn:n≠0) (h:∀i d,i < n->Q i {s with drawn:=d}):wpAny M A (choose src n) Q E s:=
 λ_ _ _=>⟨hn,h _ _ (Nat.mod_lt _ (Nat.pos_of_ne_zero hn))⟩
noncomputable def vQ (w:World):Bool:=w.params.followText "set-order"
section
variable {prog:Program} {w:World} {A:Around} {E:Value->Shared->Prop} {s:Shared}
theorem cX {Q:Bool->Shared->Prop} (h:Q (vQ w) s):wpAny (model prog w) A setsByText Q E s:=by unfold setsByText;exact O3 (wpAny_askSetting (O6 h))
theorem k7 (t:SetTable) (n:Nat):(t.orStandIn n).led=t.led:=by unfold SetTable.orStandIn;split <;> rfl
theorem qN (t:SetTable) (es:Array (Int×Value)) (h:Int) (x:Value):(layNew t es h x).2.1.led=t.led:=by
 unfold layNew;split
 ·dsimp only;rw[k7];rfl
 ·rfl
theorem nD (t:SetTable) (es:Array (Int×Value)) (n:Nat):(relayAll t es n).2.1.led=t.led:=by
 unfold relayAll;split
 ·rename_i t' order h;unfold SetTable.relaid SetTable.laid at h;obtain⟨o,_,h⟩:=O4.mp h;cases h;dsimp only;split <;> rfl
 ·rfl
theorem kv (t:SetTable) (es:Array (Int×Value)) (n:Nat) (hp:t.plain=false):(relayAll t es n).2.1.plain=false:=by
 unfold relayAll;split
 ·rename_i t' order h;unfold SetTable.relaid SetTable.laid at h;obtain⟨o,_,h⟩:=O4.mp h;cases h;dsimp only;split
  ·exact hp
  ·rfl
 ·rfl
variable (prog w) in
noncomputable def cu (h:Heap) (a:Addr) (ks:List Str):Prop:=
 ∃(es:Array (Int×Value)) (ep:Nat) (t:SetTable),h.get? a=some {cls:= .type "set",dict:=none,data:= .set es ep t,slots:=#[]}/\ks.Nodup/\ar (ks.map V.str) (es.toList.map (·.2))/\ElemsOf (strKind prog w) es.toList/\
  es.size < scanBound/\t.fits es.size=true/\t.led= !vQ w/\(es.size≠0->t.plain=false)
theorem cu.at {h h':Heap} {a:Addr} {ks:List Str} (x:cu prog w h a ks) (hk:∀o,h.get? a=some o->h'.get? a=some o):cu prog w h' a ks:=by obtain⟨es,ep,t,h1,r⟩:=x;exact⟨es,ep,t,hk _ h1,r⟩
theorem i0 {l l':List (Int×Value)} (p:l'.Perm l):∀{ks:List Str},ar (ks.map V.str) (l.map (·.2))->∃cW:List Str,cW.Perm ks/\ar (cW.map V.str) (l'.map (·.2)):=by
 have hh:=p.symm;clear p
 induction hh with
 | nil=>intro ks h;exact⟨ks,List.Perm.refl _,h⟩
 | cons x h ih=>
  intro ks r;cases ks with
  | nil=>cases r
  | cons k ks=>
   rw[P1,P1] at r;cases r with
   | cons r0 rr=>obtain⟨cW,p1,p2⟩:=ih rr;exact⟨k::cW,p1.cons k,by rw[P1,P1];exact .cons r0 p2⟩
 | swap x y l=>
  intro ks r;cases ks with
  | nil=>cases r
  | cons k ks=>
   cases ks with
   | nil=>cases r with | cons _ rr=>cases rr
   | cons k2 ks=>
    simp only[P1] at r;cases r with
    | cons r0 rr=>
     cases rr with
     | cons r1 rr=>exact⟨k2::k::ks,List.Perm.swap k k2 ks,by simp only[P1];exact .cons r1 (.cons r0 rr)⟩
 | trans h1 h2 ih1 ih2=>intro ks r;obtain⟨IE,p1,r1⟩:=ih1 r;obtain⟨KF,p2,r2⟩:=ih2 r1;exact⟨KF,p2.trans p1,r2⟩
theorem pU {es:List (Int×Value)} {ks:List Str} (r:ar (ks.map V.str) (es.map (·.2))) (k:Str):(∃e∈es,(strKind prog w).is k e.2=true)↔k∈ks:=by
 induction es generalizing ks with
 | nil=>
  cases ks with
  | nil=>simp
  | cons k ks=>cases r
 | cons e es ih=>
  cases ks with
  | nil=>cases r
  | cons k0 ks=>
   simp only[P1] at r;cases r with
   | cons r0 rr=>
    obtain⟨t,e0⟩:=r0;have:(strKind prog w).is k e.2=true↔k=k0:=by rw[e0];show Value.isStrOf k (.str k0 t)=true↔_;unfold Value.isStrOf;simp;exact eq_comm
    rw[Pk,<-ih rr,<-this];constructor
    ·rintro⟨x,hx,q⟩;rcases Pk.mp hx with rfl | hx
     ·exact .inl q
     ·exact .inr ⟨x,hx,q⟩
    ·rintro(q | ⟨x,hx,q⟩)
     ·exact⟨e,by simp,q⟩
     ·exact⟨x,Pb _ hx,q⟩
theorem pS {a:Addr} {es:Array (Int×Value)} {ep:Nat} {t:SetTable} (h:Heap) (ho:h.get? a=some {cls:= .type "set",dict:=none,data:= .set es ep t,slots:=#[]}) (dk:Array (Int×Value)) (t':SetTable):
  (h.update a (Obj.putSet dk t')).get? a=some {cls:= .type "set",dict:=none,data:= .set dk (ep + 1) t',slots:=#[]}:=by
 have:=Heap.get?_update_self (Obj.putSet dk t') ho (by rw[putSet_of dk t' rfl];rfl);rw[putSet_of dk t' rfl] at this;exact this
theorem t9 {g:Bool->Sem Unit} (hg:∀(b:Bool) {s₁:Shared} {Q':Unit->Shared->Prop},Q' () s₁->wpAny (model prog w) A (g b) Q' E s₁) {a:Addr} {es:Array (Int×Value)} {ep:Nat} {t:SetTable}
  (ho:s.heap.get? a=some {cls:= .type "set",dict:=none,data:= .set es ep t,slots:=#[]}) {gX:Array (Int×Value)} {t2:SetTable} {ks:List Str} (eQ:ks.Nodup) (hv:ar (ks.map V.str) (gX.toList.map (·.2))) (Bx:ElemsOf (strKind prog w) gX.toList)
  (hb:gX.size < scanBound) (hf:t2.fits gX.size=true) (hl:t2.led= !vQ w) (hp:t2.plain=false) {pV:Bool} {R:Option Bool->Shared->Prop}
  (h:∀h' cW,Heap.SameBut a s.heap h'->cW.Perm ks->cu prog w h' a cW->R (some true) {s with heap:=h'}):
  wpAny (model prog w) A (do
    storeSet a gX t2
    if (!pV&&t2.tooFull)=true then do
      g (relayAll t2 gX (SetTable.grown gX.size)).2.2
      storeSet a (relayAll t2 gX (SetTable.grown gX.size)).1 (relayAll t2 gX (SetTable.grown gX.size)).2.1
      pure (some true)
     else pure (some true)) R E s:=by
 refine O3 (wpAny_storeSet_of ho rfl ?_ (fits_of_scanBound hb));have EK:=pS s.heap ho gX t2;have Ga:=Heap.SameBut.update s.heap a (Obj.putSet gX t2);split
 ·have F7:=relayAll_perm t2 gX (SetTable.grown gX.size);have uE:=relayAll_fits t2 gX (SetTable.grown gX.size);have Kg:=nD t2 gX (SetTable.grown gX.size);have Km:=kv t2 gX (SetTable.grown gX.size) hp;generalize hRl:relayAll t2 gX (SetTable.grown gX.size)=Rl at F7 uE Kg Km ⊢;obtain⟨qv,t3,LX⟩:=Rl;dsimp only at F7 uE Kg Km ⊢;obtain⟨KF,p2,N7⟩:=i0 F7 hv;have g0:qv.size=gX.size:=by rw[<-Pt,F7.length_eq,Pt]
  refine O3 (hg _ ?_);refine O3 (wpAny_storeSet_of EK rfl ?_ (fits_of_scanBound (by lia)));exact O6 (h _ KF (Ga.trans (Heap.SameBut.update _ a _)) p2 ⟨qv,ep + 2,t3,pS _ EK qv t3,p2.nodup_iff.mpr eQ,N7,Bx.perm F7,by lia,uE,Kg.trans hl,λ_=>Km⟩)
 ·exact O6 (h _ ks Ga (List.Perm.refl _) ⟨gX,ep + 1,t2,EK,eQ,hv,Bx,hb,hf,hl,λ_=>hp⟩)
theorem vg {a:Addr} {ks:List Str} {k:Str} {tk:Tok} {Q:Bool->Shared->Prop} (hS:cu prog w s.heap a ks) (Mq:ks.length + 1 < scanBound)
  (h:∀b h' cW,Heap.SameBut a s.heap h'->cu prog w h' a cW->(∀y,y∈cW↔y∈ks\/y=k)->cW.length<=ks.length + 1->Q b {s with heap:=h'}):
  wpAny (model prog w) A (setAddHashed a (.str k tk) ((strKind prog w).hash k)) Q E s:=by
 obtain⟨es,ep,t,ho,eQ,hv,Bx,hb,hf,xc,gz⟩:=hS;have zX:(strKind prog w).is k (.str k tk)=true:=strKind_is _ _ _ _;have zf:(Value.str k tk).scannable=true:=rfl;have Mg:es.size=ks.length:=by have:=hv.length;rw[Ph,Ph,Pt] at this;exact this.symm
 unfold setAddHashed setAddHashedIn;refine wpAny_holding (O3 (wpAny_setState_of ho rfl hf ?_));dsimp only;rw[byScan_of zf hb Bx];simp only[↓reduceIte];unfold setAddByScan;refine O3 (O3 (wpAny_rule (O3 (wpAny_setScan_of zX ho rfl hf Bx ?_))));cases hr:List.findIdx? (λe=>(strKind prog w).is k e.2) es.toList with
 | some j=>
  dsimp only;obtain⟨hj,F4,_⟩:=List.findIdx?_eq_some_iff_getElem.mp hr;have hk:k∈ks:=(pU (prog:=prog) (w:=w) hv k).mp ⟨es.toList[j],List.getElem_mem hj,F4⟩;refine O6 (O6 ?_);have e:s={s with heap:=s.heap}:=by cases s;rfl
  rw[e];exact h _ _ ks (Heap.SameBut.refl a s.heap) ⟨es,ep,t,ho,eQ,hv,Bx,hb,hf,xc,gz⟩ (λy=>⟨.inl,λz=>z.elim id λq=>q▸hk⟩) (by lia)
 | none=>
  dsimp only;have hk:k∉ks:=λhk=>by obtain⟨e,he,hp⟩:=(pU (prog:=prog) (w:=w) hv k).mpr hk;have:=List.findIdx?_eq_none_iff.mp hr e he;rw[hp] at this;exact Bool.noConfusion this
  have Kc:∀(b:Bool) {s₁:Shared} {Q':Unit->Shared->Prop},Q' () s₁->wpAny (model prog w) A (match b with | true=>rule "set.scan.the-table-gave-way" | false=>pure ()) Q' E s₁:=
   λb s₁ Q' hq=>by cases b <;> first | exact O6 hq | exact wpAny_rule hq
  have lN:=layNew_perm t es ((strKind prog w).hash k) (.str k tk);have sO:=layNew_fits t es ((strKind prog w).hash k) (.str k tk);have dz:=qN t es ((strKind prog w).hash k) (.str k tk);generalize hL:layNew t es ((strKind prog w).hash k) (.str k tk)=L at lN sO dz ⊢;obtain⟨gX,t1,pV,Nc⟩:=L;dsimp only at lN sO dz ⊢;rw[Array.toList_push] at lN;have FQ:ElemsOf (strKind prog w) gX.toList:=(Bx.push zX zf).perm lN;have Aa:ar ((ks++[k]).map V.str) ((es.toList++[((strKind prog w).hash k,Value.str k tk)]).map (·.2)):=by rw[P3,P3];exact hv.append (.cons ⟨tk,rfl⟩ .nil)
  obtain⟨IE,p1,Ge⟩:=i0 lN Aa;have N3:gX.size=es.size + 1:=by rw[<-Pt,lN.length_eq,Po,Pt];rfl
  have wR:gX.size < scanBound:=by lia
  have FZ:IE.Nodup:=p1.nodup_iff.mpr (by
   rw[List.nodup_append];exact⟨eQ,by simp,λx hx y hy=>by rw[PN] at hy;subst hy;exact λe=>hk (e▸hx)⟩)
  have Kh:∀y,y∈IE↔y∈ks\/y=k:=λy=>by rw[p1.mem_iff,Pv,PN]
  have BB:IE.length<=ks.length + 1:=by rw[p1.length_eq,Po];simp
  refine O3 (Kc _ ?_);split
  ·refine O3 ?_;rw[hashByValue_scannable 8 zf];refine O6 ?_;exact t9 Kc ho FZ Ge FQ wR (t2:=if plainKind (Value.str k tk)=true then t1 else{t1 with plain:=false}) (by
     rw[if_neg (by show¬(false=true);simp)];exact SetTable.fits_plain_off sO) (by rw[if_neg (by show¬(false=true);simp)];exact dz.trans xc) (by rw[if_neg (by show¬(false=true);simp)]) λh' cW sb pm x=>O6 (h _ h' cW sb x (λy=>pm.mem_iff.trans (Kh y)) (by rw[pm.length_eq];exact BB))
  ·refine O3 (O6 ?_);simp only[↓reduceIte];exact t9 Kc ho FZ Ge FQ wR sO (dz.trans xc) (by rename_i q;simpa using q) λh' cW sb pm x=>O6 (h _ h' cW sb x (λy=>pm.mem_iff.trans (Kh y)) (by rw[pm.length_eq];exact BB))
end
section
variable {prog:Program} {w:World} {A:Around} {R:Result->Shared->Prop} {I:Addr} {fp wr:List Addr} {G:Array GenState->Array GenState->Prop} {n:Nat} {P:Nat->Value->Prop} {St:Nat->Shared->Prop}
theorem t7 (W:WalksS prog w A.in1 I fp wr G n P St) (S:Addr) (sN:S∉fp) (xs:List Str) (Ae:xs.length=n) (Ab:∀i v,P i v->∃x t,xs[i]?=some x/\v= .str x t) (hb:n + 1 < scanBound):
  ∀(k i:Nat) (s:Shared) (ks:List Str),n - i=k->i<=n->St i s->cu prog w s.heap S ks->(∀y,y∈ks↔y∈xs.take i)->ks.length<=i->
   (∀s' cW,Moved (S::wr) G s s'->cu prog w s'.heap S cW->(∀y,y∈cW↔y∈xs)->R (.ok (.ret .none)) s')->
   codeAny (model prog w) A (.builtin "set.update.loop" ⟨[.ref S,.ref I],[]⟩) R s:=by
 have CF:S∉wr:=λh=>sN (W.sub _ h)
 have uI:∀b∈wr,b∈S::wr:=λb hb=>Pb _ hb
 intro k
 induction k with
 | zero=>
  intro i s ks hk hi gZ hS hm hl hR;have vn:i=n:=by lia
  subst vn;refine codeAny_builtin F.entry_set_update_loop ?_;rw[Around.under_plainId F.plain_set_update_loop _];show wpAny _ A.in1 (pyNext (.ref I) >>=_) _ _ s;refine O3 (W.done s _ _ gZ λs' hm'=>?_);show wpAny _ A.in1 (ret Value.none) _ _ s';exact O6 (hR s' ks (hm'.mono uI) (hS.at λo e=>hm'.heap S o CF e) λy=>by rw[hm y,List.take_of_length_le (by lia)])
 | succ k ih=>
  intro i s ks hk hi gZ hS hm hl hR;have bX:i < n:=by lia
  refine codeAny_builtin F.entry_set_update_loop ?_;rw[Around.under_plainId F.plain_set_update_loop _];show wpAny _ A.in1 (pyNext (.ref I) >>=_) _ _ s;refine O3 (W.item i s _ _ bX gZ λv s' hP hst' hm'=>?_);obtain⟨x,t,hx,rfl⟩:=Ab i v hP;have nY:cu prog w s'.heap S ks:=hS.at λo e=>hm'.heap S o CF e
  show wpAny _ A.in1 (holding [Value.str x t] (setAdd S (.str x t)) >>=_) _ _ s';refine O3 (wpAny_holding ?_);unfold setAdd;refine wpAny_holding ?_;refine O3 ((strKind prog w).pyHash (k:=x) (strKind_is _ _ _ _) ?_);refine vg (s:={s' with toks:=s'.toks + 1}) nY (by lia) λb h' cW hsb hS2 EJ eB=>?_
  refine O6 ⟨plainId_quiet F.plain_set_update_loop _,ih (i + 1) _ cW (by lia) bX (W.frame _ s' _ _ hst' (Nat.le_succ _) λb hb o e=>?_) hS2 (λy=>?_) (by lia) λs'' ks'' hm'' hS'' xg=>?_⟩
  ·rw[hsb.2 b (λh:b=S=>sN (by rw[<-h];exact hb))];exact e
  ·rw[EJ y,hm y,List.take_succ,hx];simp
  ·refine hR s'' ks'' (Moved.trans W.gtrans ((hm'.mono uI).then_heap (Nat.le_succ _) λb o hb e=>?_) hm'') hS'' xg;rw[hsb.2 b (λh:b=S=>hb (by rw[h];exact Pe))];exact e
end
namespace F
theorem sub_tuple_set:isSubtype (.type "tuple") (.type "set")=pure false:=by rw[isSubtype_type];kernel_rfl
theorem sub_tuple_frozenset:isSubtype (.type "tuple") (.type "frozenset")=pure false:=by rw[isSubtype_type];kernel_rfl
end F
noncomputable def cg (w:World):Obj:={cls:= .type "set",dict:=none,data:= .set #[] 0 (.fresh 0 0 (!vQ w))}
section
variable {prog:Program} {w:World} {A:Around} {E:Value->Shared->Prop} {s:Shared}
theorem yE:cu prog w (s.heap.push (cg w)) s.heap.objs.size []:=
 ⟨#[],0,_,Pf _ rfl,List.nodup_nil,.nil,λe he=>by simp at he,by decide,by rfl,rfl,λz=>(z rfl).elim⟩
theorem code_set_new (a:Value) {Q₁:Value->Shared->Prop} (h:Q₁ (.ref s.heap.objs.size) {s with heap:=s.heap.push (cg w)}):
  codeAny (model prog w) A (.call (.builtin "set.__new__") ⟨[.type "set",a],[]⟩) (wants Q₁ E) s:=by
 refine codeAny_of_tree ?_;show wpAny _ A.in1 (do checkBuiltinCall "set.__new__" ⟨[.type "set",a],[]⟩;again (.builtin "set.__new__" ⟨[.type "set",a],[]⟩)) _ _ s;refine O3 (wpAny_of_eq (F.newCall_set_1 a) (O6 ⟨plainId_quiet F.plain_set_new _,codeAny_builtin F.entry_set_new ?_⟩));rw[Around.under_plainId F.plain_set_new _];unfold Builtin.«set.__new__» Builtin.Frozenset.newClass;have uI:=sub_set_self;obtain⟨hp,g,d,tk,os⟩:=s;dsimp only
 wp_walk
 refine wpAny_askSetting (O6 ?_);dsimp only;simp only[newObj];refine O3 (wpAny_alloc (O6 ?_));exact O6 h
theorem yk {b:Bool} {h:Heap} {l:Addr} {xs:Array Value} (x:dq b h l xs):∃o,h.get? l=some o:=by
 cases b with
 | false=>obtain⟨o,ho,_⟩:=x;exact⟨o,ho⟩
 | true=>obtain⟨o,ho,_⟩:=x;exact⟨o,ho⟩
set_option maxHeartbeats 8000000 in
theorem my {b:Bool} {l:Addr} {items:Array Value} {xs:List Str} {Q:Value->Shared->Prop}
  (hh:A.handled=none) (hl:dq b s.heap l items) (hi:ar (xs.map V.str) items.toList) (hb:items.size + 1 < scanBound)
  (h:∀(h':Heap) (tk:Nat) (ks:List Str),cu prog w h' s.heap.objs.size ks->(∀y,y∈ks↔y∈xs)->
   (∀b o,s.heap.get? b=some o->h'.get? b=some o)->Q (.ref s.heap.objs.size) {s with heap:=h',toks:=tk}):
  wpAny (model prog w) A (call (.type "set") [.ref l]) Q E s:=by
 obtain⟨c,tl,NP⟩:=F.called_set.mro;have Mh:=F.called_set.made;have uI:=F.called_set.sub;refine wpAny_call (codeAny_of_tree ?_);show wpAny _ _ (callAny (.type "set") _) _ _ _;refine O6 ⟨Code.quiet_builtin _ (by decide +kernel),codeAny_builtin F.entry_type_call ?_⟩;rw[Around.under_plain (weight_type_call_type "set" [.ref l] []) rfl];have h1:=F.called_set.notType;have h2:=F.called_set.canCreate;have OO:=F.typeCall_set_1 (.ref l)
 repeat (any_goals (first | assumption | wp_step))
 refine codeAny_mono (code_set_new (.ref l) (E:=E) (Q₁:=λobj s₁=>obj= .ref s.heap.objs.size/\s₁={s with heap:=s.heap.push (cg w)}) ⟨rfl,rfl⟩) λr s₁ hr=>?_
 cases r with
 | error e=>exact hr
 | ok fl=>
  cases fl with
  | ret obj=>
   obtain⟨rfl,rfl⟩:=hr;have hT:Shared.TypeIs {s with heap:=s.heap.push (cg w)} (.ref s.heap.objs.size) "set":=⟨_,Pf _ rfl,rfl⟩;have OR:=F.called_set.init.lookup;have L7:=F.called_set.init.bind (.ref s.heap.objs.size)
   repeat (any_goals (first | assumption | wp_step))
   refine codeAny_mono (codeAny_call_builtin (R:=wants (λr s₂=>r= .none/\∃h' tk ks,s₂={s with heap:=h',toks:=tk}/\cu prog w h' s.heap.objs.size ks/\(∀y,y∈ks↔y∈xs)/\
     (∀b o,s.heap.get? b=some o->h'.get? b=some o)) E) F.called_set.init.plain F.entry_set_init (check_set_init_1 hT ?_)) λr₂ s₂ hr₂=>?_
   ·have OQ:=hl;obtain⟨ob,NU⟩:=yk hl;have Mf:l < s.heap.objs.size:=Pi NU;have Md:A.in1.in1.in1.handled=none:=by simp[hh]
    have hz:(s.heap.push (cg w)).objs.size=s.heap.objs.size + 1:=PH ..;have F0:l≠(s.heap.push (cg w)).objs.size:=by rw[hz];exact PJ (Nat.lt_succ_of_lt Mf)
    have sN:s.heap.objs.size∉[(s.heap.push (cg w)).objs.size,l]:=by rw[hz];simp only[Pk,PN,Pl,or_false,not_or];exact⟨PJ (Nat.lt_succ_self _),Nat.ne_of_gt Mf⟩
    have hlen:xs.length=items.size:=by have:=hi.length;rw[Ph,Pt] at this;exact this
    have Ab:∀(i:Nat) (v:Value),items[i]?=some v->∃x t,xs[i]?=some x/\v= .str x t:=λi v hv=>by
     rw[<-Array.getElem?_toList] at hv;cases hx:xs[i]? with
     | none=>
      have e1:=List.getElem?_eq_none_iff.mp hx;have e2:=(Pa.mp hv).1;rw[Pt] at e2
      lia
     | some x=>obtain⟨u,hu,t,ru⟩:=hi.get (i:=i) (x:= .str x) (by rw[Pr,hx];rfl);rw[hu] at hv;cases hv;exact⟨x,t,rfl,ru⟩
    have fin:∀(o:Obj) (s':Shared) (cW:List Str),Moved [s.heap.objs.size,(s.heap.push (cg w)).objs.size] (λa b=>b=a) {s with heap:=(s.heap.push (cg w)).push o} s'->cu prog w s'.heap s.heap.objs.size cW->(∀y,y∈cW↔y∈xs)->
      ∃h' tk ks,s'={s with heap:=h',toks:=tk}/\cu prog w h' s.heap.objs.size ks/\(∀y,y∈ks↔y∈xs)/\(∀b o,s.heap.get? b=some o->h'.get? b=some o):=by
     intro o s' cW hm nY xg;obtain⟨h',g',d',LC,GO⟩:=s';have eg:g'=s.gens:=hm.gens;have ed:d'=s.drawn:=hm.drawn;have eo:GO=s.os:=hm.os;subst eg;subst ed;subst eo;refine⟨h',LC,cW,rfl,nY,xg,λb o' e=>?_⟩;have hb:=Pi e;have wR:b≠s.heap.objs.size:=PJ hb;have Bu:b≠(s.heap.push (cg w)).objs.size:=by rw[hz];exact PJ (Nat.lt_succ_of_lt hb)
     exact hm.heap b o' (by simp only[Pk,PN,Pl,or_false,not_or];exact⟨wR,Bu⟩) (O5 _ (O5 _ e))
    cases b with
    | false=>
     obtain⟨ol,CP,uC,nl,wX⟩:=hl;obtain⟨KR,xP,GE,qY⟩:=ol;simp only at uC wX;subst uC;subst wX;have CQ:(s.heap.push (cg w)).get? l=some {cls:= .type "list",dict:=xP,data:= .seq items nl,slots:=qY}:=O5 _ CP;have Kq:=F.sub_list_set;have Kp:=F.sub_list_frozenset;have iM:(Value.type "list"==Value.type "dict")=false:=by decide
     have dz:(s.heap.push (cg w)).IsList l items:=⟨_,CQ,rfl,nl,rfl⟩;unfold Builtin.«set.__init__» noKeywords Builtin.Frozenset.updateFrom;generalize hPI:pyIter=PI
     wp_walk
     subst hPI;refine wpAny_pyIter_list dz ?_;refine O3 (wpAny_runValue ?_);refine t7 ((Walks.list Md _ l F0 items).toS) s.heap.objs.size sN xs hlen Ab hb (items.size - 0) 0 _ [] (by lia) (Nat.zero_le _)
      ⟨⟨_,Pf _ rfl,rfl,rfl⟩,(dz.push _)⟩ (yE.at λo e=>O5 _ e) (by simp) (Pd _) λs' cW hm nY xg=>?_
     show wpAny _ _ _ _ _ _;refine O6 ?_;show wpAny _ _ (ret Value.none) _ _ _;exact O6 ⟨rfl,fin _ s' cW hm nY xg⟩
    | true=>
     obtain⟨ol,CP,uC,nl,wX⟩:=hl;obtain⟨KR,xP,GE,qY⟩:=ol;simp only at uC wX;subst uC;subst wX;have CQ:(s.heap.push (cg w)).get? l=some {cls:= .type "tuple",dict:=xP,data:= .seq items nl,slots:=qY}:=O5 _ CP;have Kq:=F.sub_tuple_set;have Kp:=F.sub_tuple_frozenset;have iM:(Value.type "tuple"==Value.type "dict")=false:=by decide
     have dz:(s.heap.push (cg w)).IsTuple l items:=⟨_,CQ,rfl,nl,rfl⟩;unfold Builtin.«set.__init__» noKeywords Builtin.Frozenset.updateFrom;generalize hPI:pyIter=PI
     wp_walk
     subst hPI;refine wpAny_pyIter_tuple dz ?_;refine O3 (wpAny_runValue ?_);refine t7 ((Walks.tuple Md _ l F0 items).toS) s.heap.objs.size sN xs hlen Ab hb (items.size - 0) 0 _ [] (by lia) (Nat.zero_le _)
      ⟨⟨_,Pf _ rfl,rfl,rfl⟩,(dz.push _)⟩ (yE.at λo e=>O5 _ e) (by simp) (Pd _) λs' cW hm nY xg=>?_
     show wpAny _ _ _ _ _ _;refine O6 ?_;show wpAny _ _ (ret Value.none) _ _ _;exact O6 ⟨rfl,fin _ s' cW hm nY xg⟩
   ·cases r₂ with
    | error e=>exact hr₂
    | ok fl₂=>
     cases fl₂ with
     | ret r=>
      obtain⟨rfl,h',tk,ks,rfl,nY,xg,jw⟩:=hr₂
      repeat (any_goals (first | assumption | wp_step))
      exact h _ _ _ nY xg jw
     | _=>exact hr₂.elim
  | _=>exact hr.elim
end
namespace F
theorem c9:Manifest.owners.lookup (String.ofList ['r','o','t','a','r','e','t','i','_','t','e','s'].reverse)=some Manifest.sig_set_iterator:=by kernel_rfl
theorem aw:Slot "set_iterator" "__next__" "set_iterator.__next__":=
 .of (owner:="set_iterator") (n:="__next__") (by rw[typeLookup_type,builtinLookup_eq_fast];kernel_rfl) (by decide +kernel) (by decide +kernel) (by decide +kernel)
  (by first | exact .inl (by decide +kernel) | exact .inr (by decide +kernel)) (by rw[isSubtype_type];kernel_rfl)
theorem bP:entryFor table "set_iterator.__next__"=some Builtin.«set_iterator.__next__»:=entryFor_of_tree (by kernel_rfl)
theorem bG (a:Value):argsOk "set_iterator.__next__" ⟨[a],[]⟩:=by unfold argsOk;rw[signature?_of (id:="set_iterator.__next__") (n:=['_','_','t','x','e','n','_','_']) (o:=['r','o','t','a','r','e','t','i','_','t','e','s']) (by kernel_rfl) c9];kernel_rfl
theorem ck:Slot "set_iterator" "__iter__" "set_iterator.__iter__":=
 .of (owner:="set_iterator") (n:="__iter__") (by rw[typeLookup_type,builtinLookup_eq_fast];kernel_rfl) (by decide +kernel) (by decide +kernel) (by decide +kernel)
  (by first | exact .inl (by decide +kernel) | exact .inr (by decide +kernel)) (by rw[isSubtype_type];kernel_rfl)
theorem dJ:entryFor table "set_iterator.__iter__"=some Builtin.«dict_keyiterator.__iter__»:=
 entryFor_alias (id':="dict_keyiterator.__iter__") (by kernel_rfl) (by first | rfl | decide +kernel | (unfold String.splitOn;simp +decide [String.splitOnAux])) (by decide +kernel) (by kernel_rfl)
theorem dC (a:Value):argsOk "set_iterator.__iter__" ⟨[a],[]⟩:=by unfold argsOk;rw[signature?_of (id:="set_iterator.__iter__") (n:=['_','_','r','e','t','i','_','_']) (o:=['r','o','t','a','r','e','t','i','_','t','e','s']) (by kernel_rfl) c9];kernel_rfl
theorem jU:entryFor table "set.__iter__"=some Builtin.«frozenset.__iter__»:=
 entryFor_alias (id':="frozenset.__iter__") (by kernel_rfl) (by first | rfl | decide +kernel | (unfold String.splitOn;simp +decide [String.splitOnAux])) (by decide +kernel) (by kernel_rfl)
end F
noncomputable abbrev zm (h:Heap) (I:Addr) (f:Value) (i:Nat) (S:Addr) (n ep:Nat):Prop:=
 h.get? I=some {cls:= .type "set_iterator",dict:=none,data:= .fields #[f,rawInt i,.ref S,rawInt n,rawInt ep],slots:=#[]}
noncomputable abbrev vz (h:Heap) (S:Addr) (es:Array (Int×Value)) (ep:Nat) (t:SetTable):Prop:=h.get? S=some {cls:= .type "set",dict:=none,data:= .set es ep t,slots:=#[]}
noncomputable def E8 (w:World) (h:Heap) (f:Value) (i:Nat) (S:Addr) (es:Array (Int×Value)) (ep:Nat) (t:SetTable) (vs:List Value) (T:Addr):Prop:=
 (vQ w=true/\f=rawInt 0/\vs=(pickOrder (w.params.setOrder S ep) es).toList.map (·.2))\/
 (vQ w=false/\t.led=true/\es.size<=1/\vs=es.toList.map (·.2)/\∃slot:Nat,f=rawInt slot/\(i=0->slot=0)/\(i=1->slot=t.place.getD 0 0 + 1))\/
 (vQ w=false/\1 < es.size/\f= .ref T/\∃π:List Nat,h.get? T=some {cls:= .type "tuple",dict:=none,data:= .seq (π.map λi=>rawInt (i:Nat)).toArray 0,slots:=#[]}/\π.length=es.size/\(∀j∈π,j < es.size)/\vs=π.map λj=>(es.getD j (0,.none)).2)
noncomputable def yX (w:World) (I S:Addr) (es:Array (Int×Value)) (ep:Nat) (t:SetTable) (vs:List Value) (T:Addr) (i:Nat) (h:Heap):Prop:=
 vz h S es ep t/\t.fits es.size=true/\vs.length=es.size/\∃f,zm h I f i S es.size ep/\E8 w h f i S es ep t vs T
section
variable {prog:Program} {w:World} {A:Around} {E:Value->Shared->Prop} {s:Shared}
theorem eD {S:Addr} {es:Array (Int×Value)} {ep:Nat} {t:SetTable} (ho:vz s.heap S es ep t) (hf:t.fits es.size=true) (hb:vQ w=true) {Q:Array (Int×Value)->Shared->Prop}
  (h:Q (pickOrder (w.params.setOrder S ep) es) s):wpAny (model prog w) A (setWalk S) Q E s:=by
 unfold setWalk;refine O3 (wpAny_setState_of ho rfl hf ?_);dsimp only;refine O3 (cX ?_);rw[hb,if_pos rfl];exact O3 (wpAny_askSetting (O6 h))
theorem lq (a:Nat) (j:Nat):SetTable.below #[a] j=if a < j then 1 else 0:=by unfold SetTable.below;show SetTable.below.go #[a] j 1 0 1=_;unfold SetTable.below.go;simp only[Nat.zero_lt_one,if_true];show (if (#[a]:Array Nat).getD 0 j < j then SetTable.below.go #[a] j 0 1 1 else SetTable.below.go #[a] j 0 0 0)=_;rfl
theorem ym {I S T:Addr} {es:Array (Int×Value)} {ep:Nat} {t:SetTable} {vs:List Value} {i:Nat} {x:Value} {Q:Option Value->Shared->Prop} (zP:I≠S) (FC:I≠T)
  (st:yX w I S es ep t vs T i s.heap) (hx:vs[i]?=some x) (hQ:∀h',yX w I S es ep t vs T (i + 1) h'->Heap.SameBut I s.heap h'->Q (some x) {s with heap:=h'}):
  wpAny (model prog w) A (pyNext (.ref I)) Q E s:=by
 obtain⟨hS,hf,hl,f,hI,hw⟩:=st;have hT:s.TypeIs (.ref I) "set_iterator":=⟨_,hI,rfl⟩;have hi:i < es.size:=by rw[<-hl];exact(Pa.mp hx).1
 unfold pyNext;refine O3 (wpAny_attempt (wpAny_callSpecial?_slot (name:=Str.ofString "__next__") hT F.aw
  (wpAny_call_entry F.aw hT F.bP ?_ (F.bG _))))
 show wpAny _ _ (fieldsOf (.ref I) >>=_) _ _ s;refine O3 (wpAny_fieldsOf hI rfl ?_);show wpAny _ _ (setEntries S >>=_) _ _ s;refine O3 (wpAny_setEntries_of hS rfl hf ?_);show wpAny _ _ (if (((es.size:Int) != (es.size:Int))=true) then _ else _) _ _ s;rw[if_neg (by simp)];refine O3 (O6 ?_);rcases hw with ⟨b1,b2,b3⟩ | ⟨b1,b2,b3,b4,slot,b5,b6,b7⟩ | ⟨b1,b2,b3,π,b4,b5,b6,b7⟩
 ·subst b2;show wpAny _ _ (setNext S (0:Int).toNat ((i:Nat):Int).toNat ((ep:Nat):Int).toNat >>=_) _ _ s;simp only[Int.toNat_natCast];refine O3 ?_;unfold setNext;refine O3 (wpAny_setState_of hS rfl hf ?_);dsimp only;refine O3 (cX ?_);rw[b1,if_pos rfl];rw[if_neg (by simp)];refine O3 (eD hS hf b1 (O6 ?_));rw[b3,Pr] at hx;obtain⟨e,he,rfl⟩:=Pn.mp hx;rw[Array.getElem?_toList] at he;rw[he];show wpAny _ _ (setField (.ref I) 0 (rawInt _) >>=_) _ _ s;refine O3 (PM hI (by simp) λh1 i1 e1=>?_);refine O3 (PM i1 (by simp) λh2 i2 e2=>?_);refine O6 ⟨_,rfl,O6 (hQ h2 ⟨?_,hf,hl,rawInt 0,i2,.inl ⟨b1,rfl,b3⟩⟩ (e1.trans e2))⟩;exact e2.extBut _ _ zP.symm (e1.extBut _ _ zP.symm hS)
 ·subst b5;have BA:i=0:=by lia
  subst BA;have NY:=b6 rfl;subst NY;have h1:es.size=1:=by lia
  have jy:t.place.size=1:=by
   unfold SetTable.fits at hf;rw[O7,beq_iff_eq] at hf
   lia
  obtain⟨pl,gz⟩:∃pl,t.place=#[pl]:=by
   cases ht:t.place with
   | mk l=>
    rw[ht] at jy
    match l,jy with
    | [a],_=>exact⟨a,rfl⟩
  obtain⟨e,he⟩:∃e,es=#[e]:=by
   obtain⟨l⟩:=es
   match l,h1 with
   | [a],_=>exact⟨a,rfl⟩
  show wpAny _ _ (setNext S ((0:Nat):Int).toNat ((0:Nat):Int).toNat ((ep:Nat):Int).toNat >>=_) _ _ s;simp only[Int.toNat_natCast];refine O3 ?_;unfold setNext;refine O3 (wpAny_setState_of hS rfl hf ?_);dsimp only;refine O3 (cX ?_);rw[b1,if_neg (by simp)];show wpAny _ _ (if (!t.plain&&decide (es.size > 1))=true then _ else _) _ _ s;rw[if_neg (by rw[h1];simp)];show wpAny _ _ ((if (!t.led&& !es.isEmpty)=true then _ else _) >>=_) _ _ s;rw[if_neg (by rw[b2];simp)];refine O3 (O6 ?_);have J7:SetTable.below t.place 0=0:=by rw[gz,lq];simp
  rw[J7];have NF:es[0]?=some e:=by rw[he];rfl
  have F3:t.place[0]?=some pl:=by rw[gz];rfl
  rw[NF,F3];refine O6 ?_;have qH:e.2=x:=by rw[b4,he] at hx;simpa using hx
  show wpAny _ _ (setField (.ref I) 0 (rawInt _) >>=_) _ _ s;refine O3 (PM hI (by simp) λh1 i1 e1=>?_);refine O3 (PM i1 (by simp) λh2 i2 e2=>?_);rw[<-qH] at hQ;refine O6 ⟨_,rfl,O6 (hQ h2 ⟨?_,hf,hl,rawInt (pl + 1:Nat),i2,.inr (.inl ⟨b1,b2,b3,b4,pl + 1,rfl,λz=>by lia,λ_=>by rw[gz];rfl⟩)⟩ (e1.trans e2))⟩;exact e2.extBut _ _ zP.symm (e1.extBut _ _ zP.symm hS)
 ·subst b3;rw[b7,Pr] at hx;obtain⟨j,hj,rfl⟩:=Pn.mp hx;have Me:=b6 j (List.mem_of_getElem? hj);show wpAny _ _ (seqItems? (.ref T) >>=_) _ _ s;refine O3 (wpAny_seqItems b4 rfl ?_);have F4:(π.map λi=>rawInt ((i:Nat):Int)).toArray[((i:Nat):Int).toNat]?=some (rawInt ((j:Nat):Int)):=by simp[hj]
  dsimp only;rw[F4];show wpAny _ _ (setNextDrawn S ((j:Nat):Int).toNat ((ep:Nat):Int).toNat >>=_) _ _ s;simp only[Int.toNat_natCast];refine O3 ?_;unfold setNextDrawn;refine O3 (wpAny_setState_of hS rfl hf ?_);dsimp only;rw[if_neg (by simp)];have NG:es[j]?=some es[j]:=by simp[Me]
  rw[NG];refine O6 ?_;refine O3 (PM hI (by simp) λh1 i1 e1=>?_);have hd:(es.getD j (0,.none)).2=es[j].2:=by simp[Array.getD,Me]
  rw[hd] at hQ;refine O6 ⟨_,rfl,O6 (hQ h1 ⟨e1.extBut _ _ zP.symm hS,hf,hl,.ref T,i1,.inr (.inr ⟨b1,b2,rfl,π,e1.extBut _ _ FC.symm b4,b5,b6,b7⟩)⟩ e1)⟩
theorem A5 {I S T:Addr} {es:Array (Int×Value)} {ep:Nat} {t:SetTable} {vs:List Value} {Q:Option Value->Shared->Prop} (hh:A.handled=none)
  (st:yX w I S es ep t vs T vs.length s.heap) (hQ:∀h',Heap.ExtBut I s.heap h'->Q none {s with heap:=h'}):
  wpAny (model prog w) A (pyNext (.ref I)) Q E s:=by
 obtain⟨hS,hf,hl,f,hI,hw⟩:=st;have hT:s.TypeIs (.ref I) "set_iterator":=⟨_,hI,rfl⟩;have stop:∀(h1:Heap) {E':Value->Shared->Prop} {Q':PySem.Fin->Shared->Prop},Heap.ExtBut I s.heap h1->(∀e h',Heap.ExtBut I s.heap h'->(∃o,h'.get? e=some o/\o.cls= .type "StopIteration")->E' (.ref e) {s with heap:=h'})->
   wpAny (model prog w) A.in1 (newExc (.type "StopIteration") [] >>=λe=>raiseNew e) Q' E' {s with heap:=h1}:=by
  intro h1 E' Q' e1 hE';refine O3 ?_;simp only[newExc,newTuple];refine O3 (wpAny_newObj_type ?_ (by size_fits));refine O3 (m:=firstArgMember _ _) (wpAny_of_eq (a:=Value.none) (by first | rfl | (simp only[firstArgMember];rfl)) ?_);refine wpAny_newObj_type ?_ (by size_fits);simp only[raiseNew];refine O3 (wpAny_handled ?_)
  first | rw[show A.in1.handled=none from hh] | rw[hh]
  refine O3 (O6 (wpAny_throw ?_));exact hE' _ _ ((e1.push _).push _) ⟨_,Pf _ rfl,rfl⟩
 have fin:∀e h',Heap.ExtBut I s.heap h'->(∃o,h'.get? e=some o/\o.cls= .type "StopIteration")->wpAny (model prog w) A (do let __do_lift<-isInstance (.ref e) (Value.type "StopIteration");if __do_lift=true then pure none else throw (.ref e)) Q E {s with heap:=h'}:=by rintro e h' hk ⟨o,ho,hc⟩;refine O3 (wpAny_isInstance (T:="StopIteration") (b:=true) ⟨o,ho,hc⟩ isSubtype_stop ?_);exact O6 (hQ _ hk)
 unfold pyNext;refine O3 (wpAny_attempt (wpAny_callSpecial?_slot (name:=Str.ofString "__next__") hT F.aw
  (wpAny_call_entry F.aw hT F.bP ?_ (F.bG _))))
 show wpAny _ _ (fieldsOf (.ref I) >>=_) _ _ s;refine O3 (wpAny_fieldsOf hI rfl ?_);show wpAny _ _ (setEntries S >>=_) _ _ s;refine O3 (wpAny_setEntries_of hS rfl hf ?_);show wpAny _ _ (if (((es.size:Int) != (es.size:Int))=true) then _ else _) _ _ s;rw[if_neg (by simp)];refine O3 (O6 ?_);rcases hw with ⟨b1,b2,b3⟩ | ⟨b1,b2,b3,b4,slot,b5,b6,b7⟩ | ⟨b1,b2,b3,π,b4,b5,b6,b7⟩
 ·subst b2;show wpAny _ _ (setNext S (0:Int).toNat ((vs.length:Nat):Int).toNat ((ep:Nat):Int).toNat >>=_) _ _ s;simp only[Int.toNat_natCast];refine O3 ?_;unfold setNext;refine O3 (wpAny_setState_of hS rfl hf ?_);dsimp only;refine O3 (cX ?_);rw[b1,if_pos rfl];rw[if_neg (by simp)];refine O3 (eD hS hf b1 (O6 ?_));have hn:(pickOrder (w.params.setOrder S ep) es)[vs.length]?=none:=by rw[b3,Ph,Pt];simp
  rw[hn];show wpAny _ _ (setField (.ref I) 2 Value.none >>=_) _ _ s;exact O3 (PM hI (by simp) λh1 i1 e1=>stop h1 e1.extBut fin)
 ·subst b5;have J7:es[SetTable.below t.place slot]?=none:=by
   by_cases h0:es.size=0
   ·simp[h0]
   ·have h1:es.size=1:=by lia
    have jy:t.place.size=1:=by
     unfold SetTable.fits at hf;rw[O7,beq_iff_eq] at hf
     lia
    obtain⟨pl,gz⟩:∃pl,t.place=#[pl]:=by
     cases ht:t.place with
     | mk l=>
      rw[ht] at jy
      match l,jy with
      | [a],_=>exact⟨a,rfl⟩
    have:=b7 (by lia);rw[gz] at this;have sQ:slot=pl + 1:=this;rw[gz,lq,if_pos (by lia)];simp[h1]
  show wpAny _ _ (setNext S ((slot:Nat):Int).toNat ((vs.length:Nat):Int).toNat ((ep:Nat):Int).toNat >>=_) _ _ s;simp only[Int.toNat_natCast];refine O3 ?_;unfold setNext;refine O3 (wpAny_setState_of hS rfl hf ?_);dsimp only;refine O3 (cX ?_);rw[b1,if_neg (by simp)];show wpAny _ _ (if (!t.plain&&decide (es.size > 1))=true then _ else _) _ _ s;rw[if_neg (by rw[Py (by lia)];simp)];show wpAny _ _ ((if (!t.led&& !es.isEmpty)=true then _ else _) >>=_) _ _ s;rw[if_neg (by rw[b2];simp)];refine O3 (O6 ?_);rw[J7];refine O6 ?_;show wpAny _ _ (setField (.ref I) 2 Value.none >>=_) _ _ s;exact O3 (PM hI (by simp) λh1 i1 e1=>stop h1 e1.extBut fin)
 ·subst b3;show wpAny _ _ (seqItems? (.ref T) >>=_) _ _ s;refine O3 (wpAny_seqItems b4 rfl ?_);have F4:(π.map λi=>rawInt ((i:Nat):Int)).toArray[((vs.length:Nat):Int).toNat]?=none:=by rw[Int.toNat_natCast,b7];simp
  dsimp only;rw[F4];show wpAny _ _ (setField (.ref I) 0 (rawInt 0) >>=_) _ _ s;refine O3 (PM hI (by simp) λh1 i1 e1=>?_);exact O3 (PM i1 (by simp) λh2 i2 e2=>stop h2 (e1.trans e2).extBut fin)
theorem yo {I S T:Addr} {es:Array (Int×Value)} {ep:Nat} {t:SetTable} {vs:List Value} {i:Nat} {Q:Value->Shared->Prop} (st:yX w I S es ep t vs T i s.heap) (h:Q (.ref I) s):
  wpAny (model prog w) A (pyIter (.ref I)) Q E s:=by
 obtain⟨hS,hf,hl,f,hI,hw⟩:=st;have hT:s.TypeIs (.ref I) "set_iterator":=⟨_,hI,rfl⟩;refine wpAny_pyIter_slot hT F.ck (wpAny_call_entry F.ck hT F.dJ ?_ (F.dC _));show wpAny _ _ (ret (.ref I)) _ _ s;exact O6 ⟨_,rfl,"set_iterator",_,hT,F.aw.lookup,h⟩
theorem yX.keep {I S T:Addr} {es:Array (Int×Value)} {ep:Nat} {t:SetTable} {vs:List Value} {i:Nat} {h h':Heap} (st:yX w I S es ep t vs T i h) (hk:∀b∈[I,S,T],∀o,h.get? b=some o->h'.get? b=some o):yX w I S es ep t vs T i h':=by
 obtain⟨hS,hf,hl,f,hI,hw⟩:=st;refine⟨hk S (by simp) _ hS,hf,hl,f,hk I (by simp) _ hI,?_⟩;rcases hw with b | b | ⟨b1,b2,b3,π,b4,b5⟩
 ·exact .inl b
 ·exact .inr (.inl b)
 ·exact .inr (.inr ⟨b1,b2,b3,π,hk T (by simp) _ b4,b5⟩)
theorem vh (hh:A.handled=none) (I S T:Addr) (zP:I≠S) (FC:I≠T) (es:Array (Int×Value)) (ep:Nat) (t:SetTable) (vs:List Value):
  Walks prog w A I [I,S,T] [I] vs.length (λi v=>vs[i]?=some v) (yX w I S es ep t vs T) where
 sub:=λb hb=>by simp at hb;simp[hb]
 frame:=λ_ _ _ st hk=>st.keep hk
 item:=λi s Q E hi st hQ=>ym zP FC st (x:=vs[i]) (by simp[hi]) λh' ah hs'=>hQ _ h' s.toks (by simp[hi]) ah λb o hb e=>hs'.extBut b o (λh=>hb (by simp[h])) e
 done:=λs Q E st hQ=>A5 hh st λh' Iu=>hQ h' s.toks λb o hb e=>Iu b o (λh=>hb (by simp[h])) e
 self:=λ_ _ _ _ st hQ=>yo st hQ
theorem gu {α:Type}:∀{l:List α} {i:Nat} (h:i < l.length),(l[i]::l.eraseIdx i).Perm l
 | a::l,0,h=>List.Perm.refl _
 | a::l,i + 1,h=>by
  have hi:i < l.length:=by simpa using h
  show (l[i]::a::l.eraseIdx i).Perm (a::l);exact(List.Perm.swap _ _ _).trans ((gu hi).cons a)
theorem tG {α:Type} (next:Nat->Nat):∀(fuel k:Nat) (left:List α) (out:Array α),left.length<=fuel->(pickOrder.go next fuel k left out).toList.Perm (out.toList++left)
 | 0,k,left,out,h=>by have:left=[]:=List.length_eq_zero_iff.mp (by lia);subst this;unfold pickOrder.go;simp
 | fuel + 1,k,left,out,h=>by
  unfold pickOrder.go;cases left with
  | nil=>simp
  | cons a r=>have bX:next k % (a::r).length < (a::r).length:=Nat.mod_lt _ (by simp);rw[Px bX];dsimp only;refine(tG next fuel (k + 1) _ _ (by rw[List.length_eraseIdx_of_lt bX];simp at h ⊢;lia)).trans ?_;rw[Array.toList_push,Pm];refine List.Perm.append_left _ ?_;exact gu bX
theorem lX {α:Type} (next:Nat->Nat) (xs:Array α):(pickOrder next xs).toList.Perm xs.toList:=by unfold pickOrder;simpa using tG next xs.size 0 xs.toList #[] (by simp)
theorem iF {α:Type}:∀(n:Nat) (xs:List α) {s:Shared} {Q:List α->Shared->Prop},xs.length<=n->(∀ys d,ys.Perm xs->Q ys {s with drawn:=d})->wpAny (model prog w) A (drawOrder n xs) Q E s
 | 0,xs,s,Q,hn,h=>by have:xs=[]:=List.length_eq_zero_iff.mp (by lia);subst this;unfold drawOrder;exact O6 (h [] s.drawn (List.Perm.refl _))
 | n + 1,[],s,Q,hn,h=>by unfold drawOrder;exact O6 (h [] s.drawn (List.Perm.refl _))
 | n + 1,x::xs,s,Q,hn,h=>by unfold drawOrder;refine O3 (nW (by simp) λi d hi=>?_);rw[Px hi];dsimp only;refine O3 (iF n _ (by rw[List.length_eraseIdx_of_lt hi];simp at hn ⊢;lia) λys d' hp=>O6 ?_);exact h _ d' ((hp.cons _).trans (gu hi))
end
end Mx
end
section
namespace MxTim
open PySem PySem.W PyProof.Rows
noncomputable def Bq:Bool->Keyed->Array Keyed->Nat->Nat->Nat->StateT SortSt Sem (Option Nat):=sortPriv% PySem.Builtin.gallop
theorem CC (fY:Bool) (k:Keyed) (xs:Array Keyed) (b m h:Nat):Bq fY k xs b m h=(do
 let past (i:Nat):StateT SortSt Sem (Option Bool):=do
  let y<-elem' xs (b + i)
  if fY then lt' y k else return (<-lt' k y).map (!·)
 let mut la:=0
 let mut st:=1
 let mut u:=0
 let mut v:=0
 let some c0<-past h | return none
 if c0 then
  let mx:=m - h
  for _ in [0:m] do
   if st>=mx then break
   let some c1<-past (h + st) | return none
   if !c1 then break
   la:=st
   st:=2 * st + 1
  u:=h + la + 1
  v:=h + min st mx
 else
  let mx:=h + 1
  for _ in [0:m] do
   if st>=mx then break
   let some c1<-past (h - st) | return none
   if c1 then break
   la:=st
   st:=2 * st + 1
  u:=h + 1 - min st mx
  v:=h - la
 for _ in [0:m] do
  if u>=v then break
  let mm:=u + (v - u) / 2
  let some c2<-past mm | return none
  if c2 then u:=mm + 1 else v:=mm
 return some v):=rfl
section
variable {prog:Program} {w:World} {A:Around} {E:Value->Shared->Prop} {κ:SortKind} {s:Shared} {O:KeyOrd} {ky:Keyed->O.α} {Mem:Keyed->Prop}
noncomputable def Tells (prog:Program) (w:World) (A:Around) (κ:SortKind) (s:Shared) (O:KeyOrd) (ky:Keyed->O.α) (Mem:Keyed->Prop):Prop:=
 ∀x y,Mem x->Mem y->∀C:Bool->Shared->Prop,C (O.blt (ky x) (ky y)) s->wpAny (model prog w) A (keyLt' κ x.1 y.1) C (λ_ _=>False) s
theorem oV (T:Tells prog w A κ s O ky Mem) {x y:Keyed} (hx:Mem x) (hy:Mem y) {st:SortSt} (hk:kindOf st=κ) {Q:Option Bool->SortSt->Shared->Prop} (h:Q (some (O.blt (ky x) (ky y))) st s):kasC (model prog w) A E (lt' x y) Q st s:=by rw[lt'_eq];refine Pc (kasC_get ?_);rw[hk];refine Pc (kasC_lift (wpAny_attempt (wpAny_mono (T x y hx hy (λc s'=>Q (some c) st s') h) (λc s' hc=>?_) λ_ _ hF=>hF.elim)));exact Pg hc
theorem aP {xs:Array Keyed} {i:Nat} {x:Keyed} (hx:xs[i]?=some x) {st:SortSt} {Q:Keyed->SortSt->Shared->Prop} (h:Q x st s):kasC (model prog w) A E (elem' xs i) Q st s:=by rw[elem'_eq,hx];exact Pg h
theorem cF {β:Type} {l:List Nat} {b0:β} {f:Nat->β->StateT SortSt Sem (ForInStep β)} {Q:β->SortSt->Shared->Prop} (Inv:Nat->β->SortSt->Prop) {cQ:SortSt} (h0:Inv 0 b0 cQ)
  (step:∀j b st x,j < l.length->Inv j b st->kasC (model prog w) A E (f x b) (λr ah s'=>s'=s/\match r with | .done b'=>Q b' ah s | .yield b'=>Inv (j + 1) b' ah) st s)
  (fin:∀b st,Inv l.length b st->Q b st s):kasC (model prog w) A E (forIn l b0 f) Q cQ s:=by
 have go:∀(l':List Nat) (j:Nat) (b:β) (st:SortSt),j + l'.length=l.length->Inv j b st->kasC (model prog w) A E (forIn l' b f) Q st s:=by
  intro l'
  induction l' with
  | nil=>intro j b st hj hI;simp only[List.length_nil,Nat.add_zero] at hj;subst hj;exact kasC_nil (fin b st hI)
  | cons x l' ih=>
   intro j b st hj hI;simp only[Pq] at hj;refine kasC_cons (wpAny_mono (step j b st x (by lia) hI) (λr s' h'=>?_) λ_ _ e=>e);obtain⟨r,ah⟩:=r;obtain⟨rfl,h'⟩:=h';cases r with
   | done b'=>exact h'
   | yield b'=>exact ih (j + 1) b' ah (by lia) h'
 exact go l 0 b0 cQ (by lia) h0
theorem bw {α:Type} {m:StateT SortSt Sem α} {Q Q':α->SortSt->Shared->Prop} {st:SortSt} (h:kasC (model prog w) A E m Q st s) (hq:∀a ah s',Q a ah s'->Q' a ah s'):kasC (model prog w) A E m Q' st s:=by unfold kasC at h ⊢;exact wpAny_mono h (λr s' h'=>hq _ _ _ h') λ_ _ e=>e
noncomputable def dw (O:KeyOrd) (ky:Keyed->O.α) (fY:Bool) (k:Keyed) (g:Nat->Keyed) (i:Nat):Bool:=if fY=true then O.blt (ky (g i)) (ky k) else !O.blt (ky k) (ky (g i))
theorem iL (T:Tells prog w A κ s O ky Mem) {fY:Bool} {k:Keyed} {xs:Array Keyed} {b m h:Nat} (g:Nat->Keyed) (hg:∀i,i < m->xs[b + i]?=some (g i)) (hm:∀i,i < m->Mem (g i)) (hk:Mem k) (hh:h < m)
  (mono:∀i j,i<=j->j < m->dw O ky fY k g j=true->dw O ky fY k g i=true) {st:SortSt} (hs:kindOf st=κ) {Q:Option Nat->SortSt->Shared->Prop}
  (q:∀v,v<=m->(∀i,i < v->dw O ky fY k g i=true)->(∀i,v<=i->i < m->dw O ky fY k g i=false)->Q (some v) st s):kasC (model prog w) A E (Bq fY k xs b m h) Q st s:=by
 have past:∀(i:Nat) {R:Option Bool->SortSt->Shared->Prop},i < m->R (some (dw O ky fY k g i)) st s->kasC (model prog w) A E (do
   let y<-elem' xs (b + i)
   if fY=true then lt' y k else do
    let r<-lt' k y
    pure (r.map (!·))) R st s:=λi R hi hR=>by
  refine Pc (aP (hg i hi) ?_);unfold dw at hR;cases fY with
  | true=>rw[if_pos rfl] at hR ⊢;exact oV T (hm i hi) hk hs hR
  | false=>rw[if_neg (by simp)] at hR ⊢;exact Pc (oV T hk (hm i hi) hs (Pg hR))
 have tx:∀i j,i<=j->j < m->dw O ky fY k g i=false->dw O ky fY k g j=false:=λi j fN hj hi=>by
  cases c:dw O ky fY k g j with
  | false=>rfl
  | true=>rw[mono i j fN hj c] at hi;cases hi
 rw[CC];dsimp only;refine Pc (past h hh ?_);dsimp only;cases c0:dw O ky fY k g h with
 | true=>
  rw[if_pos rfl];refine Pc (bw (Q:=λr ah s'=>st=ah/\s=s'/\∃la sp,r=(none,la,sp)/\h + la < m/\la < sp/\dw O ky fY k g (h + la)=true/\∀i,h + min sp (m - h)<=i->i < m->dw O ky fY k g i=false) (kasC_range (cF (λj r ah=>st=ah/\∃la sp,r=(none,la,sp)/\h + la < m/\la < sp/\j + 1<=sp/\dw O ky fY k g (h + la)=true) ⟨rfl,0,1,rfl,by lia,by lia,by lia,c0⟩ (λj r ah x hj hI=>?_) (λr ah hI=>?_))) (λr ah s' hI=>?_))
  ·obtain⟨rfl,la,sp,rfl,oP,n0,FR,hb⟩:=hI;dsimp only;by_cases c:sp>=m - h
   ·rw[if_pos c];exact Pg ⟨rfl,rfl,rfl,la,sp,rfl,oP,n0,hb,λi hi him=>by lia⟩
   ·rw[if_neg c];refine Pc (past _ (by lia) ?_);dsimp only;cases cb:dw O ky fY k g (h + sp) with
    | true=>rw[if_neg (by simp)];exact Pg ⟨rfl,rfl,_,_,rfl,by lia,by lia,by lia,cb⟩
    | false=>rw[if_pos (by simp)];exact Pg ⟨rfl,rfl,rfl,la,sp,rfl,oP,n0,hb,λi hi him=>tx (h + sp) i (by lia) him cb⟩
  ·obtain⟨rfl,la,sp,rfl,oP,n0,FR,hb⟩:=hI;rw[List.length_range'] at FR;exact⟨rfl,rfl,la,sp,rfl,oP,n0,hb,λi hi him=>by lia⟩
  obtain⟨rfl,rfl,la,sp,rfl,oP,n0,hb,zd⟩:=hI;have mT:∀i,i < h + la + 1->dw O ky fY k g i=true:=λi hi=>mono i _ (by lia) oP hb
  dsimp only;refine Pc (kasC_range (cF (λj r ah=>st=ah/\∃u v,r=(none,u,v)/\v<=m/\u<=v/\v - u + j<=m/\(∀i,i < u->dw O ky fY k g i=true)/\(∀i,v<=i->i < m->dw O ky fY k g i=false)) ⟨rfl,_,_,rfl,by lia,by lia,by lia,mT,zd⟩ (λj r ah x hj hI=>?_) (λr ah hI=>?_)))
  ·obtain⟨rfl,u,v,rfl,hv,Kv,FS,h1,h2⟩:=hI;dsimp only;by_cases c:u>=v
   ·rw[if_pos c];have e:u=v:=by lia
    subst e;exact Pg ⟨rfl,Pg (q u hv h1 h2)⟩
   ·rw[if_neg c];have xg:u + (v - u) / 2 < v:=by lia
    refine Pc (past _ (by lia) ?_);dsimp only;cases cb:dw O ky fY k g (u + (v - u) / 2) with
    | true=>rw[if_pos rfl];exact Pg ⟨rfl,rfl,_,_,rfl,hv,by lia,by lia,λi hi=>mono i _ (by lia) (by lia) cb,h2⟩
    | false=>rw[if_neg (by simp)];exact Pg ⟨rfl,rfl,_,_,rfl,by lia,by lia,by lia,h1,λi hi him=>tx _ i hi him cb⟩
  ·obtain⟨rfl,u,v,rfl,hv,Kv,FS,h1,h2⟩:=hI;have e:u=v:=by
    rw[List.length_range'] at FS
    lia
   subst e;exact Pg (q u hv h1 h2)
 | false=>
  rw[if_neg (by simp)];refine Pc (bw (Q:=λr ah s'=>st=ah/\s=s'/\∃la sp,r=(none,la,sp)/\la<=h/\la < sp/\dw O ky fY k g (h - la)=false/\∀i,i < h + 1 - min sp (h + 1)->dw O ky fY k g i=true) (kasC_range (cF (λj r ah=>st=ah/\∃la sp,r=(none,la,sp)/\la<=h/\la < sp/\j + 1<=sp/\dw O ky fY k g (h - la)=false) ⟨rfl,0,1,rfl,by lia,by lia,by lia,c0⟩ (λj r ah x hj hI=>?_) (λr ah hI=>?_))) (λr ah s' hI=>?_))
  ·obtain⟨rfl,la,sp,rfl,oP,n0,FR,hb⟩:=hI;dsimp only;by_cases c:sp>=h + 1
   ·rw[if_pos c];exact Pg ⟨rfl,rfl,rfl,la,sp,rfl,oP,n0,hb,λi hi=>by lia⟩
   ·rw[if_neg c];refine Pc (past _ (by lia) ?_);dsimp only;cases cb:dw O ky fY k g (h - sp) with
    | true=>rw[if_pos rfl];exact Pg ⟨rfl,rfl,rfl,la,sp,rfl,oP,n0,hb,λi hi=>mono i (h - sp) (by lia) (by lia) cb⟩
    | false=>rw[if_neg (by simp)];exact Pg ⟨rfl,rfl,_,_,rfl,by lia,by lia,by lia,cb⟩
  ·obtain⟨rfl,la,sp,rfl,oP,n0,FR,hb⟩:=hI;rw[List.length_range'] at FR;exact⟨rfl,rfl,la,sp,rfl,oP,n0,hb,λi hi=>by lia⟩
  obtain⟨rfl,rfl,la,sp,rfl,oP,n0,hb,mT⟩:=hI;have zd:∀i,h - la<=i->i < m->dw O ky fY k g i=false:=λi hi him=>tx (h - la) i (by lia) him hb
  dsimp only;refine Pc (kasC_range (cF (λj r ah=>st=ah/\∃u v,r=(none,u,v)/\v<=m/\u<=v/\v - u + j<=m/\(∀i,i < u->dw O ky fY k g i=true)/\(∀i,v<=i->i < m->dw O ky fY k g i=false)) ⟨rfl,_,_,rfl,by lia,by lia,by lia,mT,zd⟩ (λj r ah x hj hI=>?_) (λr ah hI=>?_)))
  ·obtain⟨rfl,u,v,rfl,hv,Kv,FS,h1,h2⟩:=hI;dsimp only;by_cases c:u>=v
   ·rw[if_pos c];have e:u=v:=by lia
    subst e;exact Pg ⟨rfl,Pg (q u hv h1 h2)⟩
   ·rw[if_neg c];have xg:u + (v - u) / 2 < v:=by lia
    refine Pc (past _ (by lia) ?_);dsimp only;cases cb:dw O ky fY k g (u + (v - u) / 2) with
    | true=>rw[if_pos rfl];exact Pg ⟨rfl,rfl,_,_,rfl,hv,by lia,by lia,λi hi=>mono i _ (by lia) (by lia) cb,h2⟩
    | false=>rw[if_neg (by simp)];exact Pg ⟨rfl,rfl,_,_,rfl,by lia,by lia,by lia,h1,λi hi him=>tx _ i hi him cb⟩
  ·obtain⟨rfl,u,v,rfl,hv,Kv,FS,h1,h2⟩:=hI;have e:u=v:=by
    rw[List.length_range'] at FS
    lia
   subst e;exact Pg (q u hv h1 h2)
end
section
variable {O:KeyOrd} {ky:Keyed->O.α}
noncomputable def le (O:KeyOrd) (ky:Keyed->O.α) (x y:Keyed):Prop:=O.kle (ky x) (ky y)
noncomputable def gO (O:KeyOrd) (ky:Keyed->O.α) (l:List Keyed):Prop:=l.Pairwise (le O ky)
structure MI (O:KeyOrd) (ky:Keyed->O.α) (la lb out:List Keyed) (i j:Nat):Prop where
 p:out.Perm (la.take i++lb.take j)
 s:gO O ky out
 a:∀x∈out,∀y∈la.drop i,le O ky x y
 b:∀x∈out,∀y∈lb.drop j,le O ky x y
theorem cy {l:List Keyed} {i k:Nat}:l.drop i=(l.drop i).take k++l.drop (i + k):=by rw[<-List.drop_drop,List.take_append_drop]
theorem gI {l:List Keyed} {i k:Nat}:l.take (i + k)=l.take i++(l.drop i).take k:=by rw[List.take_add]
theorem MI.ou {la lb out:List Keyed} {i j k:Nat} (h:MI O ky la lb out i j) (sa:gO O ky la) (hk:∀x∈(la.drop i).take k,∀y∈lb.drop j,le O ky x y):MI O ky la lb (out++(la.drop i).take k) (i + k) j:=by
 have sd:gO O ky (la.drop i):=sa.sublist (List.drop_sublist _ _);rw[cy (k:=k)] at sd;obtain⟨s1,s2,s3⟩:=List.pairwise_append.mp sd;have De:∀y∈(la.drop i).take k,y∈la.drop i:=λy hy=>List.mem_of_mem_take hy
 have uS:∀y∈la.drop (i + k),y∈la.drop i:=λy hy=>by rw[cy (k:=k)];exact PL _ hy
 refine⟨?_,List.pairwise_append.mpr ⟨h.s,s1,λx hx y hy=>h.a x hx y (De y hy)⟩,λx hx y hy=>?_,λx hx y hy=>?_⟩
 ·rw[gI];refine(h.p.append_right _).trans ?_;rw[Pm,Pm];exact List.Perm.append_left _ List.perm_append_comm
 ·rcases Pv.mp hx with hx | hx
  ·exact h.a x hx y (uS y hy)
  ·exact s3 x hx y hy
 ·rcases Pv.mp hx with hx | hx
  ·exact h.b x hx y hy
  ·exact hk x hx y hy
theorem MI.ow {la lb out:List Keyed} {i j k:Nat} (h:MI O ky la lb out i j) (sb:gO O ky lb) (hk:∀x∈(lb.drop j).take k,∀y∈la.drop i,le O ky x y):MI O ky la lb (out++(lb.drop j).take k) i (j + k):=by
 have sd:gO O ky (lb.drop j):=sb.sublist (List.drop_sublist _ _);rw[cy (k:=k)] at sd;obtain⟨s1,s2,s3⟩:=List.pairwise_append.mp sd;have De:∀y∈(lb.drop j).take k,y∈lb.drop j:=λy hy=>List.mem_of_mem_take hy
 have uS:∀y∈lb.drop (j + k),y∈lb.drop j:=λy hy=>by rw[cy (k:=k)];exact PL _ hy
 refine⟨?_,List.pairwise_append.mpr ⟨h.s,s1,λx hx y hy=>h.b x hx y (De y hy)⟩,λx hx y hy=>?_,λx hx y hy=>?_⟩
 ·rw[gI];refine(h.p.append_right _).trans ?_;rw[Pm]
 ·rcases Pv.mp hx with hx | hx
  ·exact h.a x hx y hy
  ·exact hk x hx y hy
 ·rcases Pv.mp hx with hx | hx
  ·exact h.b x hx y (uS y hy)
  ·exact s3 x hx y hy
noncomputable def p8 (O:KeyOrd) (ky:Keyed->O.α) (la lb out:List Keyed):Prop:=out.Perm (la++lb)/\gO O ky out
theorem MI.sD {la lb out:List Keyed} {i j:Nat} (h:MI O ky la lb out i j) (sa:gO O ky la) (hj:lb.length<=j):p8 O ky la lb (out++la.drop i++lb.drop j):=by have e:lb.drop j=[]:=List.drop_of_length_le hj;have e2:lb.take j=lb:=List.take_of_length_le hj;rw[e,PX];refine⟨?_,List.pairwise_append.mpr ⟨h.s,sa.sublist (List.drop_sublist _ _),h.a⟩⟩;refine(h.p.append_right _).trans ?_;rw[e2,Pm];refine(List.Perm.append_left _ List.perm_append_comm).trans ?_;rw[<-Pm,List.take_append_drop]
theorem MI.Fq {la lb out:List Keyed} {i j:Nat} (h:MI O ky la lb out i j) (sb:gO O ky lb) (hi:la.length<=i):p8 O ky la lb (out++la.drop i++lb.drop j):=by have e:la.drop i=[]:=List.drop_of_length_le hi;have e2:la.take i=la:=List.take_of_length_le hi;rw[e,PX];refine⟨?_,List.pairwise_append.mpr ⟨h.s,sb.sublist (List.drop_sublist _ _),h.b⟩⟩;refine(h.p.append_right _).trans ?_;rw[e2,Pm,List.take_append_drop]
theorem MI.td {la lb out:List Keyed} {i j:Nat} (h:MI O ky la lb out i j) (sa:gO O ky la) (sb:gO O ky lb) (hl:∀x∈lb.drop j,∀y∈la.drop i,le O ky x y):p8 O ky la lb (out++lb.drop j++la.drop i):=by
 refine⟨?_,List.pairwise_append.mpr ⟨List.pairwise_append.mpr ⟨h.s,sb.sublist (List.drop_sublist _ _),h.b⟩,sa.sublist (List.drop_sublist _ _),λx hx y hy=>?_⟩⟩
 ·refine((h.p.append_right _).append_right _).trans ?_;rw[Pm (la.take i),List.take_append_drop];refine(List.perm_append_comm).trans ?_;rw[<-Pm];refine(List.Perm.append_right _ List.perm_append_comm).trans ?_;rw[List.take_append_drop]
 ·rcases Pv.mp hx with hx | hx
  ·exact h.a x hx y hy
  ·exact hl x hx y hy
theorem MI.start {la lb:List Keyed}:MI O ky la lb [] 0 0:=⟨by simp,List.Pairwise.nil,λx hx=>absurd hx (by simp),λx hx=>absurd hx (by simp)⟩
end
noncomputable def Dg:Array Keyed->Array Keyed->StateT SortSt Sem (Array Keyed):=sortPriv% PySem.Builtin.mergeLo
noncomputable def setG:Nat->StateT SortSt Sem Unit:=sortPriv% PySem.Builtin.setMinGallop
noncomputable abbrev GS:=Option (Array Keyed)×Array Keyed×Nat×Nat×Nat×Nat×Nat
noncomputable abbrev SS:=Option (Array Keyed)×Array Keyed×Nat×Nat×Nat×Nat
noncomputable abbrev OS:=Option (Array Keyed)×Array Keyed×Nat×Nat×Nat
noncomputable def zh (x y o:Array Keyed) (i j:Nat):Array Keyed:=o++x.extract i x.size++y.extract j y.size
noncomputable def u6 (x y o:Array Keyed) (i j:Nat):Array Keyed:=o++y.extract j y.size++x.extract i x.size
noncomputable def Im (x y o:Array Keyed) (i j mg ca cb:Nat):StateT SortSt Sem (ForInStep GS):=do
 let e<-elem' x i
 if (i + 1 + 1==x.size)=true then pure (.done (some (u6 x y (o.push e) (i + 1) j),o.push e,i + 1,j,mg,ca,cb))
 else if (decide (ca < 7)&&decide (cb < 7))=true then pure (.done (none,o.push e,i + 1,j,mg,ca,cb))
 else pure (.yield (none,o.push e,i + 1,j,mg,ca,cb))
noncomputable def Il (x y o:Array Keyed) (i j mg ca p0:Nat):StateT SortSt Sem (ForInStep GS):=do
 let e<-elem' y j
 if (j + 1==y.size)=true then pure (.done (some (zh x y (o.push e) i (j + 1)),o.push e,i,j + 1,mg,ca,p0))
 else do
  let f<-elem' x i
  let r<-Bq true f y (j + 1) (y.size - (j + 1)) 0
  match r with
  | some k=>
   if k > 0 then
    if (j + 1 + k==y.size)=true then pure (.done (some (zh x y (o.push e++y.extract (j + 1) (j + 1 + k)) i (j + 1 + k)),o.push e++y.extract (j + 1) (j + 1 + k),i,j + 1 + k,mg,ca,k))
    else Im x y (o.push e++y.extract (j + 1) (j + 1 + k)) i (j + 1 + k) mg ca k
   else Im x y (o.push e) i (j + 1) mg ca k
  | _=>pure (.done (some (zh x y (o.push e) i (j + 1)),o.push e,i,j + 1,mg,ca,p0))
noncomputable def Ik (x y o:Array Keyed) (i j mg Jy p0:Nat):StateT SortSt Sem (ForInStep GS):=do
 setG mg
 let e<-elem' y j
 let r<-Bq false e x i (x.size - i) 0
 match r with
 | some k=>
  if k > 0 then
   if (i + k + 1==x.size)=true then pure (.done (some (u6 x y (o++x.extract i (i + k)) (i + k) j),o++x.extract i (i + k),i + k,j,mg,k,p0))
   else if (i + k==x.size)=true then pure (.done (some (zh x y (o++x.extract i (i + k)) (i + k) j),o++x.extract i (i + k),i + k,j,mg,k,p0))
   else Il x y (o++x.extract i (i + k)) (i + k) j mg k p0
  else Il x y o i j mg k p0
 | _=>pure (.done (some (zh x y o i j),o,i,j,mg,Jy,p0))
noncomputable def Lp (x y:Array Keyed) (mg:Nat) (r:SS):StateT SortSt Sem (ForInStep SS):=do
 let e<-elem' y r.2.2.2.1
 let f<-elem' x r.2.2.1
 let c<-lt' e f
 match c with
 | some yw=>
  if yw=true then do
   let e<-elem' y r.2.2.2.1
   if (r.2.2.2.1 + 1==y.size)=true then pure (.done (some (zh x y (r.2.1.push e) r.2.2.1 (r.2.2.2.1 + 1)),r.2.1.push e,r.2.2.1,r.2.2.2.1 + 1,0,r.2.2.2.2.2 + 1))
   else if r.2.2.2.2.2 + 1>=mg then pure (.done (none,r.2.1.push e,r.2.2.1,r.2.2.2.1 + 1,0,r.2.2.2.2.2 + 1))
   else pure (.yield (none,r.2.1.push e,r.2.2.1,r.2.2.2.1 + 1,0,r.2.2.2.2.2 + 1))
  else do
   let f<-elem' x r.2.2.1
   if (r.2.2.1 + 1 + 1==x.size)=true then pure (.done (some (u6 x y (r.2.1.push f) (r.2.2.1 + 1) r.2.2.2.1),r.2.1.push f,r.2.2.1 + 1,r.2.2.2.1,r.2.2.2.2.1 + 1,0))
   else if r.2.2.2.2.1 + 1>=mg then pure (.done (none,r.2.1.push f,r.2.2.1 + 1,r.2.2.2.1,r.2.2.2.2.1 + 1,0))
   else pure (.yield (none,r.2.1.push f,r.2.2.1 + 1,r.2.2.2.1,r.2.2.2.2.1 + 1,0))
 | _=>pure (.done (some (zh x y r.2.1 r.2.2.1 r.2.2.2.1),r.2.1,r.2.2.1,r.2.2.2.1,r.2.2.2.2.1,r.2.2.2.2.2))
noncomputable def Dz (x y:Array Keyed) (r:OS):StateT SortSt Sem (ForInStep OS):=do
 let a<-forIn [:x.size + y.size] ((none,r.2.1,r.2.2.1,r.2.2.2.1,0,0):SS) λ_ a=>Lp x y r.2.2.2.2 a
 match a.1 with
 | some v=>pure (.done (some v,a.2.1,a.2.2.1,a.2.2.2.1,r.2.2.2.2))
 | none=>do
  rule "list.sort.gallop"
  let b<-forIn [:x.size + y.size] ((none,a.2.1,a.2.2.1,a.2.2.2.1,r.2.2.2.2 + 1,a.2.2.2.2.1,a.2.2.2.2.2):GS) λ_ b=>
   if b.2.2.2.2.1 > 1 then Ik x y b.2.1 b.2.2.1 b.2.2.2.1 (b.2.2.2.2.1 - 1) b.2.2.2.2.2.1 b.2.2.2.2.2.2 else Ik x y b.2.1 b.2.2.1 b.2.2.2.1 b.2.2.2.2.1 b.2.2.2.2.2.1 b.2.2.2.2.2.2
  match b.1 with
  | some v=>pure (.done (some v,b.2.1,b.2.2.1,b.2.2.2.1,b.2.2.2.2.1))
  | none=>do
   setG (b.2.2.2.2.1 + 1)
   pure (.yield (none,b.2.1,b.2.2.1,b.2.2.2.1,b.2.2.2.2.1 + 1))
noncomputable def Mz (x y:Array Keyed):StateT SortSt Sem (Array Keyed):=do
 rule "list.sort.merge-lo"
 let e<-elem' y 0
 if (1==y.size)=true then pure (zh x y #[e] 0 1)
 else if (0 + 1==x.size)=true then pure (u6 x y #[e] 0 1)
 else do
  let st<-get
  let r<-forIn [:x.size + y.size] ((none,#[e],0,1,gallopOf st):OS) λ_ r=>Dz x y r
  match r.1 with
  | some a=>pure a
  | none=>unsupported "internal:list.sort.merge-bound"
theorem As (x y:Array Keyed):Dg x y=Mz x y:=by kernel_rfl
theorem ju (x:Array Keyed) (i:Nat):(x.extract i x.size).toList=x.toList.drop i:=by rw[Array.toList_extract];show (x.toList.drop i).take (x.size - i)=_;exact List.take_of_length_le (by rw[List.length_drop];simp)
theorem jW (x:Array Keyed) (i k:Nat):(x.extract i (i + k)).toList=(x.toList.drop i).take k:=by rw[Array.toList_extract];show (x.toList.drop i).take (i + k - i)=_;rw[Nat.add_sub_cancel_left]
theorem fA (x y o:Array Keyed) (i j:Nat):(zh x y o i j).toList=o.toList++x.toList.drop i++y.toList.drop j:=by unfold zh;rw[Array.toList_append,Array.toList_append,ju,ju]
theorem fQ (x y o:Array Keyed) (i j:Nat):(u6 x y o i j).toList=o.toList++y.toList.drop j++x.toList.drop i:=by unfold u6;rw[Array.toList_append,Array.toList_append,ju,ju]
theorem aB {x:Array Keyed} {i:Nat} (h:i < x.size):x[i]?=some (kas_item x i):=by unfold kas_item;simp[Array.getD,h]
theorem take_one {x:Array Keyed} {i:Nat} (h:i < x.size):(x.toList.drop i).take 1=[kas_item x i]:=by have e:x.toList.drop i=x.toList[i]'(by simpa using h)::x.toList.drop (i + 1):=List.drop_eq_getElem_cons (by simpa using h);rw[e];unfold kas_item;simp[Array.getD,h]
theorem fP {x o:Array Keyed} {i:Nat} (h:i < x.size):(o.push (kas_item x i)).toList=o.toList++(x.toList.drop i).take 1:=by rw[take_one h];simp
section
variable {O:KeyOrd} {ky:Keyed->O.α} {Mem:Keyed->Prop}
theorem cm {x:Array Keyed} (sx:gO O ky x.toList) {i j:Nat} (fN:i<=j) (hj:j < x.size):le O ky (kas_item x i) (kas_item x j):=by
 have e:∀k,(h:k < x.size)->kas_item x k=x.toList[k]'(by simpa using h):=λk h=>by unfold kas_item;simp[Array.getD,h]
 rw[e i (by lia),e j hj];by_cases c:i=j
 ·subst c;exact KeyOrd.kle_refl _
 ·exact List.pairwise_iff_getElem.mp sx i j (by simpa using (show i < x.size by lia)) (by simpa using hj) (by lia)
theorem b8 {x:Array Keyed} {i:Nat} {e:Keyed} (h:e∈x.toList.drop i):∃k,i<=k/\k < x.size/\e=kas_item x k:=by
 obtain⟨k,hk,rfl⟩:=List.getElem_of_mem h;rw[List.length_drop] at hk;have jw:i + k < x.size:=by simp at hk;lia
 refine⟨i + k,by lia,jw,?_⟩;rw[List.getElem_drop];unfold kas_item;simp[Array.getD,jw]
theorem aU {x:Array Keyed} {i n:Nat} {e:Keyed} (h:e∈(x.toList.drop i).take n):∃k,i<=k/\k < i + n/\k < x.size/\e=kas_item x k:=by
 obtain⟨k,hk,rfl⟩:=List.getElem_of_mem h;rw[List.length_take,List.length_drop] at hk;have jw:i + k < x.size:=by simp at hk;lia
 refine⟨i + k,by lia,by lia,jw,?_⟩;rw[List.getElem_take,List.getElem_drop];unfold kas_item;simp[Array.getD,jw]
structure MP (O:KeyOrd) (ky:Keyed->O.α) (Mem:Keyed->Prop) (x y:Array Keyed):Prop where
 sa:gO O ky x.toList
 sb:gO O ky y.toList
 ma:∀i,i < x.size->Mem (kas_item x i)
 mb:∀i,i < y.size->Mem (kas_item y i)
 pa:1<=x.size
 pb:1<=y.size
 first:O.blt (ky (kas_item y 0)) (ky (kas_item x 0))=true
 last:∀j,j < y.size->O.blt (ky (kas_item y j)) (ky (kas_item x (x.size - 1)))=true
theorem MP.lst {x y:Array Keyed} (h:MP O ky Mem x y) {i j:Nat} (hi:i + 1=x.size):∀e∈y.toList.drop j,∀f∈x.toList.drop i,le O ky e f:=λe he f hf=>by
 obtain⟨k,_,k2,rfl⟩:=b8 he;obtain⟨l,l1,l2,rfl⟩:=b8 hf;have:l=x.size - 1:=by lia
 subst this;exact KeyOrd.kle_of_klt (h.last k k2)
structure zp (O:KeyOrd) (ky:Keyed->O.α) (x y o:Array Keyed) (i j:Nat):Prop where
 m:MI O ky x.toList y.toList o.toList i j
 i1:i + 1 < x.size
 j1:j < y.size
noncomputable def GP (O:KeyOrd) (ky:Keyed->O.α) (x y:Array Keyed) (n:Nat) (v:Option (Array Keyed)) (o:Array Keyed) (i j:Nat):Prop:=(∃a,v=some a/\p8 O ky x.toList y.toList a.toList)\/(v=none/\zp O ky x y o i j/\n<=i + j)
noncomputable def SI (cQ st:SortSt):Prop:=kindOf st=kindOf cQ/\arrOf st=arrOf cQ/\pendingOf st=pendingOf cQ/\failedOf st=failedOf cQ
theorem SI.refl (st:SortSt):SI st st:=⟨rfl,rfl,rfl,rfl⟩
theorem SI.trans {a b c:SortSt} (h:SI a b) (g:SI b c):SI a c:=⟨g.1.trans h.1,g.2.1.trans h.2.1,g.2.2.1.trans h.2.2.1,g.2.2.2.trans h.2.2.2⟩
variable {prog:Program} {w:World} {A:Around} {E:Value->Shared->Prop} {κ:SortKind} {s:Shared}
theorem jI {g:Nat} {st:SortSt} {Q:Unit->SortSt->Shared->Prop} (h:∀ah,SI st ah->Q () ah s):kasC (model prog w) A E (setG g) Q st s:=by
 have e:setG g=modify λt=>SortSt.mk' (kindOf t) (arrOf t) (pendingOf t) g (failedOf t):=by kernel_rfl
 rw[e];exact kasC_modify (h _ ⟨rfl,rfl,rfl,rfl⟩)
noncomputable def vx (O:KeyOrd) (ky:Keyed->O.α) (x y:Array Keyed) (n:Nat):ForInStep GS->Prop
 | .done r=>GP O ky x y n r.1 r.2.1 r.2.2.1 r.2.2.2.1
 | .yield r=>r.1=none/\GP O ky x y n r.1 r.2.1 r.2.2.1 r.2.2.2.1
theorem wN {x y o:Array Keyed} (M:MP O ky Mem x y) {i j mg ca cb n:Nat} (h:MI O ky x.toList y.toList o.toList i j) (hi:i + 1 < x.size) (hj:j < y.size) (hk:∀l,j<=l->l < y.size->le O ky (kas_item x i) (kas_item y l)) (hn:n<=i + 1 + j) {st:SortSt} {Q:ForInStep GS->SortSt->Shared->Prop}
  (q:∀r,vx O ky x y n r->Q r st s):kasC (model prog w) A E (Im x y o i j mg ca cb) Q st s:=by
 unfold Im;refine Pc (aP (aB (by lia)) ?_);have m1:=h.ou (k:=1) M.sa (λe he f hf=>by
  obtain⟨a,a1,a2,a3,rfl⟩:=aU he;obtain⟨b,b1,b2,rfl⟩:=b8 hf;have:a=i:=by lia
  subst this;exact hk b b1 b2)
 rw[<-fP (x:=x) (by lia)] at m1;by_cases c:(i + 1 + 1==x.size)=true
 ·rw[if_pos c];have c':i + 1 + 1=x.size:=by simpa using c
  refine Pg (q _ (.inl ⟨_,rfl,?_⟩));rw[fQ];exact m1.td M.sa M.sb (M.lst c')
 ·rw[if_neg c];have c':¬i + 1 + 1=x.size:=by simpa using c
  have g:GP O ky x y n none (o.push (kas_item x i)) (i + 1) j:= .inr ⟨rfl,⟨m1,by lia,hj⟩,by lia⟩;by_cases d:(decide (ca < 7)&&decide (cb < 7))=true
  ·rw[if_pos d];exact Pg (q _ g)
  ·rw[if_neg d];exact Pg (q _ ⟨rfl,g⟩)
theorem wM (T:Tells prog w A κ s O ky Mem) {x y o:Array Keyed} (M:MP O ky Mem x y) {i j mg ca cb n:Nat} (h:MI O ky x.toList y.toList o.toList i j) (hi:i + 1 < x.size) (hj:j < y.size) (hk:∀l,i<=l->l < x.size->le O ky (kas_item y j) (kas_item x l)) (hn:n<=i + j + 1) {st:SortSt} (hs:kindOf st=κ)
  {Q:ForInStep GS->SortSt->Shared->Prop} (q:∀r,vx O ky x y n r->Q r st s):kasC (model prog w) A E (Il x y o i j mg ca cb) Q st s:=by
 unfold Il;refine Pc (aP (aB hj) ?_);have m1:=h.ow (k:=1) M.sb (λe he f hf=>by
  obtain⟨a,a1,a2,a3,rfl⟩:=aU he;obtain⟨b,b1,b2,rfl⟩:=b8 hf;have:a=j:=by lia
  subst this;exact hk b b1 b2)
 rw[<-fP (x:=y) hj] at m1;by_cases c:(j + 1==y.size)=true
 ·rw[if_pos c];have c':j + 1=y.size:=by simpa using c
  refine Pg (q _ (.inl ⟨_,rfl,?_⟩));rw[fA];exact m1.sD M.sa (by simp;lia)
 ·rw[if_neg c];have c':¬j + 1=y.size:=by simpa using c
  refine Pc (aP (aB (by lia)) (Pc ?_));refine iL T (λt=>kas_item y (j + 1 + t)) (λt ht=>aB (by lia)) (λt ht=>M.mb _ (by lia)) (M.ma i (by lia)) (by lia) (λa b gv hb oN=>?_) hs (λk hk1 bX jh=>?_)
  ·unfold dw at oN ⊢;rw[if_pos rfl] at oN ⊢;have:=cm M.sb (show j + 1 + a<=j + 1 + b by lia) (by lia);exact KeyOrd.klt_of_kle_of_klt this oN
  ·have lo:∀t,t < k->O.blt (ky (kas_item y (j + 1 + t))) (ky (kas_item x i))=true:=λt ht=>by have:=bX t ht;unfold dw at this;rw[if_pos rfl] at this;exact this
   have uF:∀l,j + 1 + k<=l->l < y.size->le O ky (kas_item x i) (kas_item y l):=λl dz eB=>by have z:=jh (l - (j + 1)) (by lia) (by lia);unfold dw at z;rw[if_pos rfl] at z;have z2:O.blt (ky (kas_item y (j + 1 + (l - (j + 1))))) (ky (kas_item x i))=false:=z;rw[show j + 1 + (l - (j + 1))=l by lia] at z2;exact z2
   dsimp only;by_cases k0:k > 0
   ·rw[if_pos k0];have m2:=m1.ow (k:=k) M.sb (λe he f hf=>by
     obtain⟨a,a1,a2,a3,rfl⟩:=aU he;obtain⟨b,b1,b2,rfl⟩:=b8 hf;have h1:=lo (a - (j + 1)) (by lia);rw[show j + 1 + (a - (j + 1))=a by lia] at h1;exact PC (KeyOrd.kle_of_klt h1) (cm M.sa b1 b2))
    rw[<-jW,<-Array.toList_append] at m2;by_cases d:(j + 1 + k==y.size)=true
    ·rw[if_pos d];have d':j + 1 + k=y.size:=by simpa using d
     refine Pg (q _ (.inl ⟨_,rfl,?_⟩));rw[fA];exact m2.sD M.sa (by simp;lia)
    ·rw[if_neg d];have d':¬j + 1 + k=y.size:=by simpa using d
     exact wN M m2 hi (by lia) uF (by lia) q
   ·rw[if_neg k0];have:k=0:=by lia
    subst this;exact wN M m1 hi (by lia) uF (by lia) q
theorem wL (T:Tells prog w A κ s O ky Mem) {x y o:Array Keyed} (M:MP O ky Mem x y) {i j mg ca cb n:Nat} (h:zp O ky x y o i j) (hn:n<=i + j) {cQ st:SortSt} (hs:kindOf st=κ) (gZ:SI cQ st)
  {Q:ForInStep GS->SortSt->Shared->Prop} (q:∀r ah,SI cQ ah->vx O ky x y n r->Q r ah s):kasC (model prog w) A E (Ik x y o i j mg ca cb) Q st s:=by
 unfold Ik;have hi:=h.i1;have hj:=h.j1;refine Pc (jI λoh h1=>?_);have xj:kindOf oh=κ:=h1.1.trans hs;have q':=λr=>q r oh (gZ.trans h1)
 refine Pc (aP (aB hj) (Pc ?_));refine iL T (λt=>kas_item x (i + t)) (λt ht=>aB (by lia)) (λt ht=>M.ma _ (by lia)) (M.mb j hj) (by lia) (λa b gv hb oN=>?_) xj (λk hk1 bX jh=>?_)
 ·unfold dw at oN ⊢;rw[if_neg (by simp)] at oN ⊢;have:=cm M.sa (show i + a<=i + b by lia) (by lia);cases z:O.blt (ky (kas_item y j)) (ky (kas_item x (i + a))) with
  | false=>rfl
  | true=>have z2:O.blt (ky (kas_item y j)) (ky (kas_item x (i + b)))=true:=KeyOrd.klt_of_klt_of_kle z this;have wV:(!O.blt (ky (kas_item y j)) (ky (kas_item x (i + b))))=true:=oN;rw[z2] at wV;cases wV
 ·have lo:∀t,t < k->le O ky (kas_item x (i + t)) (kas_item y j):=λt ht=>by have z:=bX t ht;unfold dw at z;rw[if_neg (by simp)] at z;have z2:(!O.blt (ky (kas_item y j)) (ky (kas_item x (i + t))))=true:=z;show O.blt (ky (kas_item y j)) (ky (kas_item x (i + t)))=false;simpa using z2
  have uF:∀l,i + k<=l->l < x.size->le O ky (kas_item y j) (kas_item x l):=λl dz eB=>by
   have z:=jh (l - i) (by lia) (by lia);unfold dw at z;rw[if_neg (by simp)] at z;have z2:(!O.blt (ky (kas_item y j)) (ky (kas_item x (i + (l - i)))))=false:=z;rw[show i + (l - i)=l by lia] at z2;have z3:O.blt (ky (kas_item y j)) (ky (kas_item x l))=true:=by simpa using z2
   exact KeyOrd.kle_of_klt z3
  dsimp only;by_cases k0:k > 0
  ·rw[if_pos k0];have m2:=h.m.ou (k:=k) M.sa (λe he f hf=>by
    obtain⟨a,a1,a2,a3,rfl⟩:=aU he;obtain⟨b,b1,b2,rfl⟩:=b8 hf;have h1:=lo (a - i) (by lia);rw[show i + (a - i)=a by lia] at h1;exact PC h1 (cm M.sb b1 b2))
   rw[<-jW,<-Array.toList_append] at m2;by_cases c:(i + k + 1==x.size)=true
   ·rw[if_pos c];have c':i + k + 1=x.size:=by simpa using c
    refine Pg (q' _ (.inl ⟨_,rfl,?_⟩));rw[fQ];exact m2.td M.sa M.sb (M.lst c')
   ·rw[if_neg c];have c':¬i + k + 1=x.size:=by simpa using c
    by_cases d:(i + k==x.size)=true
    ·rw[if_pos d];have d':i + k=x.size:=by simpa using d
     refine Pg (q' _ (.inl ⟨_,rfl,?_⟩));rw[fA];exact m2.Fq M.sb (by simp;lia)
    ·rw[if_neg d];have d':¬i + k=x.size:=by simpa using d
     exact wM T M m2 (by lia) hj uF (by lia) xj q'
  ·rw[if_neg k0];have:k=0:=by lia
   subst this;exact wM T M h.m hi hj uF (by lia) xj q'
end
section
variable {O:KeyOrd} {ky:Keyed->O.α} {Mem:Keyed->Prop}
variable {prog:Program} {w:World} {A:Around} {E:Value->Shared->Prop} {κ:SortKind} {s:Shared}
noncomputable def SStep (O:KeyOrd) (ky:Keyed->O.α) (x y:Array Keyed) (n:Nat):ForInStep SS->Prop
 | .done r=>GP O ky x y n r.1 r.2.1 r.2.2.1 r.2.2.2.1
 | .yield r=>r.1=none/\GP O ky x y n r.1 r.2.1 r.2.2.1 r.2.2.2.1
theorem GP.none {x y:Array Keyed} {n:Nat} {v:Option (Array Keyed)} {o:Array Keyed} {i j:Nat} (h:GP O ky x y n v o i j) (hv:v=none):zp O ky x y o i j/\n<=i + j:=by
 rcases h with ⟨a,e,_⟩ | ⟨_,h⟩
 ·rw[hv] at e;cases e
 ·exact h
theorem Ee (T:Tells prog w A κ s O ky Mem) {x y:Array Keyed} (M:MP O ky Mem x y) {mg:Nat} {r:SS} (h:zp O ky x y r.2.1 r.2.2.1 r.2.2.2.1) {n:Nat} (hn:n<=r.2.2.1 + r.2.2.2.1 + 1) {st:SortSt} (hs:kindOf st=κ)
  {Q:ForInStep SS->SortSt->Shared->Prop} (q:∀r',SStep O ky x y n r'->Q r' st s):kasC (model prog w) A E (Lp x y mg r) Q st s:=by
 obtain⟨v,o,i,j,ca,cb⟩:=r;have hi:i + 1 < x.size:=h.i1;have hj:j < y.size:=h.j1;have hm:MI O ky x.toList y.toList o.toList i j:=h.m;dsimp only at hn;unfold Lp;dsimp only;refine Pc (aP (aB hj) (Pc (aP (aB (by lia)) (Pc (oV T (M.mb j hj) (M.ma i (by lia)) hs ?_)))));dsimp only;cases c:O.blt (ky (kas_item y j)) (ky (kas_item x i)) with
 | true=>
  rw[if_pos rfl];refine Pc (aP (aB hj) ?_);have m1:=hm.ow (k:=1) M.sb (λe he f hf=>by
   obtain⟨a,a1,a2,a3,rfl⟩:=aU he;obtain⟨b,b1,b2,rfl⟩:=b8 hf;have:a=j:=by lia
   subst this;exact PC (KeyOrd.kle_of_klt c) (cm M.sa b1 b2))
  rw[<-fP (x:=y) hj] at m1;by_cases d:(j + 1==y.size)=true
  ·rw[if_pos d];have d':j + 1=y.size:=by simpa using d
   refine Pg (q _ (.inl ⟨_,rfl,?_⟩));rw[fA];exact m1.sD M.sa (by simp;lia)
  ·rw[if_neg d];have d':¬j + 1=y.size:=by simpa using d
   have g:GP O ky x y n none (o.push (kas_item y j)) i (j + 1):= .inr ⟨rfl,⟨m1,hi,by lia⟩,by lia⟩;by_cases e:cb + 1>=mg
   ·rw[if_pos e];exact Pg (q _ g)
   ·rw[if_neg e];exact Pg (q _ ⟨rfl,g⟩)
 | false=>
  rw[if_neg (by simp)];refine Pc (aP (aB (by lia)) ?_);have m1:=hm.ou (k:=1) M.sa (λe he f hf=>by
   obtain⟨a,a1,a2,a3,rfl⟩:=aU he;obtain⟨b,b1,b2,rfl⟩:=b8 hf;have:a=i:=by lia
   subst this;exact PC (show O.kle (ky (kas_item x a)) (ky (kas_item y j)) from c) (cm M.sb b1 b2))
  rw[<-fP (x:=x) (by lia)] at m1;by_cases d:(i + 1 + 1==x.size)=true
  ·rw[if_pos d];have d':i + 1 + 1=x.size:=by simpa using d
   refine Pg (q _ (.inl ⟨_,rfl,?_⟩));rw[fQ];exact m1.td M.sa M.sb (M.lst d')
  ·rw[if_neg d];have d':¬i + 1 + 1=x.size:=by simpa using d
   have g:GP O ky x y n none (o.push (kas_item x i)) (i + 1) j:= .inr ⟨rfl,⟨m1,by lia,hj⟩,by lia⟩;by_cases e:ca + 1>=mg
   ·rw[if_pos e];exact Pg (q _ g)
   ·rw[if_neg e];exact Pg (q _ ⟨rfl,g⟩)
noncomputable def E3 (O:KeyOrd) (ky:Keyed->O.α) (x y:Array Keyed) (n:Nat):ForInStep OS->Prop
 | .done r=>∃a,r.1=some a/\p8 O ky x.toList y.toList a.toList
 | .yield r=>r.1=none/\zp O ky x y r.2.1 r.2.2.1 r.2.2.2.1/\n<=r.2.2.1 + r.2.2.2.1
theorem AC (T:Tells prog w A κ s O ky Mem) {x y:Array Keyed} (M:MP O ky Mem x y) {r:OS} (h:zp O ky x y r.2.1 r.2.2.1 r.2.2.2.1) {n:Nat} (hn:n<=r.2.2.1 + r.2.2.2.1) {cQ st:SortSt} (hs:kindOf st=κ) (gZ:SI cQ st)
  {Q:ForInStep OS->SortSt->Shared->Prop} (q:∀r' ah,SI cQ ah->E3 O ky x y (n + 1) r'->Q r' ah s):kasC (model prog w) A E (Dz x y r) Q st s:=by
 unfold Dz;have hp:=M.pa;refine Pc (bw (Q:=λa ah s'=>st=ah/\s=s'/\GP O ky x y (n + 1) a.1 a.2.1 a.2.2.1 a.2.2.2.1) (kasC_range (cF (λjj a ah=>st=ah/\a.1=none/\zp O ky x y a.2.1 a.2.2.1 a.2.2.2.1/\n + jj<=a.2.2.1 + a.2.2.2.1) ⟨rfl,rfl,h,by simpa using hn⟩ (λjj a ah z hj hI=>?_) (λa ah hI=>?_))) (λa ah s' hI=>?_))
 ·obtain⟨rfl,a0,B8,an⟩:=hI;refine Ee T M B8 (n:=n + jj + 1) (by lia) hs (λr' gK=>⟨rfl,?_⟩);cases r' with
  | done b=>
   refine⟨rfl,rfl,?_⟩;rcases gK with ⟨v,e,m⟩ | ⟨e,ok,l⟩
   ·exact .inl ⟨v,e,m⟩
   ·exact .inr ⟨e,ok,by lia⟩
  | yield b=>obtain⟨b0,gb⟩:=gK;obtain⟨ok,l⟩:=gb.none b0;exact⟨rfl,b0,ok,by lia⟩
 ·obtain⟨rfl,a0,B8,an⟩:=hI;rw[List.length_range'] at an;exact⟨rfl,rfl,.inr ⟨a0,B8,by lia⟩⟩
 obtain⟨rfl,rfl,ga⟩:=hI;rcases ga with ⟨v,e,m⟩ | ⟨e,ok,l⟩
 ·rw[e];exact Pg (q _ _ gZ ⟨v,rfl,m⟩)
 ·rw[e];refine Pc (kasC_lift (wpAny_rule ?_));refine Pc (bw (Q:=λb ah s'=>SI cQ ah/\s=s'/\GP O ky x y (n + 1) b.1 b.2.1 b.2.2.1 b.2.2.2.1) (kasC_range (cF (λjj b ah=>SI cQ ah/\kindOf ah=κ/\b.1=none/\zp O ky x y b.2.1 b.2.2.1 b.2.2.2.1/\n + 1<=b.2.2.1 + b.2.2.2.1) ⟨gZ,hs,rfl,ok,l⟩ (λjj b ah z hj hI=>?_) (λb ah hI=>?_))) (λb ah s' hI=>?_))
  ·obtain⟨si,ks,b0,zx,bn⟩:=hI;have kk:∀dm,SI cQ dm->kindOf dm=κ:=λdm h2=>(h2.1.trans si.1.symm).trans ks
   by_cases c:b.2.2.2.2.1 > 1
   ·rw[if_pos c];refine wL T M zx bn ks si (λr' dm h2 gK=>⟨rfl,?_⟩);cases r' with
    | done b'=>exact⟨h2,rfl,gK⟩
    | yield b'=>obtain⟨c0,gc⟩:=gK;obtain⟨Do,l'⟩:=gc.none c0;exact⟨h2,kk dm h2,c0,Do,l'⟩
   ·rw[if_neg c];refine wL T M zx bn ks si (λr' dm h2 gK=>⟨rfl,?_⟩);cases r' with
    | done b'=>exact⟨h2,rfl,gK⟩
    | yield b'=>obtain⟨c0,gc⟩:=gK;obtain⟨Do,l'⟩:=gc.none c0;exact⟨h2,kk dm h2,c0,Do,l'⟩
  ·obtain⟨si,ks,b0,zx,bn⟩:=hI;exact⟨si,rfl,.inr ⟨b0,zx,bn⟩⟩
  obtain⟨si,rfl,gb⟩:=hI;rcases gb with ⟨v,e2,m⟩ | ⟨e2,KU,l2⟩
  ·rw[e2];exact Pg (q _ _ si ⟨v,rfl,m⟩)
  ·rw[e2];exact Pc (jI λdm h2=>Pg (q _ _ (si.trans h2) ⟨rfl,KU,l2⟩))
theorem Au (T:Tells prog w A κ s O ky Mem) {x y:Array Keyed} (M:MP O ky Mem x y) {st:SortSt} (hs:kindOf st=κ) {Q:Array Keyed->SortSt->Shared->Prop} (q:∀v ah,SI st ah->p8 O ky x.toList y.toList v.toList->Q v ah s):kasC (model prog w) A E (Dg x y) Q st s:=by
 rw[As];unfold Mz;have hp:=M.pa;have hq:=M.pb;refine Pc (kasC_lift (wpAny_rule ?_));refine Pc (aP (aB (by lia)) ?_);have m1:=(MI.start (O:=O) (ky:=ky) (la:=x.toList) (lb:=y.toList)).ow (k:=1) M.sb (λe he f hf=>by
  obtain⟨a,a1,a2,a3,rfl⟩:=aU he;obtain⟨b,b1,b2,rfl⟩:=b8 hf;have:a=0:=by lia
  subst this;exact PC (KeyOrd.kle_of_klt M.first) (cm M.sa (Nat.zero_le b) b2))
 have e0:(#[kas_item y 0]:Array Keyed).toList=[]++(y.toList.drop 0).take 1:=by rw[take_one (by lia)];rfl
 rw[<-e0,Nat.zero_add] at m1;by_cases c:(1==y.size)=true
 ·rw[if_pos c];have c':1=y.size:=by simpa using c
  refine Pg (q _ _ (SI.refl _) ?_);rw[fA];exact m1.sD M.sa (by simp;lia)
 ·rw[if_neg c];have c':¬1=y.size:=by simpa using c
  by_cases d:(0 + 1==x.size)=true
  ·rw[if_pos d];have d':0 + 1=x.size:=by simpa using d
   refine Pg (q _ _ (SI.refl _) ?_);rw[fQ];exact m1.td M.sa M.sb (M.lst d')
  ·rw[if_neg d];have d':¬0 + 1=x.size:=by simpa using d
   refine Pc (kasC_get ?_);refine Pc (bw (Q:=λr ah s'=>SI st ah/\s=s'/\∃a,r.1=some a/\p8 O ky x.toList y.toList a.toList) (kasC_range (cF (λjj r ah=>SI st ah/\r.1=none/\zp O ky x y r.2.1 r.2.2.1 r.2.2.2.1/\jj + 1<=r.2.2.1 + r.2.2.2.1) ⟨SI.refl _,rfl,⟨m1,(show 0 + 1 < x.size by lia),(show 1 < y.size by lia)⟩,by simp⟩ (λjj r ah z hj hI=>?_) (λr ah hI=>?_))) (λr ah s' hI=>?_))
   ·obtain⟨si,r0,A0,rn⟩:=hI;refine AC T M A0 rn (si.1.trans hs) si (λr' dm h2 gK=>⟨rfl,?_⟩);cases r' with
    | done b=>exact⟨h2,rfl,gK⟩
    | yield b=>exact⟨h2,gK.1,gK.2.1,gK.2.2⟩
   ·obtain⟨si,r0,A0,rn⟩:=hI;rw[List.length_range'] at rn;have h1:=A0.i1;have h2:=A0.j1
    lia
   obtain⟨si,rfl,a,e,m⟩:=hI;rw[e];exact Pg (q _ _ si m)
end
section
variable {O:KeyOrd} {ky:Keyed->O.α}
structure HI (O:KeyOrd) (ky:Keyed->O.α) (la lb R:List Keyed) (i j:Nat):Prop where
 p:R.Perm (la.drop i++lb.drop j)
 s:gO O ky R
 a:∀x∈la.take i,∀y∈R,le O ky x y
 b:∀x∈lb.take j,∀y∈R,le O ky x y
theorem fJ {l:List Keyed} {i k:Nat} (h:k<=i):l.take i=l.take k++(l.drop k).take (i - k):=by have:=gI (l:=l) (i:=k) (k:=i - k);rw[show k + (i - k)=i by lia] at this;exact this
theorem jN {l:List Keyed} {i k:Nat} (h:k<=i):l.drop k=(l.drop k).take (i - k)++l.drop i:=by have:=cy (l:=l) (i:=k) (k:=i - k);rw[show k + (i - k)=i by lia] at this;exact this
theorem HI.ou {la lb R:List Keyed} {i k j:Nat} (h:HI O ky la lb R i j) (hk:k<=i) (sa:gO O ky la) (hb:∀e∈(la.drop k).take (i - k),∀y∈lb.take j,le O ky y e):HI O ky la lb ((la.drop k).take (i - k)++R) k j:=by
 have st:gO O ky (la.take i):=sa.sublist (List.take_sublist _ _);rw[fJ hk] at st;obtain⟨s1,s2,s3⟩:=List.pairwise_append.mp st;have m1:∀y∈(la.drop k).take (i - k),y∈la.take i:=λy hy=>by rw[fJ hk];exact PL _ hy
 have m2:∀y∈la.take k,y∈la.take i:=λy hy=>by rw[fJ hk];exact List.mem_append_left _ hy
 refine⟨?_,List.pairwise_append.mpr ⟨s2,h.s,λx hx y hy=>h.a x (m1 x hx) y hy⟩,λx hx y hy=>?_,λx hx y hy=>?_⟩
 ·refine(h.p.append_left _).trans ?_;rw[<-Pm,<-jN (l:=la) hk]
 ·rcases Pv.mp hy with hy | hy
  ·exact s3 x hx y hy
  ·exact h.a x (m2 x hx) y hy
 ·rcases Pv.mp hy with hy | hy
  ·exact hb y hy x hx
  ·exact h.b x hx y hy
theorem HI.ow {la lb R:List Keyed} {i k j:Nat} (h:HI O ky la lb R i j) (hk:k<=j) (sb:gO O ky lb) (hb:∀e∈(lb.drop k).take (j - k),∀y∈la.take i,le O ky y e):HI O ky la lb ((lb.drop k).take (j - k)++R) i k:=by
 have st:gO O ky (lb.take j):=sb.sublist (List.take_sublist _ _);rw[fJ hk] at st;obtain⟨s1,s2,s3⟩:=List.pairwise_append.mp st;have m1:∀y∈(lb.drop k).take (j - k),y∈lb.take j:=λy hy=>by rw[fJ hk];exact PL _ hy
 have m2:∀y∈lb.take k,y∈lb.take j:=λy hy=>by rw[fJ hk];exact List.mem_append_left _ hy
 refine⟨?_,List.pairwise_append.mpr ⟨s2,h.s,λx hx y hy=>h.b x (m1 x hx) y hy⟩,λx hx y hy=>?_,λx hx y hy=>?_⟩
 ·refine(h.p.append_left _).trans ?_;rw[<-Pm];refine(List.Perm.append_right _ List.perm_append_comm).trans ?_;rw[Pm,<-jN (l:=lb) hk]
 ·rcases Pv.mp hy with hy | hy
  ·exact hb y hy x hx
  ·exact h.a x hx y hy
 ·rcases Pv.mp hy with hy | hy
  ·exact s3 x hx y hy
  ·exact h.b x (m2 x hx) y hy
theorem HI.iJ {la lb R:List Keyed} {i j:Nat} (h:HI O ky la lb R i j) (sa:gO O ky la) (sb:gO O ky lb) (hf:∀x∈lb.take j,∀y∈la.take i,le O ky x y):p8 O ky la lb (lb.take j++la.take i++R):=by
 refine⟨?_,?_⟩
 ·refine(h.p.append_left _).trans ?_;rw[Pm,<-Pm (la.take i),List.take_append_drop];refine(List.perm_append_comm).trans ?_;rw[Pm];refine List.Perm.append_left _ ((List.perm_append_comm).trans ?_);rw[List.take_append_drop]
 ·refine List.pairwise_append.mpr ⟨List.pairwise_append.mpr ⟨sb.sublist (List.take_sublist _ _),sa.sublist (List.take_sublist _ _),hf⟩,h.s,λx hx y hy=>?_⟩;rcases Pv.mp hx with hx | hx
  ·exact h.b x hx y hy
  ·exact h.a x hx y hy
theorem HI.sC {la lb R:List Keyed} {j:Nat} (h:HI O ky la lb R 0 j) (sa:gO O ky la) (sb:gO O ky lb):p8 O ky la lb (la.take 0++lb.take j++R):=by have:=h.iJ sa sb (λx hx y hy=>absurd hy (by simp));simpa using this
theorem HI.Cp {la lb R:List Keyed} {i:Nat} (h:HI O ky la lb R i 0) (sa:gO O ky la) (sb:gO O ky lb):p8 O ky la lb (la.take i++lb.take 0++R):=by have:=h.iJ sa sb (λx hx y hy=>absurd hx (by simp));simpa using this
theorem HI.start {la lb:List Keyed}:HI O ky la lb [] la.length lb.length:=⟨by simp,List.Pairwise.nil,λx _ y hy=>absurd hy (by simp),λx _ y hy=>absurd hy (by simp)⟩
end
noncomputable def Df:Array Keyed->Array Keyed->StateT SortSt Sem (Array Keyed):=sortPriv% PySem.Builtin.mergeHi
noncomputable abbrev GH:=Option (Array Keyed)×Nat×Nat×Array Keyed×Nat×Nat×Nat
noncomputable abbrev SH:=Option (Array Keyed)×Nat×Nat×Array Keyed×Nat×Nat
noncomputable abbrev OH:=Option (Array Keyed)×Nat×Nat×Array Keyed×Nat
noncomputable def kZ (x y o:Array Keyed) (i j:Nat):Array Keyed:=x.extract 0 i++y.extract 0 j++o.reverse
noncomputable def uy (x y o:Array Keyed) (i j:Nat):Array Keyed:=y.extract 0 j++x.extract 0 i++o.reverse
noncomputable def Iv (x y o:Array Keyed) (i j mg ca cb:Nat):StateT SortSt Sem (ForInStep GH):=do
 let e<-elem' x (i - 1)
 if (i - 1==0)=true then pure (.done (some (kZ x y (o.push e) (i - 1) j),i - 1,j,o.push e,mg,ca,cb))
 else if (decide (ca < 7)&&decide (cb < 7))=true then pure (.done (none,i - 1,j,o.push e,mg,ca,cb))
 else pure (.yield (none,i - 1,j,o.push e,mg,ca,cb))
noncomputable def eB (x y o:Array Keyed) (i j mg ca p0:Nat):StateT SortSt Sem (ForInStep GH):=do
 let e<-elem' y (j - 1)
 if (j - 1==1)=true then pure (.done (some (uy x y (o.push e) i (j - 1)),i,j - 1,o.push e,mg,ca,p0))
 else do
  let f<-elem' x (i - 1)
  let r<-Bq true f y 0 (j - 1) (j - 1 - 1)
  match r with
  | some k=>
   if j - 1 - k > 0 then
    if (k==1)=true then pure (.done (some (uy x y (o.push e++(y.extract k (j - 1)).reverse) i k),i,k,o.push e++(y.extract k (j - 1)).reverse,mg,ca,j - 1 - k))
    else if (k==0)=true then pure (.done (some (kZ x y (o.push e++(y.extract k (j - 1)).reverse) i k),i,k,o.push e++(y.extract k (j - 1)).reverse,mg,ca,j - 1 - k))
    else Iv x y (o.push e++(y.extract k (j - 1)).reverse) i k mg ca (j - 1 - k)
   else Iv x y (o.push e) i (j - 1) mg ca (j - 1 - k)
  | _=>pure (.done (some (kZ x y (o.push e) i (j - 1)),i,j - 1,o.push e,mg,ca,p0))
noncomputable def dz (x y o:Array Keyed) (i j mg Jy p0:Nat):StateT SortSt Sem (ForInStep GH):=do
 setG mg
 let e<-elem' y (j - 1)
 let r<-Bq false e x 0 i (i - 1)
 match r with
 | some k=>
  if i - k > 0 then
   if (k==0)=true then pure (.done (some (kZ x y (o++(x.extract k i).reverse) k j),k,j,o++(x.extract k i).reverse,mg,i - k,p0))
   else eB x y (o++(x.extract k i).reverse) k j mg (i - k) p0
  else eB x y o i j mg (i - k) p0
 | _=>pure (.done (some (kZ x y o i j),i,j,o,mg,Jy,p0))
noncomputable def Lo (x y:Array Keyed) (mg:Nat) (r:SH):StateT SortSt Sem (ForInStep SH):=do
 let e<-elem' y (r.2.2.1 - 1)
 let f<-elem' x (r.2.1 - 1)
 let c<-lt' e f
 match c with
 | some xw=>
  if xw=true then do
   let f<-elem' x (r.2.1 - 1)
   if (r.2.1 - 1==0)=true then pure (.done (some (kZ x y (r.2.2.2.1.push f) (r.2.1 - 1) r.2.2.1),r.2.1 - 1,r.2.2.1,r.2.2.2.1.push f,r.2.2.2.2.1 + 1,0))
   else if r.2.2.2.2.1 + 1>=mg then pure (.done (none,r.2.1 - 1,r.2.2.1,r.2.2.2.1.push f,r.2.2.2.2.1 + 1,0))
   else pure (.yield (none,r.2.1 - 1,r.2.2.1,r.2.2.2.1.push f,r.2.2.2.2.1 + 1,0))
  else do
   let e<-elem' y (r.2.2.1 - 1)
   if (r.2.2.1 - 1==1)=true then pure (.done (some (uy x y (r.2.2.2.1.push e) r.2.1 (r.2.2.1 - 1)),r.2.1,r.2.2.1 - 1,r.2.2.2.1.push e,0,r.2.2.2.2.2 + 1))
   else if r.2.2.2.2.2 + 1>=mg then pure (.done (none,r.2.1,r.2.2.1 - 1,r.2.2.2.1.push e,0,r.2.2.2.2.2 + 1))
   else pure (.yield (none,r.2.1,r.2.2.1 - 1,r.2.2.2.1.push e,0,r.2.2.2.2.2 + 1))
 | _=>pure (.done (some (kZ x y r.2.2.2.1 r.2.1 r.2.2.1),r.2.1,r.2.2.1,r.2.2.2.1,r.2.2.2.2.1,r.2.2.2.2.2))
noncomputable def DA (x y:Array Keyed) (r:OH):StateT SortSt Sem (ForInStep OH):=do
 let a<-forIn [:x.size + y.size] ((none,r.2.1,r.2.2.1,r.2.2.2.1,0,0):SH) λ_ a=>Lo x y r.2.2.2.2 a
 match a.1 with
 | some v=>pure (.done (some v,a.2.1,a.2.2.1,a.2.2.2.1,r.2.2.2.2))
 | none=>do
  rule "list.sort.gallop"
  let b<-forIn [:x.size + y.size] ((none,a.2.1,a.2.2.1,a.2.2.2.1,r.2.2.2.2 + 1,a.2.2.2.2.1,a.2.2.2.2.2):GH) λ_ b=>
   if b.2.2.2.2.1 > 1 then dz x y b.2.2.2.1 b.2.1 b.2.2.1 (b.2.2.2.2.1 - 1) b.2.2.2.2.2.1 b.2.2.2.2.2.2 else dz x y b.2.2.2.1 b.2.1 b.2.2.1 b.2.2.2.2.1 b.2.2.2.2.2.1 b.2.2.2.2.2.2
  match b.1 with
  | some v=>pure (.done (some v,b.2.1,b.2.2.1,b.2.2.2.1,b.2.2.2.2.1))
  | none=>do
   setG (b.2.2.2.2.1 + 1)
   pure (.yield (none,b.2.1,b.2.2.1,b.2.2.2.1,b.2.2.2.2.1 + 1))
noncomputable def BA (x y:Array Keyed):StateT SortSt Sem (Array Keyed):=do
 rule "list.sort.merge-hi"
 let e<-elem' x (x.size - 1)
 if (x.size - 1==0)=true then pure (kZ x y #[e] (x.size - 1) y.size)
 else if (y.size==1)=true then pure (uy x y #[e] (x.size - 1) y.size)
 else do
  let st<-get
  let r<-forIn [:x.size + y.size] ((none,x.size - 1,y.size,#[e],gallopOf st):OH) λ_ r=>DA x y r
  match r.1 with
  | some a=>pure a
  | none=>unsupported "internal:list.sort.merge-bound"
theorem Aq (x y:Array Keyed):Df x y=BA x y:=by kernel_rfl
theorem mN (x:Array Keyed) (i:Nat):(x.extract 0 i).toList=x.toList.take i:=by rw[Array.toList_extract];show (x.toList.drop 0).take (i - 0)=_;simp
theorem sG (x:Array Keyed) {k i:Nat}:(x.extract k i).toList=(x.toList.drop k).take (i - k):=by rw[Array.toList_extract]
theorem dO (x y o:Array Keyed) (i j:Nat):(kZ x y o i j).toList=x.toList.take i++y.toList.take j++o.toList.reverse:=by unfold kZ;rw[Array.toList_append,Array.toList_append,mN,mN,Array.toList_reverse]
theorem fM (x y o:Array Keyed) (i j:Nat):(uy x y o i j).toList=y.toList.take j++x.toList.take i++o.toList.reverse:=by unfold uy;rw[Array.toList_append,Array.toList_append,mN,mN,Array.toList_reverse]
theorem tO (x o:Array Keyed) (k i:Nat):(o++(x.extract k i).reverse).toList.reverse=(x.toList.drop k).take (i - k)++o.toList.reverse:=by rw[Array.toList_append,Array.toList_reverse,List.reverse_append,List.reverse_reverse,sG]
theorem iz {x o:Array Keyed} {i:Nat} (h1:1<=i) (h2:i<=x.size):(o.push (kas_item x (i - 1))).toList.reverse=(x.toList.drop (i - 1)).take (i - (i - 1))++o.toList.reverse:=by rw[show i - (i - 1)=1 by lia,take_one (by lia)];simp
section
variable {O:KeyOrd} {ky:Keyed->O.α} {Mem:Keyed->Prop}
variable {prog:Program} {w:World} {A:Around} {E:Value->Shared->Prop} {κ:SortKind} {s:Shared}
theorem ey {x:Array Keyed} {i:Nat} {e:Keyed} (h:e∈x.toList.take i):∃k,k < i/\k < x.size/\e=kas_item x k:=by
 have h':e∈(x.toList.drop 0).take i:=by simpa using h
 obtain⟨k,_,k1,k2,e⟩:=aU h';exact⟨k,by lia,k2,e⟩
structure zo (O:KeyOrd) (ky:Keyed->O.α) (x y o:Array Keyed) (i j:Nat):Prop where
 m:HI O ky x.toList y.toList o.toList.reverse i j
 i1:1<=i
 i2:i < x.size
 j1:2<=j
 j2:j<=y.size
theorem MP.fst {x y:Array Keyed} (h:MP O ky Mem x y) {i:Nat} (hi:i<=x.size):∀e∈y.toList.take 1,∀f∈x.toList.take i,le O ky e f:=λe he f hf=>by
 obtain⟨k,k1,k2,rfl⟩:=ey he;obtain⟨l,l1,l2,rfl⟩:=ey hf;have:k=0:=by lia
 subst this;exact PC (KeyOrd.kle_of_klt h.first) (cm h.sa (Nat.zero_le l) l2)
noncomputable def HP (O:KeyOrd) (ky:Keyed->O.α) (x y:Array Keyed) (n:Nat) (v:Option (Array Keyed)) (o:Array Keyed) (i j:Nat):Prop:=(∃a,v=some a/\p8 O ky x.toList y.toList a.toList)\/(v=none/\zo O ky x y o i j/\i + j + n<=x.size + y.size)
theorem HP.none {x y:Array Keyed} {n:Nat} {v:Option (Array Keyed)} {o:Array Keyed} {i j:Nat} (h:HP O ky x y n v o i j) (hv:v=none):zo O ky x y o i j/\i + j + n<=x.size + y.size:=by
 rcases h with ⟨a,e,_⟩ | ⟨_,h⟩
 ·rw[hv] at e;cases e
 ·exact h
noncomputable def vy (O:KeyOrd) (ky:Keyed->O.α) (x y:Array Keyed) (n:Nat):ForInStep GH->Prop
 | .done r=>HP O ky x y n r.1 r.2.2.2.1 r.2.1 r.2.2.1
 | .yield r=>r.1=none/\HP O ky x y n r.1 r.2.2.2.1 r.2.1 r.2.2.1
theorem xa {x y o:Array Keyed} (M:MP O ky Mem x y) {i j mg ca cb n:Nat} (h:HI O ky x.toList y.toList o.toList.reverse i j) (hi:1<=i) (uF:i < x.size) (hj:2<=j) (zW:j<=y.size) (hk:∀l,l < j->le O ky (kas_item y l) (kas_item x (i - 1))) (hn:i - 1 + j + n<=x.size + y.size) {st:SortSt} {Q:ForInStep GH->SortSt->Shared->Prop}
  (q:∀r,vy O ky x y n r->Q r st s):kasC (model prog w) A E (Iv x y o i j mg ca cb) Q st s:=by
 unfold Iv;refine Pc (aP (aB (by lia)) ?_);have m1:=h.ou (k:=i - 1) (by lia) M.sa (λe he f hf=>by
  obtain⟨a,a1,a2,a3,rfl⟩:=aU he;obtain⟨b,b1,b2,rfl⟩:=ey hf;have:a=i - 1:=by lia
  subst this;exact hk b b1)
 rw[<-iz (x:=x) hi (by lia)] at m1;by_cases c:(i - 1==0)=true
 ·rw[if_pos c];have c':i - 1=0:=by simpa using c
  refine Pg (q _ (.inl ⟨_,rfl,?_⟩));rw[dO];rw[c'] at m1 ⊢;exact m1.sC M.sa M.sb
 ·rw[if_neg c];have c':¬i - 1=0:=by simpa using c
  have g:HP O ky x y n none (o.push (kas_item x (i - 1))) (i - 1) j:= .inr ⟨rfl,⟨m1,by lia,by lia,hj,zW⟩,by lia⟩;by_cases d:(decide (ca < 7)&&decide (cb < 7))=true
  ·rw[if_pos d];exact Pg (q _ g)
  ·rw[if_neg d];exact Pg (q _ ⟨rfl,g⟩)
theorem w6 (T:Tells prog w A κ s O ky Mem) {x y o:Array Keyed} (M:MP O ky Mem x y) {i j mg ca cb n:Nat} (h:HI O ky x.toList y.toList o.toList.reverse i j) (hi:1<=i) (uF:i < x.size) (hj:2<=j) (zW:j<=y.size) (hk:∀l,l < i->le O ky (kas_item x l) (kas_item y (j - 1))) (hn:i + (j - 1) + n<=x.size + y.size) {st:SortSt} (hs:kindOf st=κ)
  {Q:ForInStep GH->SortSt->Shared->Prop} (q:∀r,vy O ky x y n r->Q r st s):kasC (model prog w) A E (eB x y o i j mg ca cb) Q st s:=by
 unfold eB;refine Pc (aP (aB (by lia)) ?_);have m1:=h.ow (k:=j - 1) (by lia) M.sb (λe he f hf=>by
  obtain⟨a,a1,a2,a3,rfl⟩:=aU he;obtain⟨b,b1,b2,rfl⟩:=ey hf;have:a=j - 1:=by lia
  subst this;exact hk b b1)
 rw[<-iz (x:=y) (by lia) zW] at m1;by_cases c:(j - 1==1)=true
 ·rw[if_pos c];have c':j - 1=1:=by simpa using c
  refine Pg (q _ (.inl ⟨_,rfl,?_⟩));rw[fM];rw[c'] at m1 ⊢;exact m1.iJ M.sa M.sb (M.fst (by lia))
 ·rw[if_neg c];have c':¬j - 1=1:=by simpa using c
  refine Pc (aP (aB (by lia)) (Pc ?_));refine iL T (λt=>kas_item y t) (λt ht=>by rw[Nat.zero_add];exact aB (by lia)) (λt ht=>M.mb _ (by lia)) (M.ma (i - 1) (by lia)) (by lia) (λa b gv hb oN=>?_) hs (λk hk1 bX jh=>?_)
  ·unfold dw at oN ⊢;rw[if_pos rfl] at oN ⊢;have:=cm M.sb gv (by lia);exact KeyOrd.klt_of_kle_of_klt this oN
  ·have lo:∀t,t < k->le O ky (kas_item y t) (kas_item x (i - 1)):=λt ht=>by have z:=bX t ht;unfold dw at z;rw[if_pos rfl] at z;exact KeyOrd.kle_of_klt z
   have up:∀t,k<=t->t < j - 1->le O ky (kas_item x (i - 1)) (kas_item y t):=λt h1 h2=>by have z:=jh t h1 h2;unfold dw at z;rw[if_pos rfl] at z;exact z
   dsimp only;by_cases k0:j - 1 - k > 0
   ·rw[if_pos k0];have m2:=m1.ow (k:=k) (by lia) M.sb (λe he f hf=>by
     obtain⟨a,a1,a2,a3,rfl⟩:=aU he;obtain⟨b,b1,b2,rfl⟩:=ey hf;exact PC (cm M.sa (show b<=i - 1 by lia) (by lia)) (up a a1 (by lia)))
    rw[<-tO] at m2;by_cases d:(k==1)=true
    ·rw[if_pos d];have d':k=1:=by simpa using d
     subst d';refine Pg (q _ (.inl ⟨_,rfl,?_⟩));rw[fM];exact m2.iJ M.sa M.sb (M.fst (by lia))
    ·rw[if_neg d];have d':¬k=1:=by simpa using d
     by_cases e:(k==0)=true
     ·rw[if_pos e];have e':k=0:=by simpa using e
      subst e';refine Pg (q _ (.inl ⟨_,rfl,?_⟩));rw[dO];exact m2.Cp M.sa M.sb
     ·rw[if_neg e];have e':¬k=0:=by simpa using e
      exact xa M m2 hi uF (by lia) (by lia) lo (by lia) q
   ·rw[if_neg k0];exact xa M m1 hi uF (by lia) (by lia) (λl hl=>lo l (by lia)) (by lia) q
theorem w5 (T:Tells prog w A κ s O ky Mem) {x y o:Array Keyed} (M:MP O ky Mem x y) {i j mg ca cb n:Nat} (h:zo O ky x y o i j) (hn:i + j + n<=x.size + y.size) {cQ st:SortSt} (hs:kindOf st=κ) (gZ:SI cQ st)
  {Q:ForInStep GH->SortSt->Shared->Prop} (q:∀r ah,SI cQ ah->vy O ky x y n r->Q r ah s):kasC (model prog w) A E (dz x y o i j mg ca cb) Q st s:=by
 unfold dz;have hi:=h.i1;have uF:=h.i2;have hj:=h.j1;have zW:=h.j2;refine Pc (jI λoh h1=>?_);have xj:kindOf oh=κ:=h1.1.trans hs;have q':=λr=>q r oh (gZ.trans h1)
 refine Pc (aP (aB (by lia)) (Pc ?_));refine iL T (λt=>kas_item x t) (λt ht=>by rw[Nat.zero_add];exact aB (by lia)) (λt ht=>M.ma _ (by lia)) (M.mb (j - 1) (by lia)) (by lia) (λa b gv hb oN=>?_) xj (λk hk1 bX jh=>?_)
 ·unfold dw at oN ⊢;rw[if_neg (by simp)] at oN ⊢;have:=cm M.sa gv (by lia);cases z:O.blt (ky (kas_item y (j - 1))) (ky (kas_item x a)) with
  | false=>rfl
  | true=>have z2:O.blt (ky (kas_item y (j - 1))) (ky (kas_item x b))=true:=KeyOrd.klt_of_klt_of_kle z this;have wV:(!O.blt (ky (kas_item y (j - 1))) (ky (kas_item x b)))=true:=oN;rw[z2] at wV;cases wV
 ·have lo:∀t,t < k->le O ky (kas_item x t) (kas_item y (j - 1)):=λt ht=>by have z:=bX t ht;unfold dw at z;rw[if_neg (by simp)] at z;have z2:(!O.blt (ky (kas_item y (j - 1))) (ky (kas_item x t)))=true:=z;show O.blt (ky (kas_item y (j - 1))) (ky (kas_item x t))=false;simpa using z2
  have up:∀t,k<=t->t < i->le O ky (kas_item y (j - 1)) (kas_item x t):=λt h1 h2=>by
   have z:=jh t h1 h2;unfold dw at z;rw[if_neg (by simp)] at z;have z2:(!O.blt (ky (kas_item y (j - 1))) (ky (kas_item x t)))=false:=z;have z3:O.blt (ky (kas_item y (j - 1))) (ky (kas_item x t))=true:=by simpa using z2
   exact KeyOrd.kle_of_klt z3
  dsimp only;by_cases k0:i - k > 0
  ·rw[if_pos k0];have m2:=h.m.ou (k:=k) (by lia) M.sa (λe he f hf=>by
    obtain⟨a,a1,a2,a3,rfl⟩:=aU he;obtain⟨b,b1,b2,rfl⟩:=ey hf;exact PC (cm M.sb (show b<=j - 1 by lia) (by lia)) (up a a1 (by lia)))
   rw[<-tO] at m2;by_cases e:(k==0)=true
   ·rw[if_pos e];have e':k=0:=by simpa using e
    subst e';refine Pg (q' _ (.inl ⟨_,rfl,?_⟩));rw[dO];exact m2.sC M.sa M.sb
   ·rw[if_neg e];have e':¬k=0:=by simpa using e
    exact w6 T M m2 (by lia) (by lia) hj zW lo (by lia) xj q'
  ·rw[if_neg k0];exact w6 T M h.m hi uF hj zW (λl hl=>lo l (by lia)) (by lia) xj q'
noncomputable def MW (O:KeyOrd) (ky:Keyed->O.α) (x y:Array Keyed) (n:Nat):ForInStep SH->Prop
 | .done r=>HP O ky x y n r.1 r.2.2.2.1 r.2.1 r.2.2.1
 | .yield r=>r.1=none/\HP O ky x y n r.1 r.2.2.2.1 r.2.1 r.2.2.1
theorem Eb (T:Tells prog w A κ s O ky Mem) {x y:Array Keyed} (M:MP O ky Mem x y) {mg:Nat} {r:SH} (h:zo O ky x y r.2.2.2.1 r.2.1 r.2.2.1) {n:Nat} (hn:r.2.1 + r.2.2.1 + n<=x.size + y.size + 1) {st:SortSt} (hs:kindOf st=κ)
  {Q:ForInStep SH->SortSt->Shared->Prop} (q:∀r',MW O ky x y n r'->Q r' st s):kasC (model prog w) A E (Lo x y mg r) Q st s:=by
 obtain⟨v,i,j,o,ca,cb⟩:=r;have hi:1<=i:=h.i1;have uF:i < x.size:=h.i2;have hj:2<=j:=h.j1;have zW:j<=y.size:=h.j2;have hm:HI O ky x.toList y.toList o.toList.reverse i j:=h.m;dsimp only at hn;unfold Lo;dsimp only;refine Pc (aP (aB (by lia)) (Pc (aP (aB (by lia)) (Pc (oV T (M.mb (j - 1) (by lia)) (M.ma (i - 1) (by lia)) hs ?_)))));dsimp only;cases c:O.blt (ky (kas_item y (j - 1))) (ky (kas_item x (i - 1))) with
 | true=>
  rw[if_pos rfl];refine Pc (aP (aB (by lia)) ?_);have m1:=hm.ou (k:=i - 1) (by lia) M.sa (λe he f hf=>by
   obtain⟨a,a1,a2,a3,rfl⟩:=aU he;obtain⟨b,b1,b2,rfl⟩:=ey hf;have:a=i - 1:=by lia
   subst this;exact PC (cm M.sb (show b<=j - 1 by lia) (by lia)) (KeyOrd.kle_of_klt c))
  rw[<-iz (x:=x) hi (by lia)] at m1;by_cases d:(i - 1==0)=true
  ·rw[if_pos d];have d':i - 1=0:=by simpa using d
   refine Pg (q _ (.inl ⟨_,rfl,?_⟩));rw[dO];rw[d'] at m1 ⊢;exact m1.sC M.sa M.sb
  ·rw[if_neg d];have d':¬i - 1=0:=by simpa using d
   have g:HP O ky x y n none (o.push (kas_item x (i - 1))) (i - 1) j:= .inr ⟨rfl,⟨m1,by lia,by lia,hj,zW⟩,by lia⟩;by_cases e:ca + 1>=mg
   ·rw[if_pos e];exact Pg (q _ g)
   ·rw[if_neg e];exact Pg (q _ ⟨rfl,g⟩)
 | false=>
  rw[if_neg (by simp)];refine Pc (aP (aB (by lia)) ?_);have m1:=hm.ow (k:=j - 1) (by lia) M.sb (λe he f hf=>by
   obtain⟨a,a1,a2,a3,rfl⟩:=aU he;obtain⟨b,b1,b2,rfl⟩:=ey hf;have:a=j - 1:=by lia
   subst this;exact PC (cm M.sa (show b<=i - 1 by lia) (by lia)) c)
  rw[<-iz (x:=y) (by lia) zW] at m1;by_cases d:(j - 1==1)=true
  ·rw[if_pos d];have d':j - 1=1:=by simpa using d
   refine Pg (q _ (.inl ⟨_,rfl,?_⟩));rw[fM];rw[d'] at m1 ⊢;exact m1.iJ M.sa M.sb (M.fst (by lia))
  ·rw[if_neg d];have d':¬j - 1=1:=by simpa using d
   have g:HP O ky x y n none (o.push (kas_item y (j - 1))) i (j - 1):= .inr ⟨rfl,⟨m1,hi,uF,by lia,by lia⟩,by lia⟩;by_cases e:cb + 1>=mg
   ·rw[if_pos e];exact Pg (q _ g)
   ·rw[if_neg e];exact Pg (q _ ⟨rfl,g⟩)
noncomputable def MV (O:KeyOrd) (ky:Keyed->O.α) (x y:Array Keyed) (n:Nat):ForInStep OH->Prop
 | .done r=>∃a,r.1=some a/\p8 O ky x.toList y.toList a.toList
 | .yield r=>r.1=none/\zo O ky x y r.2.2.2.1 r.2.1 r.2.2.1/\r.2.1 + r.2.2.1 + n<=x.size + y.size
theorem AD (T:Tells prog w A κ s O ky Mem) {x y:Array Keyed} (M:MP O ky Mem x y) {r:OH} (h:zo O ky x y r.2.2.2.1 r.2.1 r.2.2.1) {n:Nat} (hn:r.2.1 + r.2.2.1 + n<=x.size + y.size) {cQ st:SortSt} (hs:kindOf st=κ) (gZ:SI cQ st)
  {Q:ForInStep OH->SortSt->Shared->Prop} (q:∀r' ah,SI cQ ah->MV O ky x y (n + 1) r'->Q r' ah s):kasC (model prog w) A E (DA x y r) Q st s:=by
 unfold DA;have hp:=M.pa;refine Pc (bw (Q:=λa ah s'=>st=ah/\s=s'/\HP O ky x y (n + 1) a.1 a.2.2.2.1 a.2.1 a.2.2.1) (kasC_range (cF (λjj a ah=>st=ah/\a.1=none/\zo O ky x y a.2.2.2.1 a.2.1 a.2.2.1/\a.2.1 + a.2.2.1 + n + jj<=x.size + y.size) ⟨rfl,rfl,h,by simpa using hn⟩ (λjj a ah z hj hI=>?_) (λa ah hI=>?_))) (λa ah s' hI=>?_))
 ·obtain⟨rfl,a0,B8,an⟩:=hI;refine Eb T M B8 (n:=n + jj + 1) (by lia) hs (λr' gK=>⟨rfl,?_⟩);cases r' with
  | done b=>
   refine⟨rfl,rfl,?_⟩;rcases gK with ⟨v,e,m⟩ | ⟨e,ok,l⟩
   ·exact .inl ⟨v,e,m⟩
   ·exact .inr ⟨e,ok,by lia⟩
  | yield b=>obtain⟨b0,gb⟩:=gK;obtain⟨ok,l⟩:=gb.none b0;exact⟨rfl,b0,ok,by lia⟩
 ·obtain⟨rfl,a0,B8,an⟩:=hI;rw[List.length_range'] at an;exact⟨rfl,rfl,.inr ⟨a0,B8,by lia⟩⟩
 obtain⟨rfl,rfl,ga⟩:=hI;rcases ga with ⟨v,e,m⟩ | ⟨e,ok,l⟩
 ·rw[e];exact Pg (q _ _ gZ ⟨v,rfl,m⟩)
 ·rw[e];refine Pc (kasC_lift (wpAny_rule ?_));refine Pc (bw (Q:=λb ah s'=>SI cQ ah/\s=s'/\HP O ky x y (n + 1) b.1 b.2.2.2.1 b.2.1 b.2.2.1) (kasC_range (cF (λjj b ah=>SI cQ ah/\kindOf ah=κ/\b.1=none/\zo O ky x y b.2.2.2.1 b.2.1 b.2.2.1/\b.2.1 + b.2.2.1 + (n + 1)<=x.size + y.size) ⟨gZ,hs,rfl,ok,l⟩ (λjj b ah z hj hI=>?_) (λb ah hI=>?_))) (λb ah s' hI=>?_))
  ·obtain⟨si,ks,b0,zx,bn⟩:=hI;have kk:∀dm,SI cQ dm->kindOf dm=κ:=λdm h2=>(h2.1.trans si.1.symm).trans ks
   by_cases c:b.2.2.2.2.1 > 1
   ·rw[if_pos c];refine w5 T M zx bn ks si (λr' dm h2 gK=>⟨rfl,?_⟩);cases r' with
    | done b'=>exact⟨h2,rfl,gK⟩
    | yield b'=>obtain⟨c0,gc⟩:=gK;obtain⟨Do,l'⟩:=gc.none c0;exact⟨h2,kk dm h2,c0,Do,l'⟩
   ·rw[if_neg c];refine w5 T M zx bn ks si (λr' dm h2 gK=>⟨rfl,?_⟩);cases r' with
    | done b'=>exact⟨h2,rfl,gK⟩
    | yield b'=>obtain⟨c0,gc⟩:=gK;obtain⟨Do,l'⟩:=gc.none c0;exact⟨h2,kk dm h2,c0,Do,l'⟩
  ·obtain⟨si,ks,b0,zx,bn⟩:=hI;exact⟨si,rfl,.inr ⟨b0,zx,bn⟩⟩
  obtain⟨si,rfl,gb⟩:=hI;rcases gb with ⟨v,e2,m⟩ | ⟨e2,KU,l2⟩
  ·rw[e2];exact Pg (q _ _ si ⟨v,rfl,m⟩)
  ·rw[e2];exact Pc (jI λdm h2=>Pg (q _ _ (si.trans h2) ⟨rfl,KU,l2⟩))
theorem Ar (T:Tells prog w A κ s O ky Mem) {x y:Array Keyed} (M:MP O ky Mem x y) {st:SortSt} (hs:kindOf st=κ) {Q:Array Keyed->SortSt->Shared->Prop} (q:∀v ah,SI st ah->p8 O ky x.toList y.toList v.toList->Q v ah s):kasC (model prog w) A E (Df x y) Q st s:=by
 rw[Aq];unfold BA;have hp:=M.pa;have hq:=M.pb;refine Pc (kasC_lift (wpAny_rule ?_));refine Pc (aP (aB (by lia)) ?_);have m0:=HI.start (O:=O) (ky:=ky) (la:=x.toList) (lb:=y.toList);have lx:x.toList.length=x.size:=by simp
 have ly:y.toList.length=y.size:=by simp
 rw[lx,ly] at m0;have m1:=m0.ou (k:=x.size - 1) (by lia) M.sa (λe he f hf=>by
  obtain⟨a,a1,a2,a3,rfl⟩:=aU he;obtain⟨b,b1,b2,rfl⟩:=ey hf;have:a=x.size - 1:=by lia
  subst this;exact KeyOrd.kle_of_klt (M.last b b2))
 have e0:(#[kas_item x (x.size - 1)]:Array Keyed).toList.reverse=(x.toList.drop (x.size - 1)).take (x.size - (x.size - 1))++[]:=by rw[show x.size - (x.size - 1)=1 by lia,take_one (by lia)];rfl
 rw[<-e0] at m1;by_cases c:(x.size - 1==0)=true
 ·rw[if_pos c];have c':x.size - 1=0:=by simpa using c
  refine Pg (q _ _ (SI.refl _) ?_);rw[dO];rw[c'] at m1 ⊢;exact m1.sC M.sa M.sb
 ·rw[if_neg c];have c':¬x.size - 1=0:=by simpa using c
  by_cases d:(y.size==1)=true
  ·rw[if_pos d];have d':y.size=1:=by simpa using d
   refine Pg (q _ _ (SI.refl _) ?_);rw[fM];rw[d'] at m1 ⊢;exact m1.iJ M.sa M.sb (M.fst (by lia))
  ·rw[if_neg d];have d':¬y.size=1:=by simpa using d
   refine Pc (kasC_get ?_);refine Pc (bw (Q:=λr ah s'=>SI st ah/\s=s'/\∃a,r.1=some a/\p8 O ky x.toList y.toList a.toList) (kasC_range (cF (λjj r ah=>SI st ah/\r.1=none/\zo O ky x y r.2.2.2.1 r.2.1 r.2.2.1/\r.2.1 + r.2.2.1 + (jj + 1)<=x.size + y.size) ⟨SI.refl _,rfl,⟨m1,(show 1<=x.size - 1 by lia),(show x.size - 1 < x.size by lia),(show 2<=y.size by lia),Pd _⟩,(show x.size - 1 + y.size + (0 + 1)<=x.size + y.size by lia)⟩ (λjj r ah z hj hI=>?_) (λr ah hI=>?_))) (λr ah s' hI=>?_))
   ·obtain⟨si,r0,A0,rn⟩:=hI;refine AD T M A0 rn (si.1.trans hs) si (λr' dm h2 gK=>⟨rfl,?_⟩);cases r' with
    | done b=>exact⟨h2,rfl,gK⟩
    | yield b=>exact⟨h2,gK.1,gK.2.1,gK.2.2⟩
   ·obtain⟨si,r0,A0,rn⟩:=hI;rw[List.length_range'] at rn;have h1:=A0.i1;have h2:=A0.j1
    lia
   obtain⟨si,rfl,a,e,m⟩:=hI;rw[e];exact Pg (q _ _ si m)
end
noncomputable def Gw:Nat->StateT SortSt Sem Bool:=sortPriv% PySem.Builtin.mergeAt
noncomputable def back (M:Array Keyed) (p:Nat) (a:Array Keyed):Array Keyed:=M.toList.zipIdx.foldl (λb (q,j)=>b.setIfInBounds (p + j) q) a
theorem Dd (i:Nat):Gw i=(do
 let t<-get
 let (some (p,n,pw),some (q,m,_)):=((pendingOf t)[i]?,(pendingOf t)[i + 1]?) | unsupported "internal:list.sort.pending"
 set (SortSt.mk' (kindOf t) (arrOf t) (((pendingOf t).setIfInBounds i (p,n + m,pw)).eraseIdxIfInBounds (i + 1)) (gallopOf t) (failedOf t))
 let some k<-Bq false (<-elem' (arrOf t) q) (arrOf t) p n 0 | return false
 let (p,n):=(p + k,n - k)
 if n==0 then return true
 let some m<-Bq true (<-elem' (arrOf t) (p + n - 1)) (arrOf t) q m (m - 1) | return false
 if m==0 then return true
 let x:=(arrOf t).extract p q
 let y:=(arrOf t).extract q (q + m)
 let M<-if n<=m then Dg x y else Df x y
 modify λt=>SortSt.mk' (kindOf t) (back M p (arrOf t)) (pendingOf t) (gallopOf t) (failedOf t)
 return (failedOf (<-get)).isNone):=by kernel_rfl
theorem lp:∀(M:List Keyed) (p c:Nat) (a:Array Keyed),p + c + M.length<=a.size->((M.zipIdx c).foldl (λb (q:Keyed×Nat)=>b.setIfInBounds (p + q.2) q.1) a).toList=a.toList.take (p + c)++M++a.toList.drop (p + c + M.length)
 | [],p,c,a,h=>by simp
 | e::M,p,c,a,h=>by
  rw[List.zipIdx_cons,List.foldl_cons];simp only[Pq] at h;have ih:=lp M p (c + 1) (a.setIfInBounds (p + c) e) (by rw[Array.size_setIfInBounds];lia);rw[ih];have hs:(a.setIfInBounds (p + c) e).toList=a.toList.take (p + c)++[e]++a.toList.drop (p + c + 1):=by rw[Array.toList_setIfInBounds];rw[List.set_eq_take_append_cons_drop];rw[if_pos (by simp;lia)];simp
  have hl:(a.toList.take (p + c)++[e]).length=p + c + 1:=by simp;lia
  rw[hs];have e1:(a.toList.take (p + c)++[e]++a.toList.drop (p + c + 1)).take (p + (c + 1))=a.toList.take (p + c)++[e]:=by rw[show p + (c + 1)=(a.toList.take (p + c)++[e]).length by lia,List.take_left]
  have e2:(a.toList.take (p + c)++[e]++a.toList.drop (p + c + 1)).drop (p + (c + 1) + M.length)=a.toList.drop (p + c + (e::M).length):=by
   rw[show p + (c + 1) + M.length=(a.toList.take (p + c)++[e]).length + M.length by lia,List.drop_append,List.drop_of_length_le (Nat.le_add_right _ _),List.nil_append,Nat.add_sub_cancel_left,List.drop_drop];congr 1;simp only[Pq]
   lia
  rw[e1,e2];simp
section
variable {O:KeyOrd} {ky:Keyed->O.α} {Mem:Keyed->Prop}
variable {prog:Program} {w:World} {A:Around} {E:Value->Shared->Prop} {κ:SortKind} {s:Shared}
theorem xx {t st:SortSt} {Q:PUnit->SortSt->Shared->Prop} (h:Q ⟨⟩ t s):kasC (model prog w) A E (set t:StateT SortSt Sem PUnit) Q st s:=by unfold kasC;rw[StateT.run_set];exact O6 h
theorem er (n1 n2 pw z:Nat):((#[(0,n1,pw),(n1,n2,z)]:Array (Nat×Nat×Nat)).setIfInBounds 0 (0,n1 + n2,pw)).eraseIdxIfInBounds (0 + 1)=#[(0,n1 + n2,pw)]:=by simp[Array.eraseIdxIfInBounds]
end
noncomputable def aL (lo n m:Nat):StateT SortSt Sem AscSt:=
 forIn [n:m] ((none,n):AscSt) λ_ r=>do
  let x<-ltAt' (lo + r.2) (lo + r.2 - 1)
  match x with
  | some c=>if c=true then pure (.done (none,r.2)) else pure (.yield (none,r.2 + 1))
  | _=>pure (.done (some none,r.2))
noncomputable def t3 (lo n m:Nat):StateT SortSt Sem (Option Nat):=do
 reverseSlice' lo (lo + n)
 let r<-aL lo n m
 match r.1 with
 | some v=>pure v
 | none=>pure (some r.2)
noncomputable def dL (lo n m:Nat):StateT SortSt Sem DescSt:=
 forIn [n:m] ((none,n,0):DescSt) λ_ r=>do
  let x<-ltAt' (lo + r.2.1) (lo + r.2.1 - 1)
  match x with
  | some c=>
   if c=true then
    if r.2.2 > 0 then do
     reverseSlice' (lo + r.2.1 - (r.2.2 + 1)) (lo + r.2.1)
     pure (.yield (none,r.2.1 + 1,0))
    else pure (.yield (none,r.2.1 + 1,0))
   else do
    let y<-ltAt' (lo + r.2.1 - 1) (lo + r.2.1)
    match y with
    | some d=>if d=true then pure (.done (none,r.2.1,r.2.2)) else pure (.yield (none,r.2.1 + 1,r.2.2 + 1))
    | _=>pure (.done (some none,r.2.1,r.2.2))
  | _=>pure (.done (some none,r.2.1,r.2.2))
noncomputable def dP (lo n m:Nat):StateT SortSt Sem (Option Nat):=do
 rule "list.sort.descending-run"
 let r<-dL lo (n + 1) m
 match r.1 with
 | some v=>pure v
 | none=>
  if r.2.2 > 0 then do
   reverseSlice' (lo + r.2.1 - (r.2.2 + 1)) (lo + r.2.1)
   t3 lo r.2.1 m
  else t3 lo r.2.1 m
noncomputable def cR (lo m:Nat):StateT SortSt Sem (Option Nat):=do
 let r<-aL lo 1 m
 match r.1 with
 | some v=>pure v
 | none=>
  if (r.2==m)=true then pure (some r.2)
  else if r.2 > 1 then do
   let x<-ltAt' lo (lo + r.2 - 1)
   match x with
   | some c=>if c=true then pure (some r.2) else do
     reverseSlice' lo (lo + r.2)
     dP lo r.2 m
   | _=>pure none
  else dP lo r.2 m
theorem Fi (lo m:Nat):countRun' lo m=cR lo m:=by kernel_rfl
noncomputable def pL (lo k:Nat):StateT SortSt Sem (Option Bool×Nat×Nat):=
 forIn [:k] ((none,0,k):Option Bool×Nat×Nat) λ_ r=>
  if r.2.1>=r.2.2 then pure (.done (none,r.2.1,r.2.2)) else do
   let x<-ltAt' (lo + k) (lo + (r.2.1 + r.2.2) / 2)
   match x with
   | some c=>if c=true then pure (.yield (none,r.2.1,(r.2.1 + r.2.2) / 2)) else pure (.yield (none,(r.2.1 + r.2.2) / 2 + 1,r.2.2))
   | _=>pure (.done (some false,r.2.1,r.2.2))
noncomputable def bS (lo n ok:Nat):StateT SortSt Sem Bool:=do
 let r<-forIn [max ok 1:n] ((none,()):Option Bool×Unit) λk _=>do
  let r<-pL lo k
  match r.1 with
  | some v=>pure (.done (some v,()))
  | none=>do
   moveDown' (lo + k) (lo + r.2.1)
   pure (.yield (none,()))
 match r.1 with
 | some v=>pure v
 | none=>pure true
theorem Fb (lo n ok:Nat):binarySort' lo n ok=bS lo n ok:=by kernel_rfl
section
variable {O:KeyOrd} {ky:Keyed->O.α} {Mem:Keyed->Prop}
variable {prog:Program} {w:World} {A:Around} {E:Value->Shared->Prop} {κ:SortKind} {s:Shared}
theorem de {β:Type} {a b:Nat} {b0:β} {f:Nat->β->StateT SortSt Sem (ForInStep β)} {Q:β->SortSt->Shared->Prop} (Inv:Nat->β->SortSt->Prop) {cQ:SortSt} (h0:Inv a b0 cQ)
  (step:∀x c st,a<=x->x < b->Inv x c st->kasC (model prog w) A E (f x c) (λr ah s'=>s'=s/\match r with | .done b'=>Q b' ah s | .yield b'=>Inv (x + 1) b' ah) st s)
  (fin:∀c st,Inv (max a b) c st->Q c st s):kasC (model prog w) A E (forIn [a:b] b0 f) Q cQ s:=by
 have go:∀(n x:Nat) (c:β) (st:SortSt),x + n=max a b->a<=x->Inv x c st->kasC (model prog w) A E (forIn (List.range' x n) c f) Q st s:=by
  intro n
  induction n with
  | zero=>
   intro x c st hx hax hI;have e:x=max a b:=by lia
   subst e;exact kasC_nil (fin c st hI)
  | succ n ih=>
   intro x c st hx hax hI;rw[List.range'_succ];refine kasC_cons (wpAny_mono (step x c st hax (by lia) hI) (λr s' h'=>?_) λ_ _ e=>e);obtain⟨r,ah⟩:=r;obtain⟨rfl,h'⟩:=h';cases r with
   | done b'=>exact h'
   | yield b'=>exact ih (x + 1) b' ah (by lia) (by lia) h'
 exact kasC_range (go (b - a) a b0 cQ (by lia) (Pd _) h0)
structure Bs (κ:SortKind) (P:Array (Nat×Nat×Nat)) (lo:Nat) (b:Array Keyed) (st:SortSt):Prop where
 k:kindOf st=κ
 f:failedOf st=none
 p:pendingOf st=P
 pm:(arrOf st).toList.Perm b.toList
 lw:∀i,i < lo->kas_item (arrOf st) i=kas_item b i
variable {P:Array (Nat×Nat×Nat)} {lo:Nat} {b:Array Keyed}
theorem Bs.size {st:SortSt} (h:Bs κ P lo b st):(arrOf st).size=b.size:=by have:=h.pm.length_eq;simpa using this
theorem Bs.mem {st:SortSt} (h:Bs κ P lo b st) (hb:∀x∈b.toList,Mem x) {i:Nat} (hi:i < b.size):Mem (kas_item (arrOf st) i):=by
 have Bz:i < (arrOf st).size:=by rw[h.size];exact hi
 refine hb _ (h.pm.mem_iff.mp ?_);have e:kas_item (arrOf st) i=(arrOf st)[i]:=by unfold kas_item;simp[Array.getD,Bz]
 rw[e];simp
theorem hV {p q:Array Keyed} {i j:Nat} (h:p[i]?=q[j]?):kas_item p i=kas_item q j:=by unfold kas_item;rw[Array.getD_eq_getD_getElem?,Array.getD_eq_getD_getElem?,h]
theorem ia {a:Array Keyed} {i j:Nat} (hj:j<=a.size) (k:Nat):kas_item (mirror a i j ((j - i) / 2)) k=if i<=k/\k < j then kas_item a (i + j - 1 - k) else kas_item a k:=by
 have e:=getElem?_mirror_all (i:=i) hj k;by_cases h1:i<=k/\k < j
 ·rw[if_pos h1] at e ⊢;exact hV e
 ·rw[if_neg h1] at e ⊢;exact hV e
theorem j6 {a:Array Keyed} {src d:Nat} (hs:src < a.size) (hd:d<=src) (k:Nat):
  kas_item (bubble a src d) k=if k=src - d then kas_item a src else if src - d < k/\k<=src then kas_item a (k - 1) else kas_item a k:=by
 have e:=getElem?_bubble hs d hd k;by_cases h1:k=src - d
 ·rw[if_pos h1] at e ⊢;exact hV e
 ·rw[if_neg h1] at e ⊢;by_cases h2:src - d < k/\k<=src
  ·rw[if_pos h2] at e ⊢;exact hV e
  ·rw[if_neg h2] at e ⊢;exact hV e
theorem Bs.rev {st:SortSt} (h:Bs κ P lo b st) {i j:Nat} (hi:lo<=i) (hj:j<=b.size):Bs κ P lo b (setArr st (mirror (arrOf st) i j ((j - i) / 2))):=
 ⟨h.k,h.f,h.p,(Array.perm_iff_toList_perm.mp (mirror_perm _ _ _ _)).trans h.pm,λk hk=>by
  have:=ia (a:=arrOf st) (i:=i) (j:=j) (by rw[h.size];exact hj) k;rw[if_neg (by lia)] at this;exact this.trans (h.lw k hk)⟩
theorem Bs.M3 {st:SortSt} (h:Bs κ P lo b st) {c d:Nat} (hs:c < b.size) (hd:lo + d<=c):Bs κ P lo b (setArr st (bubble (arrOf st) c d)):=
 ⟨h.k,h.f,h.p,(Array.perm_iff_toList_perm.mp (bubble_perm _ _ _)).trans h.pm,λk hk=>by
  have:=j6 (a:=arrOf st) (src:=c) (d:=d) (by rw[h.size];exact hs) (by lia) k;rw[if_neg (by lia),if_neg (by lia)] at this;exact this.trans (h.lw k hk)⟩
theorem ie (T:Tells prog w A κ s O ky Mem) (hb:∀x∈b.toList,Mem x) {st:SortSt} (h:Bs κ P lo b st) {i j:Nat} (hi:i < b.size) (hj:j < b.size) {Q:Option Bool->SortSt->Shared->Prop}
  (q:Q (some (O.blt (ky (kas_item (arrOf st) i)) (ky (kas_item (arrOf st) j)))) st s):kasC (model prog w) A E (ltAt' i j) Q st s:=by
 rw[ltAt'_eq];refine Pc (kasC_get ?_);dsimp only;exact Pc (aP (aB (by rw[h.size];exact hi)) (Pc (aP (aB (by rw[h.size];exact hj)) (oV T (h.mem hb hi) (h.mem hb hj) h.k q))))
noncomputable def Up (O:KeyOrd) (ky:Keyed->O.α) (lo:Nat) (a:Array Keyed) (n:Nat):Prop:=∀i j,lo<=i->i<=j->j < lo + n->O.kle (ky (kas_item a i)) (ky (kas_item a j))
noncomputable def Dn (O:KeyOrd) (ky:Keyed->O.α) (lo:Nat) (a:Array Keyed) (n:Nat):Prop:=∀i j,lo<=i->i<=j->j < lo + n->O.kle (ky (kas_item a j)) (ky (kas_item a i))
noncomputable def Je (O:KeyOrd) (ky:Keyed->O.α) (lo:Nat) (a:Array Keyed) (n q:Nat):Prop:=∀k,lo + n - (q + 1)<=k->k < lo + n->ky (kas_item a k)=ky (kas_item a (lo + n - 1))
theorem Up.succ {a:Array Keyed} {n:Nat} (h:Up O ky lo a n) (h1:1<=n) (h2:O.kle (ky (kas_item a (lo + n - 1))) (ky (kas_item a (lo + n)))):Up O ky lo a (n + 1):=λi j hi fN hj=>by
 by_cases e:j=lo + n
 ·subst e;by_cases e2:i=lo + n
  ·subst e2;exact KeyOrd.kle_refl _
  ·exact PC (h i (lo + n - 1) hi (by lia) (by lia)) h2
 ·exact h i j hi fN (by lia)
theorem Dn.succ {a:Array Keyed} {n:Nat} (h:Dn O ky lo a n) (h1:1<=n) (h2:O.kle (ky (kas_item a (lo + n))) (ky (kas_item a (lo + n - 1)))):Dn O ky lo a (n + 1):=λi j hi fN hj=>by
 by_cases e:j=lo + n
 ·subst e;by_cases e2:i=lo + n
  ·subst e2;exact KeyOrd.kle_refl _
  ·exact PC h2 (h i (lo + n - 1) hi (by lia) (by lia))
 ·exact h i j hi fN (by lia)
theorem Dn.of {a c:Array Keyed} {n:Nat} (e:∀k,ky (kas_item c k)=ky (kas_item a k)) (h:Dn O ky lo a n):Dn O ky lo c n:=λi j x y z=>by rw[e,e];exact h i j x y z
theorem Up.one (a:Array Keyed):Up O ky lo a 1:=λi j x y z=>by rw[show i=j by lia];exact KeyOrd.kle_refl _
theorem Dn.one (a:Array Keyed):Dn O ky lo a 1:=λi j x y z=>by rw[show i=j by lia];exact KeyOrd.kle_refl _
theorem wu {a:Array Keyed} {i j:Nat} (hj:j<=a.size) (he:∀k,i<=k->k < j->ky (kas_item a k)=ky (kas_item a (j - 1))) (k:Nat):ky (kas_item (mirror a i j ((j - i) / 2)) k)=ky (kas_item a k):=by
 rw[ia hj];split
 ·rename_i h;rw[he (i + j - 1 - k) (by lia) (by lia),he k h.1 h.2]
 ·rfl
theorem yG {a:Array Keyed} {n:Nat} (hn:lo + n<=a.size) (h:Dn O ky lo a n):Up O ky lo (mirror a lo (lo + n) ((lo + n - lo) / 2)) n:=λi j hi fN hj=>by rw[ia hn,ia hn,if_pos (by lia),if_pos (by lia)];exact h _ _ (by lia) (by lia) (by lia)
theorem Bl (T:Tells prog w A κ s O ky Mem) (hb:∀x∈b.toList,Mem x) {st:SortSt} (h:Bs κ P lo b st) {n m:Nat} (hz:lo + m<=b.size) (h1:1<=n) (hn:n<=m) (hu:Up O ky lo (arrOf st) n) {Q:AscSt->SortSt->Shared->Prop}
  (q:∀k,n<=k->k<=m->Up O ky lo (arrOf st) k->(k < m->O.blt (ky (kas_item (arrOf st) (lo + k))) (ky (kas_item (arrOf st) (lo + k - 1)))=true)->Q (none,k) st s):kasC (model prog w) A E (aL lo n m) Q st s:=by
 unfold aL;refine de (λx r ah=>st=ah/\r=(none,x)/\Up O ky lo (arrOf st) x) ⟨rfl,rfl,hu⟩ (λx r ah hx1 Ac hI=>?_) (λr ah hI=>?_)
 ·obtain⟨rfl,rfl,hu⟩:=hI;dsimp only;refine Pc (ie T hb h (by lia) (by lia) ?_);dsimp only;cases c:O.blt (ky (kas_item (arrOf st) (lo + x))) (ky (kas_item (arrOf st) (lo + x - 1))) with
  | true=>rw[if_pos rfl];exact Pg ⟨rfl,q x hx1 (by lia) hu λ_=>c⟩
  | false=>rw[if_neg (by simp)];exact Pg ⟨rfl,rfl,rfl,hu.succ (by lia) c⟩
 ·obtain⟨rfl,rfl,hu⟩:=hI;rw[show max n m=m by lia] at hu ⊢;exact q m hn (Pd _) hu λz=>absurd z (by lia)
theorem nE {i j:Nat} {st:SortSt} {Q:Unit->SortSt->Shared->Prop} (q:Q () (setArr st (mirror (arrOf st) i j ((j - i) / 2))) s):kasC (model prog w) A E (reverseSlice' i j) Q st s:=by rw[reverseSlice'_eq];exact kasC_modify q
theorem Fo (T:Tells prog w A κ s O ky Mem) (hb:∀x∈b.toList,Mem x) {st:SortSt} (h:Bs κ P lo b st) {n m:Nat} (hz:lo + m<=b.size) (h1:1<=n) (hn:n<=m) (hd:Dn O ky lo (arrOf st) n) {Q:DescSt->SortSt->Shared->Prop}
  (q:∀ah k e,Bs κ P lo b ah->n<=k->k<=m->e + 1<=k->Dn O ky lo (arrOf ah) k->Je O ky lo (arrOf ah) k e->Q (none,k,e) ah s):kasC (model prog w) A E (dL lo n m) Q st s:=by
 unfold dL;have one:∀(a:Array Keyed) (k:Nat),1<=k->Je O ky lo a k 0:=λa k hk j x y=>by rw[show j=lo + k - 1 by lia]
 refine de (λx r ah=>∃e,r=(none,x,e)/\Bs κ P lo b ah/\e + 1<=x/\Dn O ky lo (arrOf ah) x/\Je O ky lo (arrOf ah) x e) ⟨0,rfl,h,by lia,hd,one _ _ h1⟩ (λx r ah hx1 Ac hI=>?_) (λr ah hI=>?_)
 ·obtain⟨e,rfl,h,he,hd,hq⟩:=hI;have g0:=h.size;dsimp only;refine Pc (ie T hb h (by lia) (by lia) ?_);dsimp only;cases c:O.blt (ky (kas_item (arrOf ah) (lo + x))) (ky (kas_item (arrOf ah) (lo + x - 1))) with
  | true=>
   rw[if_pos rfl];have qD:=hd.succ (by lia) (KeyOrd.kle_of_klt c);by_cases d:e > 0
   ·rw[if_pos d];refine Pc (nE (Pg ⟨rfl,0,rfl,h.rev (by lia) (by lia),by lia,?_,one _ _ (by lia)⟩));exact Dn.of (wu (by lia) hq) qD
   ·rw[if_neg d];exact Pg ⟨rfl,0,rfl,h,by lia,qD,one _ _ (by lia)⟩
  | false=>
   rw[if_neg (by simp)];refine Pc (ie T hb h (by lia) (by lia) ?_);dsimp only;cases d:O.blt (ky (kas_item (arrOf ah) (lo + x - 1))) (ky (kas_item (arrOf ah) (lo + x))) with
   | true=>rw[if_pos rfl];exact Pg ⟨rfl,q ah x e h hx1 (by lia) he hd hq⟩
   | false=>
    rw[if_neg (by simp)];have heq:ky (kas_item (arrOf ah) (lo + x))=ky (kas_item (arrOf ah) (lo + x - 1)):=O.total _ _ c d;refine Pg ⟨rfl,e + 1,rfl,h,by lia,hd.succ (by lia) (by rw[heq];exact KeyOrd.kle_refl _),λk k1 k2=>?_⟩;rw[show lo + (x + 1) - 1=lo + x by lia];by_cases z:k=lo + x
    ·rw[z]
    ·rw[hq k (by lia) (by lia),heq]
 ·obtain⟨e,rfl,h,he,hd,hq⟩:=hI;rw[show max n m=m by lia] at hd hq he ⊢;exact q ah m e h hn (Pd _) he hd hq
theorem BQ (T:Tells prog w A κ s O ky Mem) (hb:∀x∈b.toList,Mem x) {st:SortSt} (h:Bs κ P lo b st) {n m:Nat} (hz:lo + m<=b.size) (h1:1<=n) (hn:n<=m) (hd:Dn O ky lo (arrOf st) n) {Q:Option Nat->SortSt->Shared->Prop}
  (q:∀ah k,Bs κ P lo b ah->1<=k->k<=m->Up O ky lo (arrOf ah) k->Q (some k) ah s):kasC (model prog w) A E (t3 lo n m) Q st s:=by
 unfold t3;have g0:=h.size;refine Pc (nE (Pc (Bl T hb (h.rev (Pd _) (by lia)) hz h1 hn (yG (by lia) hd) λk k1 k2 ku _=>?_)));exact Pg (q _ k (h.rev (Pd _) (by lia)) (by lia) k2 ku)
theorem Bo (T:Tells prog w A κ s O ky Mem) (hb:∀x∈b.toList,Mem x) {st:SortSt} (h:Bs κ P lo b st) {n m:Nat} (hz:lo + m<=b.size) (h1:1<=n) (hn:n + 1<=m) (hd:Dn O ky lo (arrOf st) (n + 1)) {Q:Option Nat->SortSt->Shared->Prop}
  (q:∀ah k,Bs κ P lo b ah->1<=k->k<=m->Up O ky lo (arrOf ah) k->Q (some k) ah s):kasC (model prog w) A E (dP lo n m) Q st s:=by
 unfold dP;refine Pc (kasC_lift (wpAny_rule ?_));refine Pc (Fo T hb h hz (by lia) hn hd λah k e h' k1 k2 ke kd kq=>?_);dsimp only;have g0:=h'.size;by_cases d:e > 0
 ·rw[if_pos d];exact Pc (nE (BQ T hb (h'.rev (by lia) (by lia)) hz (by lia) k2 (Dn.of (wu (by lia) kq) kd) q))
 ·rw[if_neg d];exact BQ T hb h' hz (by lia) k2 kd q
theorem Fj (T:Tells prog w A κ s O ky Mem) (hb:∀x∈b.toList,Mem x) {st:SortSt} (h:Bs κ P lo b st) {m:Nat} (hz:lo + m<=b.size) (h1:1<=m) {Q:Option Nat->SortSt->Shared->Prop}
  (q:∀ah k,Bs κ P lo b ah->1<=k->k<=m->Up O ky lo (arrOf ah) k->Q (some k) ah s):kasC (model prog w) A E (countRun' lo m) Q st s:=by
 rw[Fi];unfold cR;have g0:=h.size;refine Pc (Bl T hb h hz (Pd _) h1 (Up.one _) λn n1 n2 nu nl=>?_);dsimp only;by_cases e:(n==m)=true
 ·rw[if_pos e];exact Pg (q _ n h n1 n2 nu)
 ·rw[if_neg e];have e':n≠m:=by simpa using e
  have bX:=nl (by lia);by_cases hn:n > 1
  ·rw[if_pos hn];refine Pc (ie T hb h (by lia) (by lia) ?_);dsimp only;cases c:O.blt (ky (kas_item (arrOf st) lo)) (ky (kas_item (arrOf st) (lo + n - 1))) with
   | true=>rw[if_pos rfl];exact Pg (q _ n h n1 n2 nu)
   | false=>
    rw[if_neg (by simp)];have all:∀k,lo<=k->k < lo + n->ky (kas_item (arrOf st) k)=ky (kas_item (arrOf st) (lo + n - 1)):=λk k1 k2=>by refine KeyOrd.kle_antisymm (nu k (lo + n - 1) k1 (by lia) (by lia)) (PC (show O.kle (ky (kas_item (arrOf st) (lo + n - 1))) (ky (kas_item (arrOf st) lo)) from c) (nu lo k (Pd _) k1 k2))
    refine Pc (nE (Bo T hb (h.rev (Pd _) (by lia)) hz n1 (by lia) (Dn.of (wu (by lia) all) (Dn.succ (λi j hi fN hj=>?_) n1 (KeyOrd.kle_of_klt bX))) q));rw[all i hi (by lia),all j (by lia) hj];exact KeyOrd.kle_refl _
  ·rw[if_neg hn];have e1:n=1:=by lia
   subst e1;exact Bo T hb h hz n1 (by lia) (Dn.succ (Dn.one _) n1 (KeyOrd.kle_of_klt bX)) q
theorem GQ (T:Tells prog w A κ s O ky Mem) (hb:∀x∈b.toList,Mem x) {st:SortSt} (h:Bs κ P lo b st) {k:Nat} (hz:lo + k < b.size) (hu:Up O ky lo (arrOf st) k) {Q:Option Bool×Nat×Nat->SortSt->Shared->Prop}
  (q:∀l r,l<=k->(∀i,lo<=i->i < lo + l->O.kle (ky (kas_item (arrOf st) i)) (ky (kas_item (arrOf st) (lo + k))))->(∀i,lo + l<=i->i < lo + k->O.klt (ky (kas_item (arrOf st) (lo + k))) (ky (kas_item (arrOf st) i)))->Q (none,l,r) st s):kasC (model prog w) A E (pL lo k) Q st s:=by
 unfold pL;refine de (λx c ah=>st=ah/\∃l r,c=(none,l,r)/\l<=r/\r<=k/\r - l<=k - x/\(∀i,lo<=i->i < lo + l->O.kle (ky (kas_item (arrOf st) i)) (ky (kas_item (arrOf st) (lo + k))))/\(∀i,lo + r<=i->i < lo + k->O.klt (ky (kas_item (arrOf st) (lo + k))) (ky (kas_item (arrOf st) i))))
  ⟨rfl,0,k,rfl,by lia,by lia,by lia,λi a c=>absurd a (by lia),λi a c=>absurd a (by lia)⟩ (λx r ah hx1 Ac hI=>?_) (λr ah hI=>?_)
 ·obtain⟨rfl,l,r,rfl,lr,rk,rl,mT,zd⟩:=hI;dsimp only;by_cases c:l>=r
  ·rw[if_pos c];have e:l=r:=by lia
   subst e;exact Pg ⟨rfl,q l l rk mT zd⟩
  ·rw[if_neg c];refine Pc (ie T hb h (by lia) (by lia) ?_);dsimp only;cases d:O.blt (ky (kas_item (arrOf st) (lo + k))) (ky (kas_item (arrOf st) (lo + (l + r) / 2))) with
   | true=>rw[if_pos rfl];exact Pg ⟨rfl,rfl,l,(l + r) / 2,rfl,by lia,by lia,by lia,mT,λi i1 i2=>KeyOrd.klt_of_klt_of_kle d (hu _ _ (by lia) i1 i2)⟩
   | false=>rw[if_neg (by simp)];exact Pg ⟨rfl,rfl,(l + r) / 2 + 1,r,rfl,by lia,by lia,by lia,λi i1 i2=>PC (hu i (lo + (l + r) / 2) i1 (by lia) (by lia)) d,zd⟩
 ·obtain⟨rfl,l,r,rfl,lr,rk,rl,mT,zd⟩:=hI;have e:l=r:=by lia
  subst e;exact q l l rk mT zd
theorem Fc (T:Tells prog w A κ s O ky Mem) (hb:∀x∈b.toList,Mem x) {st:SortSt} (h:Bs κ P lo b st) {n k:Nat} (hz:lo + n<=b.size) (h1:1<=k) (hk:k<=n) (hu:Up O ky lo (arrOf st) k) {Q:Bool->SortSt->Shared->Prop}
  (q:∀ah,Bs κ P lo b ah->Up O ky lo (arrOf ah) n->Q true ah s):kasC (model prog w) A E (binarySort' lo n k) Q st s:=by
 rw[Fb];unfold bS;refine Pc (de (λx c ah=>c=(none,())/\Bs κ P lo b ah/\Up O ky lo (arrOf ah) x) ⟨rfl,h,by rw[show max k 1=k by lia];exact hu⟩ (λx r ah hx1 Ac hI=>?_) (λr ah hI=>?_))
 ·obtain⟨rfl,h,hu⟩:=hI;have g0:=h.size;refine Pc (GQ T hb h (by lia) hu λl r hl mT zd=>?_);dsimp only;rw[moveDown'_eq];refine Pc (kasC_modify (Pg ⟨rfl,rfl,h.M3 (by lia) (by lia),λi j hi fN hj=>?_⟩));show O.kle (ky (kas_item (bubble (arrOf ah) (lo + x) (lo + x - (lo + l))) i)) (ky (kas_item (bubble (arrOf ah) (lo + x) (lo + x - (lo + l))) j));rw[j6 (by lia) (by lia),j6 (by lia) (by lia),show lo + x - (lo + x - (lo + l))=lo + l by lia]
  repeat' split
  all_goals first
   | (exfalso;lia)
   | exact KeyOrd.kle_refl _
   | exact mT _ (by lia) (by lia)
   | exact KeyOrd.kle_of_klt (zd _ (by lia) (by lia))
   | exact hu _ _ (by lia) (by lia) (by lia)
 ·obtain⟨rfl,h,hu⟩:=hI;rw[show max (max k 1) n=n by lia] at hu;exact Pg (q _ h hu)
end
noncomputable def KZ (size pw:Nat):StateT SortSt Sem (Option Unit×Unit):=
 forIn [:size] ((none,()):Option Unit×Unit) λ_ _=>do
  let st<-get
  match (if (pendingOf st).size > 1 then(pendingOf st)[(pendingOf st).size - 2]? else none) with
  | some (_,_,older)=>
   if older<=pw then pure (.done (none,())) else do
    let ok<-Gw ((pendingOf st).size - 2)
    if (!ok)=true then pure (.done (some (),())) else pure (.yield (none,()))
  | _=>pure (.done (none,()))
noncomputable def Ib (size lo n:Nat):StateT SortSt Sem (ForInStep (Option Unit×Nat)):=do
 let st<-get
 match (pendingOf st).back? with
 | some (s1,n1,_)=>do
  let r<-KZ size (power' size (2 * s1 + n1) (2 * s1 + n1 + n1 + n) size)
  match r.1 with
  | some v=>pure (.done (some v,lo))
  | none=>do
   modify λs=>setPending s ((pendingOf s).modify ((pendingOf s).size - 1) λ(st,len,_)=>(st,len,power' size (2 * s1 + n1) (2 * s1 + n1 + n1 + n) size))
   modify λs=>setPending s ((pendingOf s).push (lo,n,0))
   pure (.yield (none,lo + n))
 | _=>do
  modify λs=>setPending s ((pendingOf s).push (lo,n,0))
  pure (.yield (none,lo + n))
noncomputable def Ho (size mr lo:Nat):StateT SortSt Sem (ForInStep (Option Unit×Nat)):=
 if lo>=size then pure (.done (none,lo)) else do
  let f<-countRun' lo (size - lo)
  match f with
  | some n=>
   if n < mr then do
    rule "list.sort.binary-insertion"
    let ok<-binarySort' lo (min (size - lo) mr) n
    if (!ok)=true then pure (.done (some (),lo)) else Ib size lo (min (size - lo) mr)
   else Ib size lo n
  | _=>pure (.done (some (),lo))
noncomputable def ix (p:Array (Nat×Nat×Nat)):Nat:=if (if p.size - 2 > 0 then p[p.size - 2 - 1]?.map (·.2.1) else none).any (· < (p[p.size - 2 + 1]?.elim 0 (·.2.1))) then p.size - 2 - 1 else p.size - 2
noncomputable def IF (size:Nat):StateT SortSt Sem (Option Unit×Unit):=
 forIn [:size] ((none,()):Option Unit×Unit) λ_ _=>do
  let st<-get
  if (pendingOf st).size<=1 then pure (.done (none,())) else do
   let ok<-Gw (ix (pendingOf st))
   if (!ok)=true then pure (.done (some (),())) else pure (.yield (none,()))
noncomputable def sR:StateT SortSt Sem Unit:=do
 let st<-get
 let r<-forIn [:(arrOf st).size] ((none,0):Option Unit×Nat) λ_ r=>Ho (arrOf st).size (minRun' (arrOf st).size (arrOf st).size 0) r.2
 match r.1 with
 | some v=>pure v
 | none=>do
  let r<-IF (arrOf st).size
  match r.1 with
  | some v=>pure v
  | none=>pure ()
theorem G2:sortRuns'=sR:=by kernel_rfl
section
variable {O:KeyOrd} {ky:Keyed->O.α} {Mem:Keyed->Prop}
variable {prog:Program} {w:World} {A:Around} {E:Value->Shared->Prop} {κ:SortKind} {s:Shared} {a:Array Keyed}
theorem Up.iY {b:Array Keyed} {n:Nat} (hn:b.size=n) (h:Up O ky 0 b n):gO O ky b.toList:=by
 refine List.pairwise_iff_getElem.mpr λi j hi hj fN=>?_
 have e:∀k,(h:k < b.size)->kas_item b k=b.toList[k]'(by simpa using h):=λk h=>by unfold kas_item;simp[Array.getD,h]
 have ze:j < b.size:=by simpa using hj
 rw[<-e i (by lia),<-e j ze];exact h i j (by lia) (by lia) (by lia)
end
section
variable {O:KeyOrd} {ky:Keyed->O.α} {Mem:Keyed->Prop}
variable {prog:Program} {w:World} {A:Around} {E:Value->Shared->Prop} {κ:SortKind} {s:Shared}
theorem item_list (b:Array Keyed) (t:Nat):kas_item b t=b.toList.getD t (Value.none,Value.none):=by unfold kas_item;simp[Array.getD,List.getD];split <;> simp_all
theorem Eg {l:List Keyed} (h:gO O ky l) {i j:Nat} (fN:i<=j) (hj:j < l.length):le O ky (l.getD i (Value.none,Value.none)) (l.getD j (Value.none,Value.none)):=by
 rcases Nat.lt_or_ge i j with c | c
 ·have:=List.pairwise_iff_getElem.mp h i j (by lia) hj c;rw[List.getD_eq_getElem?_getD,List.getD_eq_getElem?_getD,Px hj,Px (by lia)];exact this
 ·have e:i=j:=by lia
  subst e;exact KeyOrd.kle_refl _
theorem wJ {l m:List Keyed} {d:Keyed} {i:Nat} (h:i < l.length):(l++m).getD i d=l.getD i d:=by rw[List.getD_eq_getElem?_getD,List.getD_eq_getElem?_getD,PZ h]
theorem wK {l m:List Keyed} {d:Keyed} {i:Nat} (h:l.length<=i):(l++m).getD i d=m.getD (i - l.length) d:=by rw[List.getD_eq_getElem?_getD,List.getD_eq_getElem?_getD,P0 h]
theorem KI (T:Tells prog w A κ s O ky Mem) {a:Array Keyed} {P:Array (Nat×Nat×Nat)} {i p n1 n2 pw z g:Nat} (Nt:P[i]?=some (p,n1,pw)) (FE:P[i + 1]?=some (p + n1,n2,z)) (g0:p + n1 + n2<=a.size) (h1:1<=n1) (h2:1<=n2) (hm:∀i,i < a.size->Mem (kas_item a i))
  (sA:∀i j,p<=i->i<=j->j < p + n1->le O ky (kas_item a i) (kas_item a j)) (sB:∀i j,p + n1<=i->i<=j->j < p + n1 + n2->le O ky (kas_item a i) (kas_item a j))
  {Q:Bool->SortSt->Shared->Prop} (q:∀ah:SortSt,kindOf ah=κ->pendingOf ah=(P.setIfInBounds i (p,n1 + n2,pw)).eraseIdxIfInBounds (i + 1)->failedOf ah=none->(arrOf ah).toList.Perm a.toList->Up O ky p (arrOf ah) (n1 + n2)->
   (∀t,t < p\/p + n1 + n2<=t->kas_item (arrOf ah) t=kas_item a t)->Q true ah s):
  kasC (model prog w) A E (Gw i) Q (SortSt.mk' κ a P g none) s:=by
 rw[Dd];refine Pc (kasC_get ?_);dsimp only;have e0:(pendingOf (SortSt.mk' κ a P g none))[i]?=some (p,n1,pw):=Nt;have e1:(pendingOf (SortSt.mk' κ a P g none))[i + 1]?=some (p + n1,n2,z):=FE;rw[e0,e1];dsimp only;refine Pc (xx ?_);refine Pc (aP (aB (x:=a) (show p + n1 < a.size by lia)) (Pc ?_));refine iL T (λt=>kas_item a (p + t)) (λt ht=>aB (x:=a) (by lia)) (λt ht=>hm _ (by lia)) (hm (p + n1) (by lia)) (by lia) (λi j fN hj hb=>?_) rfl (λk hk1 bX jh=>?_)
 ·unfold dw at hb ⊢;rw[if_neg (by simp)] at hb ⊢;have:=sA (p + i) (p + j) (by lia) (by lia) (by lia);cases zz:O.blt (ky (kas_item a (p + n1))) (ky (kas_item a (p + i))) with
  | false=>rfl
  | true=>have z2:O.blt (ky (kas_item a (p + n1))) (ky (kas_item a (p + j)))=true:=KeyOrd.klt_of_klt_of_kle zz this;have lL:(!O.blt (ky (kas_item a (p + n1))) (ky (kas_item a (p + j))))=true:=hb;rw[z2] at lL;cases lL
 have lo:∀t,p<=t->t < p + k->le O ky (kas_item a t) (kas_item a (p + n1)):=λt h0 ht=>by have zz:=bX (t - p) (by lia);unfold dw at zz;rw[if_neg (by simp)] at zz;have z2:(!O.blt (ky (kas_item a (p + n1))) (ky (kas_item a (p + (t - p)))))=true:=zz;rw[show p + (t - p)=t by lia] at z2;show O.blt (ky (kas_item a (p + n1))) (ky (kas_item a t))=false;simpa using z2
 have up:∀t,p + k<=t->t < p + n1->O.blt (ky (kas_item a (p + n1))) (ky (kas_item a t))=true:=λt h1 h2=>by have zz:=jh (t - p) (by lia) (by lia);unfold dw at zz;rw[if_neg (by simp)] at zz;have z2:(!O.blt (ky (kas_item a (p + n1))) (ky (kas_item a (p + (t - p)))))=false:=zz;rw[show p + (t - p)=t by lia] at z2;simpa using z2
 have yv:∀b:Array Keyed,(∀i j,i < j->j < b.size->le O ky (kas_item b i) (kas_item b j))->gO O ky b.toList:=λb hb=>by
  refine List.pairwise_iff_getElem.mpr λi j hi hj fN=>?_
  have e:∀k,(h:k < b.size)->kas_item b k=b.toList[k]'(by simpa using h):=λk h=>by unfold kas_item;simp[Array.getD,h]
  rw[<-e i (by simpa using hi),<-e j (by simpa using hj)];exact hb i j fN (by simpa using hj)
 dsimp only;by_cases c:(n1 - k==0)=true
 ·rw[if_pos c];have c':n1 - k=0:=by simpa using c
  refine Pg (q _ rfl rfl rfl (List.Perm.refl _) (λi j hi fN hj=>?_) λt _=>rfl);by_cases ci:j < p + n1
  ·exact sA i j hi fN ci
  ·by_cases cj:i < p + n1
   ·exact PC (lo i hi (by lia)) (sB (p + n1) j (Pd _) (by lia) (by lia))
   ·exact sB i j (by lia) (by lia) (by lia)
 ·rw[if_neg c];have c':¬n1 - k=0:=by simpa using c
  refine Pc (aP (aB (x:=a) (show p + k + (n1 - k) - 1 < a.size by lia)) (Pc ?_));have el:p + k + (n1 - k) - 1=p + n1 - 1:=by lia
  refine iL T (λt=>kas_item a (p + n1 + t)) (λt ht=>aB (x:=a) (by lia)) (λt ht=>hm _ (by lia)) (hm _ (by lia)) (by lia) (λi j fN hj hb=>?_) rfl (λm Kh hmlt hmge=>?_)
  ·unfold dw at hb ⊢;rw[if_pos rfl] at hb ⊢;exact KeyOrd.klt_of_kle_of_klt (sB (p + n1 + i) (p + n1 + j) (by lia) (by lia) (by lia)) hb
  have M1:∀t,p + n1<=t->t < p + n1 + m->O.blt (ky (kas_item a t)) (ky (kas_item a (p + n1 - 1)))=true:=λt h1 h2=>by have zz:=hmlt (t - (p + n1)) (by lia);unfold dw at zz;rw[if_pos rfl,el] at zz;have z2:O.blt (ky (kas_item a (p + n1 + (t - (p + n1))))) (ky (kas_item a (p + n1 - 1)))=true:=zz;rw[show p + n1 + (t - (p + n1))=t by lia] at z2;exact z2
  have LR:∀t,p + n1 + m<=t->t < p + n1 + n2->le O ky (kas_item a (p + n1 - 1)) (kas_item a t):=λt h1 h2=>by have zz:=hmge (t - (p + n1)) (by lia) (by lia);unfold dw at zz;rw[if_pos rfl,el] at zz;have z2:O.blt (ky (kas_item a (p + n1 + (t - (p + n1))))) (ky (kas_item a (p + n1 - 1)))=false:=zz;rw[show p + n1 + (t - (p + n1))=t by lia] at z2;exact z2
  have m0:m≠0:=λe=>by have z1:=LR (p + n1) (by lia) (by lia);have z2:=up (p + n1 - 1) (by lia) (by lia);exact KeyOrd.not_klt_of_kle z1 z2
  dsimp only;rw[if_neg (by simpa using m0)];have gx:∀t,t < n1 - k->kas_item (a.extract (p + k) (p + n1)) t=kas_item a (p + k + t):=λt ht=>by unfold kas_item;simp[Array.getD,show t < p + n1 - (p + k) by lia,show p + k + t < a.size by lia,show min (p + n1) a.size=p + n1 by lia]
  have gy:∀t,t < m->kas_item (a.extract (p + n1) (p + n1 + m)) t=kas_item a (p + n1 + t):=λt ht=>by unfold kas_item;simp[Array.getD,show p + n1 + t < a.size by lia,show min (p + n1 + m) a.size=p + n1 + m by lia,ht]
  have sx:(a.extract (p + k) (p + n1)).size=n1 - k:=by simp;lia
  have sy:(a.extract (p + n1) (p + n1 + m)).size=m:=by simp;lia
  have MM:MP O ky Mem (a.extract (p + k) (p + n1)) (a.extract (p + n1) (p + n1 + m)):=by
   refine⟨yv _ λi j fN hj=>?_,yv _ λi j fN hj=>?_,λi hi=>?_,λi hi=>?_,by lia,by lia,?_,λj hj=>?_⟩
   ·rw[gx i (by lia),gx j (by lia)];exact sA _ _ (by lia) (by lia) (by lia)
   ·rw[gy i (by lia),gy j (by lia)];exact sB _ _ (by lia) (by lia) (by lia)
   ·rw[gx i (by lia)];exact hm _ (by lia)
   ·rw[gy i (by lia)];exact hm _ (by lia)
   ·rw[gx 0 (by lia),gy 0 (by lia)];exact up (p + k) (Pd _) (by lia)
   ·rw[sx,gx (n1 - k - 1) (by lia),gy j (by lia),show p + k + (n1 - k - 1)=p + n1 - 1 by lia];exact M1 _ (by lia) (by lia)
  have lx:(a.extract (p + k) (p + n1)).toList=(a.toList.drop (p + k)).take (n1 - k):=by have:=sG a (k:=p + k) (i:=p + n1);rw[show p + n1 - (p + k)=n1 - k by lia] at this;exact this
  have ly:(a.extract (p + n1) (p + n1 + m)).toList=(a.toList.drop (p + n1)).take m:=jW a (p + n1) m;have fin:∀(v:Array Keyed) (ah:SortSt),kindOf ah=κ->arrOf ah=a->pendingOf ah=(P.setIfInBounds i (p,n1 + n2,pw)).eraseIdxIfInBounds (i + 1)->failedOf ah=none->p8 O ky (a.extract (p + k) (p + n1)).toList (a.extract (p + n1) (p + n1 + m)).toList v.toList->
    kasC (model prog w) A E (do
     modify λt=>SortSt.mk' (kindOf t) (back v (p + k) (arrOf t)) (pendingOf t) (gallopOf t) (failedOf t)
     let t<-get
     pure (failedOf t).isNone) Q ah s:=λv ah k1 k2 k3 k4 hv=>by
   refine Pc (kasC_modify (Pc (kasC_get (Pg ?_))));obtain⟨vp,vs⟩:=hv;have vl:v.toList.length=n1 - k + m:=by
    rw[vp.length_eq,Po];simp only[Pt]
    lia
   have bl:(back v (p + k) a).toList=a.toList.take (p + k)++v.toList++a.toList.drop (p + n1 + m):=by
    have:=lp v.toList (p + k) 0 a (by lia);unfold back;refine Eq.trans ?_ (this.trans ?_)
    ·rfl
    ·rw[Nat.add_zero,vl,show p + k + (n1 - k + m)=p + n1 + m by lia]
   have al:a.toList.length=a.size:=Pt;have Os:a.toList=a.toList.take (p + k)++((a.toList.drop (p + k)).take (n1 - k)++(a.toList.drop (p + n1)).take m)++a.toList.drop (p + n1 + m):=by have b1:=jN (l:=a.toList) (i:=p + n1) (k:=p + k) (by lia);rw[show p + n1 - (p + k)=n1 - k by lia] at b1;rw[Pm,Pm,<-cy (l:=a.toList) (i:=p + n1) (k:=m),<-b1,List.take_append_drop]
   have pm:(back v (p + k) a).toList.Perm a.toList:=by
    rw[bl]
    conv=>rhs;rw[Os]
    rw[lx,ly] at vp;exact((List.Perm.refl _).append vp).append (List.Perm.refl _)
   have KJ:∀e∈v.toList,(∃t,p + k<=t/\t < p + n1/\e=kas_item a t)\/(∃t,p + n1<=t/\t < p + n1 + m/\e=kas_item a t):=λe he=>by
    rw[lx,ly] at vp;rcases Pv.mp (vp.mem_iff.mp he) with he | he
    ·obtain⟨t,t1,t2,t3,rfl⟩:=aU he;exact .inl ⟨t,t1,by lia,rfl⟩
    ·obtain⟨t,t1,t2,t3,rfl⟩:=aU he;exact .inr ⟨t,t1,by lia,rfl⟩
   have EA:∀t,t < p + k->kas_item (back v (p + k) a) t=kas_item a t:=λt ht=>by rw[item_list,item_list,bl,Pm,wJ (by rw[List.length_take];lia)];rw[List.getD_eq_getElem?_getD,List.getD_eq_getElem?_getD,List.getElem?_take_of_lt ht]
   have at2:∀t,p + k<=t->t < p + n1 + m->kas_item (back v (p + k) a) t=v.toList.getD (t - (p + k)) (Value.none,Value.none):=λt h1 h2=>by
    have hl:(a.toList.take (p + k)).length=p + k:=by rw[List.length_take];lia
    rw[item_list,bl,Pm,wK (by lia),hl,wJ (by lia)]
   have Js:∀t,p + n1 + m<=t->kas_item (back v (p + k) a) t=kas_item a t:=λt h1=>by
    have hl:(a.toList.take (p + k)++v.toList).length=p + n1 + m:=by rw[Po,List.length_take];lia
    rw[item_list,item_list,bl,wK (by lia),hl];rw[List.getD_eq_getElem?_getD,List.getD_eq_getElem?_getD,List.getElem?_drop];congr 2
    lia
   have uS:∀t,p + k<=t->t < p + n1 + m->(∃u,p + k<=u/\u < p + n1/\kas_item (back v (p + k) a) t=kas_item a u)\/(∃u,p + n1<=u/\u < p + n1 + m/\kas_item (back v (p + k) a) t=kas_item a u):=λt h1 h2=>by rw[at2 t h1 h2];refine KJ _ ?_;rw[List.getD_eq_getElem?_getD,Px (by lia)];exact List.getElem_mem _
   have ss:Up O ky p (back v (p + k) a) (n1 + n2):=λi j hi fN hj=>by
    show le O ky (kas_item (back v (p + k) a) i) (kas_item (back v (p + k) a) j);by_cases c1:j < p + k
    ·rw[EA i (by lia),EA j c1];exact sA i j hi fN (by lia)
    by_cases c2:j < p + n1 + m
    ·by_cases c3:i < p + k
     ·rw[EA i c3];rcases uS j (by lia) c2 with ⟨u,u1,u2,e⟩ | ⟨u,u1,u2,e⟩
      ·rw[e];exact sA i u hi (by lia) u2
      ·rw[e];exact PC (lo i hi c3) (sB (p + n1) u (Pd _) u1 (by lia))
     ·rw[at2 i (by lia) (by lia),at2 j (by lia) c2];exact Eg vs (by lia) (by lia)
    ·rw[Js j (by lia)];by_cases c3:i < p + k
     ·rw[EA i c3];exact PC (lo i hi c3) (sB (p + n1) j (Pd _) (by lia) (by lia))
     by_cases c4:i < p + n1 + m
     ·rcases uS i (by lia) c4 with ⟨u,u1,u2,e⟩ | ⟨u,u1,u2,e⟩
      ·rw[e];exact PC (sA u (p + n1 - 1) (by lia) (by lia) (by lia)) (LR j (by lia) (by lia))
      ·rw[e];exact sB u j u1 (by lia) (by lia)
     ·rw[Js i (by lia)];exact sB i j (by lia) fN (by lia)
   have qq:=q (SortSt.mk' (kindOf ah) (back v (p + k) (arrOf ah)) (pendingOf ah) (gallopOf ah) (failedOf ah)) k1 k3 k4 (by rw[k2];exact pm) (by rw[k2];exact ss) (λt ht=>by
    show kas_item (back v (p + k) (arrOf ah)) t=_;rw[k2];rcases ht with ht | ht
    ·exact EA t (by lia)
    ·exact Js t (by lia))
   have e:(failedOf ah).isNone=true:=by rw[k4];rfl
   show Q (failedOf ah).isNone _ s;rw[e];exact qq
  by_cases d:n1 - k<=m
  ·rw[if_pos d];refine Pc (Au T MM rfl λv ah si hv=>?_);exact fin v ah si.1 si.2.1 si.2.2.1 si.2.2.2 hv
  ·rw[if_neg d];refine Pc (Ar T MM rfl λv ah si hv=>?_);exact fin v ah si.1 si.2.1 si.2.2.1 si.2.2.2 hv
end
section
variable {O:KeyOrd} {ky:Keyed->O.α} {Mem:Keyed->Prop}
variable {prog:Program} {w:World} {A:Around} {E:Value->Shared->Prop} {κ:SortKind} {s:Shared} {a:Array Keyed}
noncomputable def Rn (O:KeyOrd) (ky:Keyed->O.α) (b:Array Keyed):List (Nat×Nat×Nat)->Nat->Nat->Prop
 | [],lo,hi=>lo=hi
 | x::r,lo,hi=>x.1=lo/\1<=x.2.1/\Up O ky lo b x.2.1/\Rn O ky b r (lo + x.2.1) hi
theorem Rn.le {b:Array Keyed}:∀{l:List (Nat×Nat×Nat)} {lo hi:Nat},Rn O ky b l lo hi->lo + l.length<=hi
 | [],lo,hi,h=>by have h:lo=hi:=h;simp;lia
 | x::r,lo,hi,h=>by
  obtain⟨_,h2,_,h4⟩:=h;have:=Rn.le h4;simp only[Pq]
  lia
theorem Rn.app {b:Array Keyed}:∀{l m:List (Nat×Nat×Nat)} {lo hi:Nat},Rn O ky b (l++m) lo hi↔∃k,Rn O ky b l lo k/\Rn O ky b m k hi
 | [],m,lo,hi=>⟨λh=>⟨lo,rfl,h⟩,λ⟨k,h1,h2⟩=>by have h1:lo=k:=h1;subst h1;exact h2⟩
 | x::r,m,lo,hi=>by
  constructor
  ·rintro⟨h1,h2,h3,h4⟩;obtain⟨k,k1,k2⟩:=Rn.app.mp h4;exact⟨k,⟨h1,h2,h3,k1⟩,k2⟩
  ·rintro⟨k,⟨h1,h2,h3,h4⟩,k2⟩;exact⟨h1,h2,h3,Rn.app.mpr ⟨k,h4,k2⟩⟩
theorem Rn.congr {b c:Array Keyed}:∀{l:List (Nat×Nat×Nat)} {lo hi:Nat},Rn O ky b l lo hi->(∀t,lo<=t->t < hi->kas_item c t=kas_item b t)->Rn O ky c l lo hi
 | [],lo,hi,h,_=>h
 | x::r,lo,hi,⟨h1,h2,h3,h4⟩,e=>by have hl:=Rn.le h4;refine⟨h1,h2,λi j hi fN hj=>?_,Rn.congr h4 λt a b=>e t (by lia) b⟩;rw[e i (by lia) (by lia),e j (by lia) (by lia)];exact h3 i j hi fN hj
structure Ru (O:KeyOrd) (ky:Keyed->O.α) (κ:SortKind) (a:Array Keyed) (lo:Nat) (st:SortSt):Prop where
 k:kindOf st=κ
 f:failedOf st=none
 pm:(arrOf st).toList.Perm a.toList
 rn:Rn O ky (arrOf st) (pendingOf st).toList 0 lo
theorem Ru.size {lo:Nat} {st:SortSt} (h:Ru O ky κ a lo st):(arrOf st).size=a.size:=by have:=h.pm.length_eq;simpa using this
theorem Ru.mem {lo:Nat} {st:SortSt} (h:Ru O ky κ a lo st) (hb:∀x∈a.toList,Mem x) {i:Nat} (hi:i < (arrOf st).size):Mem (kas_item (arrOf st) i):=by refine hb _ (h.pm.mem_iff.mp ?_);unfold kas_item;simp[Array.getD,hi]
theorem Ef {α:Type} {l:List α} {i:Nat} (h:i + 1 < l.length):∃l1 x y l2,l=l1++x::y::l2/\l1.length=i:=by refine⟨l.take i,l[i],l[i + 1],l.drop (i + 2),?_,by rw[List.length_take];lia⟩;rw[<-List.drop_eq_getElem_cons h,<-List.drop_eq_getElem_cons (by lia),List.take_append_drop]
theorem qu {P:Array (Nat×Nat×Nat)} {l1 l2:List (Nat×Nat×Nat)} {x y v:Nat×Nat×Nat} {i:Nat} (h:P.toList=l1++x::y::l2) (hi:l1.length=i):((P.setIfInBounds i v).eraseIdxIfInBounds (i + 1)).toList=l1++v::l2:=by
 have g0:P.size=l1.length + (l2.length + 2):=by
  have:=congrArg List.length h;simp at this
  lia
 have e1:(P.setIfInBounds i v).toList=l1++v::y::l2:=by rw[Array.toList_setIfInBounds,h,<-hi,List.set_append_right _ _ (Pd _)];simp
 unfold Array.eraseIdxIfInBounds;rw[dif_pos (by rw[Array.size_setIfInBounds];lia),Array.toList_eraseIdx,e1,<-hi];rw[List.eraseIdx_append_of_length_le (by lia)];simp
theorem pz (T:Tells prog w A κ s O ky Mem) (hb:∀x∈a.toList,Mem x) {lo i:Nat} {st:SortSt} (h:Ru O ky κ a lo st) (mT:lo<=a.size) (hi:i + 1 < (pendingOf st).size) {Q:Bool->SortSt->Shared->Prop}
  (q:∀ah,Ru O ky κ a lo ah->(pendingOf ah).size + 1=(pendingOf st).size->(∀t,lo<=t->kas_item (arrOf ah) t=kas_item (arrOf st) t)->Q true ah s):kasC (model prog w) A E (Gw i) Q st s:=by
 obtain⟨l1,x,y,l2,hl,hlen⟩:=Ef (l:=(pendingOf st).toList) (i:=i) (by simpa using hi);have g0:=h.size;have rn:=h.rn;rw[hl] at rn;obtain⟨p,r1,r2⟩:=Rn.app.mp rn;obtain⟨xp,xn,xw⟩:=x;obtain⟨yp,yn,yw⟩:=y;obtain⟨e1,x1,x2,e2,y1,y2,r3⟩:=r2;have e1:xp=p:=e1;have e2:yp=p + xn:=e2;subst e1 e2;have h3:=r3.le;simp only at x1 x2 y1 y2 r3 h3;have eP:∀j,(pendingOf st)[j]?=(l1++(xp,xn,xw)::(xp + xn,yn,yw)::l2)[j]?:=λj=>by rw[<-hl,Array.getElem?_toList]
 have g1:(pendingOf st)[i]?=some (xp,xn,xw):=by rw[eP,P0 (by lia),show i - l1.length=0 by lia];rfl
 have g2:(pendingOf st)[i + 1]?=some (xp + xn,yn,yw):=by rw[eP,P0 (by lia),show i + 1 - l1.length=1 by lia];rfl
 have M9:st=SortSt.mk' κ (arrOf st) (pendingOf st) (gallopOf st) none:=by have e:st=SortSt.mk' (kindOf st) (arrOf st) (pendingOf st) (gallopOf st) (failedOf st):=rfl;rw[h.k,h.f] at e;exact e
 have z:=KI (E:=E) T (a:=arrOf st) (P:=pendingOf st) (g:=gallopOf st) g1 g2 (by lia) x1 y1 (λi hi=>h.mem hb hi) (λi j a b c=>x2 i j a b c) (λi j a b c=>y2 i j a b c) (Q:=Q) λah k1 k2 k3 k4 k5 k6=>?_
 ·rw[<-M9] at z;exact z
 ·have ee:=qu (v:=(xp,xn + yn,xw)) hl hlen;refine q ah ⟨k1,k3,k4.trans h.pm,?_⟩ ?_ λt ht=>k6 t (.inr (by lia))
  ·rw[k2,ee];refine Rn.app.mpr ⟨xp,r1.congr λt _ ht=>k6 t (.inl ht),rfl,by show 1<=xn + yn;lia,k5,?_⟩;have:Rn O ky (arrOf ah) l2 (xp + xn + yn) lo:=r3.congr λt ht _=>k6 t (.inr ht)
   rw[Nat.add_assoc] at this;exact this
  ·rw[k2,<-Pt,ee,<-Pt,hl];simp
   lia
theorem DT (T:Tells prog w A κ s O ky Mem) (hb:∀x∈a.toList,Mem x) {lo size pw:Nat} {st:SortSt} (h:Ru O ky κ a lo st) (mT:lo<=a.size) (hp:1<=(pendingOf st).size) {Q:Option Unit×Unit->SortSt->Shared->Prop}
  (q:∀ah,Ru O ky κ a lo ah->1<=(pendingOf ah).size->(∀t,lo<=t->kas_item (arrOf ah) t=kas_item (arrOf st) t)->Q (none,()) ah s):kasC (model prog w) A E (KZ size pw) Q st s:=by
 unfold KZ;refine de (λ_ c ah=>c=(none,())/\Ru O ky κ a lo ah/\1<=(pendingOf ah).size/\∀t,lo<=t->kas_item (arrOf ah) t=kas_item (arrOf st) t) ⟨rfl,h,hp,λ_ _=>rfl⟩ (λx c ah _ _ hI=>?_) (λc ah hI=>?_)
 ·obtain⟨rfl,h',lM,he⟩:=hI;refine Pc (kasC_get ?_);by_cases c1:(pendingOf ah).size > 1
  ·rw[if_pos c1];have:(pendingOf ah)[(pendingOf ah).size - 2]?=some (pendingOf ah)[(pendingOf ah).size - 2]:=by simp
   rw[this];dsimp only;by_cases c2:(pendingOf ah)[(pendingOf ah).size - 2].2.2<=pw
   ·rw[if_pos c2];exact Pg ⟨rfl,q _ h' lM he⟩
   ·rw[if_neg c2];refine Pc (pz T hb h' mT (by lia) λdm h2 s2 e2=>?_);rw[if_neg (by simp)];exact Pg ⟨rfl,rfl,h2,by lia,λt ht=>(e2 t ht).trans (he t ht)⟩
  ·rw[if_neg c1];exact Pg ⟨rfl,q _ h' lM he⟩
 ·obtain⟨rfl,h',lM,he⟩:=hI;exact q _ h' lM he
theorem Rn.KY {b:Array Keyed} {l:List (Nat×Nat×Nat)} {x y:Nat×Nat×Nat} {lo hi:Nat} (h:Rn O ky b (l++[x]) lo hi) (e1:y.1=x.1) (e2:y.2.1=x.2.1):Rn O ky b (l++[y]) lo hi:=by obtain⟨k,k1,h1,h2,h3,h4⟩:=Rn.app.mp h;exact Rn.app.mpr ⟨k,k1,e1.trans h1,by rw[e2];exact h2,by rw[e2];exact h3,by rw[e2];exact h4⟩
theorem snoc {α:Type} {P:Array α} (h:1<=P.size):∃l x,P.toList=l++[x]/\P.back?=some x:=by
 have iM:P.toList≠[]:=λz=>by have:=congrArg List.length z;simp at this;rw[this] at h;simp at h
 refine⟨P.toList.dropLast,P.toList.getLast iM,(List.dropLast_concat_getLast iM).symm,?_⟩;rw[<-Array.getLast?_toList,List.getLast?_eq_some_getLast iM]
theorem jb {α:Type} (f:α->α):∀(l:List α) (x:α),(l++[x]).modify l.length f=l++[f x]
 | [],x=>rfl
 | y::l,x=>by show y::(l++[x]).modify l.length f=y::(l++[f x]);rw[jb f l x]
theorem vC (T:Tells prog w A κ s O ky Mem) (hb:∀x∈a.toList,Mem x) {size lo n:Nat} {st:SortSt} (h:Ru O ky κ a lo st) (mT:lo<=a.size) (hn:1<=n) (hu:Up O ky lo (arrOf st) n) (h0:1<=(pendingOf st).size\/lo=0) {Q:ForInStep (Option Unit×Nat)->SortSt->Shared->Prop}
  (q:∀ah,Ru O ky κ a (lo + n) ah->1<=(pendingOf ah).size->Q (.yield (none,lo + n)) ah s):kasC (model prog w) A E (Ib size lo n) Q st s:=by
 unfold Ib;refine Pc (kasC_get ?_);by_cases hp:1<=(pendingOf st).size
 ·obtain⟨l,x,hl,Nz⟩:=snoc hp;rw[Nz];obtain⟨s1,n1,w1⟩:=x;dsimp only;refine Pc (DT T hb h mT hp λdm h2 p2 e2=>?_);dsimp only;obtain⟨l2,x2,eB,NA⟩:=snoc p2;have Oe:(pendingOf dm).size=l2.length + 1:=by
   have:=congrArg List.length eB;simp at this
   lia
  refine Pc (kasC_modify (Pc (kasC_modify (Pg (q _ ⟨h2.k,h2.f,h2.pm,?_⟩ ?_)))))
  ·show Rn O ky (arrOf dm) (((pendingOf dm).modify ((pendingOf dm).size - 1) _).push (lo,n,0)).toList 0 (lo + n);rw[Array.toList_push,Array.toList_modify,eB,Oe];have em:(l2++[x2]).modify (l2.length + 1 - 1) (λ(x:Nat×Nat×Nat)=>(x.1,x.2.1,power' size (2 * s1 + n1) (2 * s1 + n1 + n1 + n) size))=l2++[(x2.1,x2.2.1,power' size (2 * s1 + n1) (2 * s1 + n1 + n1 + n) size)]:=by rw[Nat.add_sub_cancel];exact jb _ _ _
   rw[show (λ(x:Nat×Nat×Nat)=>match x with | (st,len,_)=>(st,len,power' size (2 * s1 + n1) (2 * s1 + n1 + n1 + n) size))=λ(x:Nat×Nat×Nat)=>(x.1,x.2.1,power' size (2 * s1 + n1) (2 * s1 + n1 + n1 + n) size) from rfl,em];have rn:=h2.rn;rw[eB] at rn;refine Rn.app.mpr ⟨lo,rn.KY rfl rfl,rfl,hn,λi j hi fN hj=>?_,rfl⟩;rw[e2 i hi,e2 j (by lia)];exact hu i j hi fN hj
  ·show 1<=(((pendingOf dm).modify ((pendingOf dm).size - 1) _).push (lo,n,0)).size;rw[Array.size_push]
   lia
 ·have hz:(pendingOf st).size=0:=by lia
  have e:(pendingOf st).back?=none:=by rw[Array.back?_eq_none_iff];exact Array.eq_empty_of_size_eq_zero hz
  rw[e];have Kf:lo=0:=h0.resolve_left hp;subst Kf;refine Pc (kasC_modify (Pg (q _ ⟨h.k,h.f,h.pm,?_⟩ ?_)))
  ·show Rn O ky (arrOf st) ((pendingOf st).push (0,n,0)).toList 0 (0 + n);rw[Array.toList_push,Array.eq_empty_of_size_eq_zero hz];exact⟨rfl,hn,hu,rfl⟩
  ·show 1<=((pendingOf st).push (0,n,0)).size;rw[Array.size_push]
   lia
theorem Ei (T:Tells prog w A κ s O ky Mem) (hb:∀x∈a.toList,Mem x) {mr lo:Nat} {st:SortSt} (h:Ru O ky κ a lo st) (mT:lo < a.size) (hm:1<=mr) (h0:1<=(pendingOf st).size\/lo=0) {Q:ForInStep (Option Unit×Nat)->SortSt->Shared->Prop}
  (q:∀ah n,1<=n->lo + n<=a.size->Ru O ky κ a (lo + n) ah->1<=(pendingOf ah).size->Q (.yield (none,lo + n)) ah s):kasC (model prog w) A E (Ho a.size mr lo) Q st s:=by
 unfold Ho;rw[if_neg (by lia)];have g0:=h.size;have lL:∀x∈(arrOf st).toList,Mem x:=λx hx=>hb x (h.pm.mem_iff.mp hx)
 have b0:Bs κ (pendingOf st) lo (arrOf st) st:=⟨h.k,h.f,rfl,List.Perm.refl _,λ_ _=>rfl⟩;have MO:∀{ah:SortSt},Bs κ (pendingOf st) lo (arrOf st) ah->Ru O ky κ a lo ah:=λb=>⟨b.k,b.f,b.pm.trans h.pm,by rw[b.p];exact h.rn.congr λt _ ht=>b.lw t ht⟩
 refine Pc (Fj T lL b0 (m:=a.size - lo) (by lia) (by lia) λah k b' k1 k2 ku=>?_);dsimp only;by_cases c:k < mr
 ·rw[if_pos c];refine Pc (kasC_lift (wpAny_rule ?_));refine Pc (Fc T lL b' (n:=min (a.size - lo) mr) (by lia) k1 (by lia) ku λdm b2 u2=>?_);rw[if_neg (by simp)];exact vC T hb (MO b2) (by lia) (by lia) u2 (by rw[b2.p];exact h0) λEW h3 p3=>q EW _ (by lia) (by lia) h3 p3
 ·rw[if_neg c];exact vC T hb (MO b') (by lia) (by lia) ku (by rw[b'.p];exact h0) λEW h3 p3=>q EW _ (by lia) (by lia) h3 p3
theorem Gn {P:Array (Nat×Nat×Nat)} (h:1 < P.size):ix P + 1 < P.size:=by
 have key:ix P=P.size - 2 - 1\/ix P=P.size - 2:=by
  unfold ix;generalize Option.any _ _=b;cases b
  ·exact .inr rfl
  ·exact .inl rfl
 rcases key with e | e <;> lia
theorem Dh (T:Tells prog w A κ s O ky Mem) (hb:∀x∈a.toList,Mem x) {st:SortSt} (h:Ru O ky κ a a.size st) {Q:Option Unit×Unit->SortSt->Shared->Prop}
  (q:∀ah,Ru O ky κ a a.size ah->(pendingOf ah).size<=1->Q (none,()) ah s):kasC (model prog w) A E (IF a.size) Q st s:=by
 unfold IF;have hle:=h.rn.le;simp at hle;refine de (λx c ah=>c=(none,())/\Ru O ky κ a a.size ah/\(pendingOf ah).size<=max 1 (a.size - x)) ⟨rfl,h,by lia⟩ (λx c ah _ hx hI=>?_) (λc ah hI=>?_)
 ·obtain⟨rfl,h',hp⟩:=hI;refine Pc (kasC_get ?_);by_cases c1:(pendingOf ah).size<=1
  ·rw[if_pos c1];exact Pg ⟨rfl,q _ h' c1⟩
  ·rw[if_neg c1];refine Pc (pz T hb h' (Pd _) (Gn (by lia)) λdm h2 s2 _=>?_);rw[if_neg (by simp)];exact Pg ⟨rfl,rfl,h2,by lia⟩
 ·obtain⟨rfl,h',hp⟩:=hI;exact q _ h' (by lia)
theorem kc:∀(f n r:Nat),1<=n->1<=minRun' f n r
 | 0,n,r,h=>by
  have e:minRun' 0 n r=n + r:=by kernel_rfl
  rw[e];lia
 | f + 1,n,r,h=>by
  rw[minRun'_succ];split
  ·lia
  ·exact kc f (n / 2) _ (by lia)
theorem D1 (T:Tells prog w A κ s O ky Mem) (hb:∀x∈a.toList,Mem x) (h2:2<=a.size) {g:Nat} {Q:Unit->SortSt->Shared->Prop}
  (q:∀ah:SortSt,failedOf ah=none->(arrOf ah).toList.Perm a.toList->gO O ky (arrOf ah).toList->Q () ah s):kasC (model prog w) A E sortRuns' Q (SortSt.mk' κ a #[] g none) s:=by
 rw[G2];unfold sR;refine Pc (kasC_get ?_);have MA:=kc a.size a.size 0 (by lia);show kasC _ _ _ (do
  let r<-forIn [:a.size] ((none,0):Option Unit×Nat) λ_ r=>Ho a.size (minRun' a.size a.size 0) r.2
  match r.1 with
  | some v=>pure v
  | none=>do
   let r<-IF a.size
   match r.1 with
   | some v=>pure v
   | none=>pure ()) _ _ _
 generalize minRun' a.size a.size 0=mr at MA ⊢;refine Pc (bw (Q:=λr ah s'=>s=s'/\r.1=none/\Ru O ky κ a a.size ah) (de (λx c ah=>∃lo,c=(none,lo)/\x<=lo/\lo<=a.size/\Ru O ky κ a lo ah/\(1<=(pendingOf ah).size\/lo=0)) ⟨0,rfl,Pd _,by lia,⟨rfl,rfl,List.Perm.refl _,rfl⟩,.inr rfl⟩ (λx c ah _ hx hI=>?_) (λc ah hI=>?_)) (λr ah s' hI=>?_))
 ·obtain⟨lo,rfl,Ob,mT,h,h0⟩:=hI;by_cases c:lo < a.size
  ·exact Ei T hb h c MA h0 λdm n n1 n2 h2 p2=>⟨rfl,lo + n,rfl,by lia,n2,h2,.inl p2⟩
  ·have e:lo=a.size:=by lia
   subst e;unfold Ho;rw[if_pos (Pd _)];exact Pg ⟨rfl,rfl,rfl,h⟩
 ·obtain⟨lo,rfl,Ob,mT,h,h0⟩:=hI;have e:lo=a.size:=by lia
  subst e;exact⟨rfl,rfl,h⟩
 ·obtain⟨rfl,e,h⟩:=hI;obtain⟨r1,r2⟩:=r;cases e;refine Pc (Dh T hb h λdm g1 g2=>Pg (q dm g1.f g1.pm ?_));have rn:=g1.rn
  match hl:(pendingOf dm).toList,rn with
  | [],rn=>have rn:0=a.size:=rn;lia
  | [x],rn=>obtain⟨_,_,u,e⟩:=rn;have e:0 + x.2.1=a.size:=e;exact Up.iY (g1.size.trans (by lia)) u
  | x::y::r,_=>
   exfalso;have:=congrArg List.length hl;simp at this
   lia
end
end MxTim
end
section
namespace Mx
open PySem PySem.W PySem.Spec PyProof.Rows L2 PySem.SeqAt MxSort
theorem pk {α β:Type} {f:α->β} {l l':List β} (h:l.Perm l'):∀r:List α,l=r.map f->∃p:List α,p.Perm r/\l'=p.map f:=by
 induction h with
 | nil=>intro r e;exact⟨r,List.Perm.refl _,e⟩
 | cons x h ih=>
  intro r e;cases r with
  | nil=>cases e
  | cons y r=>rw[P1] at e;injection e with e1 e2;obtain⟨p,p1,p2⟩:=ih r e2;exact⟨y::p,p1.cons y,by rw[P1,e1,p2]⟩
 | swap x y l=>
  intro r e;cases r with
  | nil=>cases e
  | cons a r=>
   cases r with
   | nil=>rw[P1] at e;injection e with e1 e2;cases e2
   | cons b r=>rw[P1,P1] at e;injection e with e1 e2;injection e2 with e3 e4;exact⟨b::a::r,List.Perm.swap a b r,by rw[P1,P1,e1,e3,e4]⟩
 | trans h1 h2 ih1 ih2=>intro r e;obtain⟨p,p1,p2⟩:=ih1 r e;obtain⟨q,q1,q2⟩:=ih2 p p2;exact⟨q,q1.trans p1,q2⟩
section
variable {prog:Program} {w:World} {A:Around} {E:Value->Shared->Prop} {s:Shared}
noncomputable def BZ {O:KeyOrd} (vs:List Value) (key:Nat->O.α):Prop:=∀i j,i < vs.length->j < vs.length->vs.getD i Value.none=vs.getD j Value.none->key i=key j
open Classical in
noncomputable def C8 {O:KeyOrd} (vs:List Value) (key:Nat->O.α) (k:Keyed):O.α:=if h:∃i,i < vs.length/\vs.getD i Value.none=k.1 then key (Classical.choose h) else key 0
theorem jA {O:KeyOrd} {vs:List Value} {key:Nat->O.α} (hi:BZ vs key) {i:Nat} (h:i < vs.length) (v:Value):C8 vs key (vs.getD i Value.none,v)=key i:=by unfold C8;have ex:∃j,j < vs.length/\vs.getD j Value.none=((vs.getD i Value.none,v):Keyed).1:=⟨i,h,rfl⟩;rw[dif_pos ex];have z:=Classical.choose_spec ex;exact hi _ _ z.1 h z.2
theorem pZ (vs:List Value):(vs.toArray.zip vs.toArray).toList=(List.range vs.length).map λi=>(vs.getD i Value.none,vs.getD i Value.none):=by
 refine List.ext_getElem (by simp) λi h1 h2=>?_
 simp at h1;simp[h1]
theorem DY {κ:SortKind} {vs:List Value} {O:KeyOrd} {key:Nat->O.α} (T:Tells O key (kas_ask prog w A κ vs) vs.length s) (hi:BZ vs key) (h2:2<=vs.length) (Ng:vs.length < 1000000) {Q:SortSt->Shared->Prop}
  (hG:∀(p:Array Nat) (ah:SortSt),Ord vs.length p->Up key p vs.length->(arrOf ah).map (·.2)=(p.toList.map λi=>vs.getD i Value.none).toArray->failedOf ah=none->Q ah s):
  wpAny (model prog w) A ((sortRuns').run (SortSt.mk' κ (vs.toArray.zip vs.toArray) #[] 7 none)) (λr s'=>Q r.2 s') E s:=by
 have hz:(vs.toArray.zip vs.toArray).size=vs.length:=by simp
 have T':MxTim.Tells prog w A κ s O (C8 vs key) (λk=>∃i,i < vs.length/\k=(vs.getD i Value.none,vs.getD i Value.none)):=by rintro x y ⟨i,Bz,rfl⟩ ⟨j,ze,rfl⟩ C hC;rw[jA hi Bz,jA hi ze] at hC;exact T i j Bz ze C hC
 have run:=MxTim.D1 (E:=E) T' (a:=vs.toArray.zip vs.toArray) (λx hx=>by
   rw[pZ] at hx;obtain⟨i,i1,i2⟩:=PP.mp hx;exact⟨i,P5.mp i1,i2.symm⟩) (by lia) (g:=7) (Q:=λ_ ah s'=>Q ah s') (λah f pm iY=>?_)
 ·exact run
 ·rw[pZ] at pm;obtain⟨p,p1,p2⟩:=pk pm.symm (List.range vs.length) rfl;have hl:p.length=vs.length:=by rw[p1.length_eq,List.length_range]
  have bX:∀i∈p,i < vs.length:=λi hi=>P5.mp (p1.mem_iff.mp hi)
  refine hG p.toArray ah (by unfold MxSort.Ord;exact p1) (λi j fN hj=>?_) ?_ f
  ·by_cases e:i=j
   ·subst e;exact KeyOrd.kle_refl _
   ·unfold MxTim.gO at iY;rw[p2,List.pairwise_map,List.pairwise_iff_getElem] at iY;have z:=iY i j (by lia) (by lia) (by lia);unfold MxTim.le at z;rw[jA hi (bX _ (List.getElem_mem _)),jA hi (bX _ (List.getElem_mem _))] at z;unfold qK;rw[show p.toArray.getD i 0=p[i] by simp[Array.getD,show i < p.length by lia],show p.toArray.getD j 0=p[j] by simp[Array.getD,show j < p.length by lia]];exact z
  ·apply Array.toList_inj.mp;rw[Array.toList_map,p2,List.map_map];rfl
theorem yu {a:Addr} {vs:List Value} {n:Nat} {P:PySem.Fin->Shared->Prop} (ho:s.heap.get? a=some (seqObj "list" vs.toArray n)) (Ni:vs.length < 1000000) {O:KeyOrd} {key:Nat->O.α}
  (hk:2<=vs.length->∀h',(∀b o,b≠a->s.heap.get? b=some o->h'.get? b=some o)->∃κ:SortKind,(∀(Q:SortKind->Shared->Prop) (E:Value->Shared->Prop),Q κ {s with heap:=h'}->wpAny (model prog w) A (keyKind' vs.toArray) Q E {s with heap:=h'})/\
   Tells O key (kas_ask prog w A κ vs) vs.length {s with heap:=h'}/\BZ vs key)
  (h:∀(p:Array Nat) (h':Heap) (e:Nat),Ord vs.length p->Up key p vs.length->(∀b o,b≠a->s.heap.get? b=some o->h'.get? b=some o)->h'.get? a=some (seqObj "list" (p.toList.map λi=>vs.getD i Value.none).toArray e)->
   P (.done (.ret .none)) {s with heap:=h'}):wpAny (model prog w) A (Builtin.«list.sort» ⟨[.ref a],[]⟩) P E s:=by
 have ha:a < s.heap.objs.size:=Pi ho;have sQ:vs.length<=sizeLine:=by rw[sizeLine_eq];lia
 rw[list_sort_plain];refine O3 (listItems_at ho rfl (O3 (listUpdate_at ho rfl ?_ (by rw[O8];exact sQ) (Nat.zero_le _))));obtain⟨e1,EK⟩:∃e1,(s.heap.update a (Obj.mapSeq λ_=>(#[]:Array Value))).get? a=some (seqObj "list" #[] e1):=⟨_,get?_update_seq ho λ_=>#[]⟩;refine O3 (seqEpoch_at EK rfl (O3 (wpAny_newTuple ?_ sQ)));refine O3 (wpAny_newList (wpAny_holding ?_) (Nat.zero_le _));show wpAny (model prog w) A _ P E {s with heap:=((s.heap.update a (Obj.mapSeq λ_=>(#[]:Array Value))).push (seqObj "tuple" vs.toArray 0)).push (seqObj "list" #[] 0)};generalize hh:((s.heap.update a (Obj.mapSeq λ_=>(#[]:Array Value))).push (seqObj "tuple" vs.toArray 0)).push (seqObj "list" #[] 0)=h1;have k1:∀b o,b≠a->s.heap.get? b=some o->h1.get? b=some o:=λb o hb e=>by rw[<-hh];exact O5 _ (O5 _ ((PD s.heap _ (Ne.symm hb)).trans e))
 have J6:h1.get? a=some (seqObj "list" #[] e1):=by rw[<-hh];exact O5 _ (O5 _ EK)
 dsimp only;have fin:∀(ah:SortSt) (p:Array Nat),Ord vs.length p->Up key p vs.length->(arrOf ah).map (·.2)=(p.toList.map λi=>vs.getD i Value.none).toArray->failedOf ah=none->
   wpAny (model prog w) A (do
    let touched:=(<-seqEpoch a) != e1
    Builtin.List.listUpdate (.ref a) λ_=>(arrOf ah).map (·.2)
    if let some e:=failedOf ah then rule "list.sort.comparison-raised";throw e
    if touched then rule "list.sort.modified";raiseError "ValueError" "list modified during sort"
    ret .none) P E {s with heap:=h1}:=λah p hp hu CT hf=>by
  refine O3 (seqEpoch_at (s:={s with heap:=h1}) J6 rfl ?_);have g0:(p.toList.map λi=>vs.getD i Value.none).toArray.size=vs.length:=by rw[O8,Ph,Pt,hp.size]
  rw[CT];refine O3 (listUpdate_at (s:={s with heap:=h1}) J6 rfl ?_ (Nat.zero_le _) (by rw[g0];lia));rw[hf];simp only[bne_self_eq_false,Bool.false_eq_true,if_false];obtain⟨c2,uB⟩:∃c2,(h1.update a (Obj.mapSeq λ_=>(p.toList.map λi=>vs.getD i Value.none).toArray)).get? a=some (seqObj "list" (p.toList.map λi=>vs.getD i Value.none).toArray c2):=⟨_,get?_update_seq J6 λ_=>_⟩;exact O6 (h p _ c2 hp hu (λb o hb e=>(PD h1 _ (Ne.symm hb)).trans (k1 b o hb e)) uB)
 by_cases h2:2<=vs.length
 ·have kU:¬vs.toArray.size < 2:=by rw[O8];lia
  rw[if_neg kU,if_neg kU];obtain⟨κ,NM,T,hi⟩:=hk h2 h1 k1;refine O3 (NM _ _ ?_);refine O3 (wpAny_mono (DY (s:={s with heap:=h1}) (Q:=λah s'=>s'={s with heap:=h1}/\∃p:Array Nat,Ord vs.length p/\Up key p vs.length/\(arrOf ah).map (·.2)=(p.toList.map λi=>vs.getD i Value.none).toArray/\failedOf ah=none) T hi h2 Ni
   (λp ah hp hu ho hf=>⟨rfl,p,hp,hu,ho,hf⟩)) ?_ λ_ _ e=>e)
  rintro⟨⟨⟩,ah⟩ s' ⟨rfl,p,hp,hu,CT,hf⟩;exact fin ah p hp hu CT hf
 ·have kU:vs.toArray.size < 2:=by rw[O8];lia
  rw[if_pos kU,if_pos kU];refine O3 (O6 ?_);rw[StateT.run_pure];refine O3 (O6 ?_);refine fin (SortSt.mk' general' (vs.toArray.zip vs.toArray) #[] 7 none) (List.range vs.length).toArray (by unfold MxSort.Ord;simp) (λi j fN hj=>?_) ?_ rfl
  ·rw[show i=j by lia];exact KeyOrd.kle_refl _
  ·apply Array.toList_inj.mp;show (((vs.toArray.zip vs.toArray)).map (·.2)).toList=_
   match vs,h2 with
   | [],_=>simp
   | [v],_=>simp
   | _::_::_,h2=>exact absurd (by simp) h2
end
end Mx
end
section
namespace Mx
open PySem PySem.W PySem.Spec PyProof.Rows L2
theorem kO {ks:List Str} {us IS:List Value} (r:ar (ks.map V.str) us) (p:IS.Perm us):∃cW:List Str,cW.Perm ks/\ar (cW.map V.str) IS:=by
 have e:us=(us.map λv=>((0:Int),v)).map (·.2):=by rw[List.map_map];simp[Function.comp_def]
 have e':IS=(IS.map λv=>((0:Int),v)).map (·.2):=by rw[List.map_map];simp[Function.comp_def]
 rw[e] at r;rw[e'];exact i0 (p.map _) r
theorem j9 {α:Type} (es:Array α) (d:α):(List.range es.size).map (λj=>es.getD j d)=es.toList:=by
 refine List.ext_getElem (by simp) λi h1 h2=>?_
 simp at h1;simp[Array.getD,h1]
section
variable {prog:Program} {w:World} {A:Around} {E:Value->Shared->Prop} {s:Shared}
theorem Be {S:Addr} {ks:List Str} {Q:Value->Shared->Prop} (hS:cu prog w s.heap S ks)
  (h:∀(h':Heap) (d':_) (I T:Addr) (es:Array (Int×Value)) (ep:Nat) (t:SetTable) (vs:List Value) (cW:List Str),yX w I S es ep t vs T 0 h'->I≠S->I≠T->I < h'.objs.size->S < h'.objs.size->T < h'.objs.size->s.heap.objs.size<=I->(T=S\/s.heap.objs.size<=T)->(∀b o,s.heap.get? b=some o->h'.get? b=some o)->cW.Perm ks->ar (cW.map V.str) vs->Q (.ref I) {s with heap:=h',drawn:=d'}):
  wpAny (model prog w) A (pyIter (.ref S)) Q E s:=by
 obtain⟨es,ep,t,ho,eQ,hv,Bx,hb,hf,xc,gz⟩:=hS;have hT:s.TypeIs (.ref S) "set":=⟨_,ho,rfl⟩;have jg:S < s.heap.objs.size:=Pi ho;refine wpAny_pyIter_slot hT PySem.F.slot_set_iter (wpAny_call_entry PySem.F.slot_set_iter hT F.jU ?_ (PySem.F.args_set_iter_1 _));show wpAny _ _ (Builtin.Frozenset.sizeOf S >>=_) _ _ s;refine O3 ?_;unfold Builtin.Frozenset.sizeOf;refine O3 (wpAny_setEntries_of ho rfl hf (O6 ?_));refine O3 ?_;unfold setDrawn;refine O3 (wpAny_setState_of ho rfl hf ?_);dsimp only;refine O3 (cX (O6 ?_));show wpAny _ _ (if ((!vQ w&&(!t.plain&&decide (es.size > 1)))=true) then _ else _) _ _ s;by_cases wR:vQ w=true
 ·rw[if_neg (by rw[wR];simp)];refine O3 (O6 ?_);refine O3 (wpAny_setEpoch_of ho rfl hf ?_);show wpAny _ _ (newFields "set_iterator" [rawInt 0,rawInt 0,.ref S,rawInt es.size,rawInt ep] >>=_) _ _ s;unfold newFields;refine O3 (wpAny_newObj_type ?_);refine O6 ⟨_,rfl,"set_iterator",_,⟨_,Pf _ rfl,rfl⟩,F.aw.lookup,?_⟩;obtain⟨cW,p1,p2⟩:=kO hv ((lX (w.params.setOrder S ep) es).map (·.2));have hI:zm (s.heap.push {cls:= .type "set_iterator",data:= .fields #[rawInt 0,rawInt (0:Nat),.ref S,rawInt es.size,rawInt ep]}) s.heap.objs.size (rawInt 0) 0 S es.size ep:=Pf _ rfl;refine h _ s.drawn s.heap.objs.size S es ep t ((pickOrder (w.params.setOrder S ep) es).toList.map (·.2)) cW ⟨O5 _ ho,hf,?_,rawInt 0,hI,.inl ⟨wR,rfl,rfl⟩⟩ (Nat.ne_of_gt jg) (Nat.ne_of_gt jg) ?_ ?_ ?_ (Pd _) (.inl rfl) (λb o e=>O5 _ e) p1 p2
  ·rw[Ph,(lX _ es).length_eq,Pt]
  ·rw[PH];exact Nat.lt_succ_self _
  ·rw[PH];exact Nat.lt_succ_of_lt jg
  ·rw[PH];exact Nat.lt_succ_of_lt jg
 ·have Bu:vQ w=false:=by simpa using wR
  by_cases h1:1 < es.size
  ·have F3:=gz (by lia);rw[if_pos (by rw[Bu,F3,PF h1];rfl)];refine O3 (iF es.size (List.range es.size) (by simp) λπ d hπ=>?_);refine O3 (m:=newTuple _) (wpAny_newTuple ?_ (by
    rw[Ph,hπ.length_eq,List.length_range];exact fits_of_scanBound hb))
   generalize hh1:s.heap.push {cls:= .type "tuple",data:= .seq (π.map λ(i:Nat)=>rawInt (i:Int)).toArray}=iG;have k1:∀b o,s.heap.get? b=some o->iG.get? b=some o:=λb o e=>by rw[<-hh1];exact O5 _ e
   have z1:iG.objs.size=s.heap.objs.size + 1:=by rw[<-hh1,PH]
   have t1:iG.get? s.heap.objs.size=some {cls:= .type "tuple",dict:=none,data:= .seq (π.map λ(i:Nat)=>rawInt (i:Int)).toArray 0,slots:=#[]}:=by rw[<-hh1];exact Pf _ rfl
   refine O3 (wpAny_setEpoch_of (s:={s with heap:=iG,drawn:=d}) (k1 _ _ ho) rfl hf ?_);show wpAny _ _ (newFields "set_iterator" [.ref s.heap.objs.size,rawInt 0,.ref S,rawInt es.size,rawInt ep] >>=_) _ _ _;unfold newFields;refine O3 (wpAny_newObj_type ?_);refine O6 ⟨_,rfl,"set_iterator",_,⟨_,Pf _ rfl,rfl⟩,F.aw.lookup,?_⟩;have hI:zm (iG.push {cls:= .type "set_iterator",data:= .fields #[.ref s.heap.objs.size,rawInt (0:Nat),.ref S,rawInt es.size,rawInt ep]}) iG.objs.size (.ref s.heap.objs.size) 0 S es.size ep:=Pf _ rfl;have pm:(π.map λj=>(es.getD j (0,.none)).2).Perm (es.toList.map (·.2)):=by rw[<-j9 es (0,.none),List.map_map];exact hπ.map _
   obtain⟨cW,p1,p2⟩:=kO hv pm;refine h _ d iG.objs.size s.heap.objs.size es ep t (π.map λj=>(es.getD j (0,.none)).2) cW ⟨O5 _ (k1 _ _ ho),hf,?_,.ref s.heap.objs.size,hI,.inr (.inr ⟨Bu,h1,rfl,π,O5 _ t1,?_,λj hj=>?_,rfl⟩)⟩ (λe=>?_) (λe=>?_) ?_ ?_ ?_ ?_ (.inr (Pd _)) (λb o e=>O5 _ (k1 b o e)) p1 p2
   ·rw[Ph,hπ.length_eq,List.length_range]
   ·rw[hπ.length_eq,List.length_range]
   ·exact P5.mp (hπ.mem_iff.mp hj)
   ·rw[z1] at e;exact Nat.ne_of_gt (Nat.lt_succ_of_lt jg) e
   ·rw[z1] at e;exact Nat.succ_ne_self _ e
   ·rw[PH];exact Nat.lt_succ_self _
   ·rw[PH,z1];exact Nat.lt_succ_of_lt (Nat.lt_succ_of_lt jg)
   ·rw[PH,z1];exact Nat.lt_succ_of_lt (Nat.lt_succ_self _)
   ·rw[z1];exact Nat.le_succ _
  ·rw[if_neg (by rw[Py h1];simp)];refine O3 (O6 ?_);refine O3 (wpAny_setEpoch_of ho rfl hf ?_);show wpAny _ _ (newFields "set_iterator" [rawInt 0,rawInt 0,.ref S,rawInt es.size,rawInt ep] >>=_) _ _ s;unfold newFields;refine O3 (wpAny_newObj_type ?_);refine O6 ⟨_,rfl,"set_iterator",_,⟨_,Pf _ rfl,rfl⟩,F.aw.lookup,?_⟩;have hI:zm (s.heap.push {cls:= .type "set_iterator",data:= .fields #[rawInt 0,rawInt (0:Nat),.ref S,rawInt es.size,rawInt ep]}) s.heap.objs.size (rawInt (0:Nat)) 0 S es.size ep:=Pf _ rfl;refine h _ s.drawn s.heap.objs.size S es ep t (es.toList.map (·.2)) ks ⟨O5 _ ho,hf,?_,rawInt (0:Nat),hI,.inr (.inl ⟨Bu,by rw[xc,Bu];rfl,by lia,rfl,0,rfl,λ_=>rfl,λz=>by lia⟩)⟩ (Nat.ne_of_gt jg) (Nat.ne_of_gt jg) ?_ ?_ ?_ (Pd _) (.inl rfl) (λb o e=>O5 _ e) (List.Perm.refl _) hv
   ·rw[Ph,Pt]
   ·rw[PH];exact Nat.lt_succ_self _
   ·rw[PH];exact Nat.lt_succ_of_lt jg
   ·rw[PH];exact Nat.lt_succ_of_lt jg
namespace F
theorem Am:typeLookup (.type "set") "__len__"=pure (some (.builtin "set.__len__")):=by rw[typeLookup_type,builtinLookup_eq_fast];kernel_rfl
end F
theorem rK {S:Addr} {ks:List Str} {Q:List Value->Shared->Prop} (hh:A.handled=none) (hS:cu prog w s.heap S ks)
  (hQ:∀(h':Heap) d' tk (vs:List Value) (cW:List Str),(∀b o,s.heap.get? b=some o->h'.get? b=some o)->cW.Perm ks->ar (cW.map V.str) vs->Q vs {s with heap:=h',drawn:=d',toks:=tk}):wpAny (model prog w) A (collect (.ref S)) Q E s:=by
 obtain⟨o0,NT⟩:∃o,s.heap.get? S=some o:=by obtain⟨es,ep,t,ho,_⟩:=hS;exact⟨_,ho⟩
 have jg:S < s.heap.objs.size:=Pi NT;unfold collect;refine O3 (wpAny_runValue (codeAny_builtin PySem.F.entry_proto_collect ?_));rw[Around.under_plainId PySem.F.plain_proto_collect _];show wpAny _ A.in1 (newList [] >>=λl=>again (.builtin "list.__iadd__" ⟨[l,.ref S],[]⟩)) _ _ s;refine O3 (wpAny_newObj_type ?_);refine O6 ⟨plainId_quiet PySem.F.plain_list_iadd _,codeAny_builtin PySem.F.entry_list_iadd ?_⟩;rw[Around.under_plainId PySem.F.plain_list_iadd _];generalize hh1:s.heap.push {cls:= .type "list",data:= .seq ([]:List Value).toArray}=h1;have k1:∀b o,s.heap.get? b=some o->h1.get? b=some o:=λb o e=>by rw[<-hh1];exact O5 _ e
 have z1:h1.objs.size=s.heap.objs.size + 1:=by rw[<-hh1,PH]
 have t1:h1.get? s.heap.objs.size=some (seqObj "list" #[] 0):=by rw[<-hh1];exact Pf _ rfl
 have JX:cu prog w h1 S ks:=hS.at λo e=>k1 _ o e
 have Ir:∀{h:Heap} {d:_},(∀b o,h1.get? b=some o->h.get? b=some o)->Shared.TypeIs {s with heap:=h,drawn:=d} (.ref S) "set":=λkk=>by obtain⟨es,ep,t,ho,_⟩:=JX;exact⟨_,kk _ _ ho,rfl⟩
 have Iq:s.heap.objs.size≠S:=Nat.ne_of_gt jg;have N1:Builtin.List.listSameRef (.ref s.heap.objs.size) (.ref S)=false:=by simp[Builtin.List.listSameRef,Iq]
 show wpAny _ A.in1 (Builtin.List.listExtendWith (.ref s.heap.objs.size) (.ref S) (.ref s.heap.objs.size)) _ _ _;unfold Builtin.List.listExtendWith;refine O3 (wpAny_typeOf (s:={s with heap:=h1}) (Ir (d:=s.drawn) λb o e=>e) ?_);rw[if_neg (by rw[N1];decide)];refine O3 (Be (s:={s with heap:=h1}) JX λh2 d2 I T es ep t vs cW st zP FC L1 hS2 hT2 hIn qC kk p1 p2=>?_);refine O3 (wpAny_holding ?_);unfold Builtin.List.listLengthHint;refine O3 (wpAny_specialOf (s:={s with heap:=h2,drawn:=d2}) (Ir kk) F.Am ?_)
 (generalize Kd:("set.__len__":String)=id0;(fail_if_success (clear Kd id0));wp_delta;rw[show splitId id0=some ("set","__len__") from by subst Kd;decide +kernel];subst Kd)
 refine O3 (wpAny_isInstance (b:=true) (Ir kk) (by rw[isSubtype_type];kernel_rfl) ?_);rw[if_neg (by simp)];refine O3 (m:=typeOf (.ref S)) (wpAny_typeOf (Ir kk) ?_);refine O6 ?_;rw[if_pos (by decide +kernel)];refine O3 (wpAny_rule (O3 ?_));unfold Builtin.List.listTouch;have t2:h2.get? s.heap.objs.size=some (seqObj "list" #[] 0):=kk _ _ t1;refine O3 (listUpdate_at (s:={s with heap:=h2,drawn:=d2}) t2 rfl ?_ (by decide) (by decide));obtain⟨e3,t3⟩:∃e,(h2.update s.heap.objs.size (Obj.mapSeq λx=>x.push .none)).get? s.heap.objs.size=some (seqObj "list" #[.none] e):=⟨_,get?_update_seq t2 λx=>x.push .none⟩;refine listUpdate_at (s:={s with heap:=h2.update s.heap.objs.size (Obj.mapSeq λx=>x.push .none),drawn:=d2}) t3 rfl ?_ (by decide) (by decide);obtain⟨e4,t4⟩:∃e,((h2.update s.heap.objs.size (Obj.mapSeq λx=>x.push .none)).update s.heap.objs.size (Obj.mapSeq λx=>x.pop)).get? s.heap.objs.size=some (seqObj "list" #[] e):=⟨_,get?_update_seq t3 λx=>x.pop⟩;generalize hh4:(h2.update s.heap.objs.size (Obj.mapSeq λx=>x.push .none)).update s.heap.objs.size (Obj.mapSeq λx=>x.pop)=h4 at t4 ⊢;have k4:∀b o,b≠s.heap.objs.size->h2.get? b=some o->h4.get? b=some o:=λb o hb e=>by rw[<-hh4];exact(PD _ _ (Ne.symm hb)).trans ((PD _ _ (Ne.symm hb)).trans e)
 have JW:I≠s.heap.objs.size:=λe=>by rw[e,z1] at hIn;exact Nat.not_succ_le_self _ hIn
 have J1:T≠s.heap.objs.size:=λe=>by
  rcases qC with q | q
  ·exact Iq (e.symm.trans q)
  ·rw[e,z1] at q;exact Nat.not_succ_le_self _ q
 have L4:s.heap.objs.size∉[I,S,T]:=by simp only[Pk,Pl,or_false,not_or];exact⟨JW.symm,Iq,J1.symm⟩
 have Hn:yX w I S es ep t vs T 0 h4:=st.keep λb hb o e=>k4 b o (λq=>L4 (q▸hb)) e
 have N8:vs.length<=sizeLine:=by
  obtain⟨_,_,hl,_⟩:=st;obtain⟨dk,Ii,t',qF,_,_,_,lL,_⟩:=JX;have q:es=dk:=by have:=Hn.1;have q2:=k4 S _ Iq.symm (kk _ _ qF);unfold vz at this;rw[this] at q2;cases q2;rfl
  rw[hl,q];exact fits_of_scanBound lL
 have W:=(vh (prog:=prog) (w:=w) (A:=A.in1) hh I S T zP FC es ep t vs).toS;refine O6 ⟨plainId_quiet PySem.F.plain_extend_loop _,codeAny_extend_loopS W N8 _ L4 _ vs.length 0 _ _ _ rfl (Nat.zero_le _) Hn t4 (ItemsOf.nil _) λs' dB c' hm nY hacc=>?_⟩;show wpAny _ A (load s.heap.objs.size >>=_) _ _ s';refine O3 (wpAny_load nY (O6 ?_));obtain⟨h',g',d',LC,GO⟩:=s';have eg:g'=s.gens:=hm.gens;have ed:d'=d2:=hm.drawn;have eo:GO=s.os:=hm.os;subst eg;subst ed;subst eo;have FG:dB.toList=vs:=by
  refine List.ext_getElem (by rw[Pt];exact hacc.1) λi q1 q2=>?_
  have:vs[i]?=some dB[i]:=hacc.2 i dB[i] (by simp);rw[Px q2] at this;rw[Array.getElem_toList];exact(Option.some.inj this).symm
 show Q dB.toList _;rw[FG];refine hQ h' d' LC vs cW (λb o e=>?_) p1 p2;have hb:=Pi e;have wR:b≠s.heap.objs.size:=PJ hb;have Bu:b≠I:=λq=>by subst q;have:=Pu hb (Pj (by rw[z1];exact Nat.le_succ _) hIn);exact Nat.lt_irrefl _ this
 exact hm.heap b o (by simp only[Pk,Pl,or_false,not_or];exact⟨wR,Bu⟩) (k4 b o wR (kk b o (k1 b o e)))
end
end Mx
end
section
namespace Mx
open PySem PySem.W PySem.Spec PyProof.Rows L2 PySem.SeqAt MxSort
inductive SK where
 | tt | ts | ti | s | i
 deriving DecidableEq
noncomputable def SK.ok:SK->D->Prop
 | .tt,d=>∃f r,d= .tup (.tup f::r)
 | .ts,d=>∃f r,d= .tup (.str f::r)
 | .ti,d=>∃f r,d= .tup (.int f::r)
 | .s,d=>∃x,d= .str x
 | .i,d=>∃x,d= .int x
noncomputable def SK.κ:SK->SortKind
 | .tt=>tuples' false
 | .ts=>tuples' true
 | .ti=>tuples' true
 | .s=>oneType'
 | .i=>oneType'
noncomputable def SK.f:SK->String
 | .tt=>"tuple"
 | .ts=>"str"
 | .s=>"str"
 | _=>"int"
section
variable {P:Program} {w:World} {H:Hp} {prog:Program} {s:Shared} {A:Around}
theorem Ak {b:Bool} {n m:Nat} {Q:Bool->Shared->Prop} {v wv:Value} {us vs:List Value} {d e:D} {ds es:List D} (z:Zp A s (v::us) (wv::vs) (d::ds) (e::es))
  (hs:b=true->∀{E:Value->Shared->Prop},wpAny (model prog w) A (oneLt' true v wv) (λr s'=>r=D.lt d e/\s'=s) E s)
  (hlen:ds.length + m=es.length + n) (q:Q (D.eK (d::ds) (e::es)) s):KatLex prog w A b (decide (n < m)) Q ((v::us).zip (wv::vs)) 0 s:=by
 cases z with
 | cons he hl z'=>
  rw[List.zip_cons_cons];rw[D.c6] at q;refine kat_cons (he prog w _ _ ?_);by_cases hde:d=e
  ·rw[(D.cD d e).mpr hde];rw[if_pos hde] at q;exact kat_yes (Aj z' 1 (by lia) hlen q)
  ·rw[show D.gd d e=false by rw[D.gW];exact Py hde];rw[if_neg hde] at q;refine kat_no ?_;cases b with
   | false=>rw[show (false&&0==0)=false by rfl];exact kat_one v wv (hl hde prog w _ _ q)
   | true=>rw[show (true&&0==0)=true by rfl];exact wpAny_mono (hs rfl) (λr s' ⟨e1,e2⟩=>by subst e1 e2;exact q) λ_ _ x=>x
theorem m9 (hok:d4 P w H s.heap) {n:Nat} (hu:A.units + n < cLine) {b:Bool} {d0 e0:D} {dr er:List D} {x y:V} {u v:Value} (hd:D.dep (.tup (d0::dr))<=n + 1) (hl:D.ek (.tup (d0::dr)) (.tup (e0::er)))
  (hs:b=true->(∃p q,d0= .str p/\e0= .str q)\/∃p q,d0= .int p/\e0= .int q) (hx:DV H x (.tup (d0::dr))) (hy:DV H y (.tup (e0::er))) (rx:RelV x u) (ry:RelV y v) {Q:Bool->Shared->Prop} {E:Value->Shared->Prop}
  (q:Q (D.lt (.tup (d0::dr)) (.tup (e0::er))) s):wpAny (model prog w) A (keyLt' (tuples' b) u v) Q E s:=by
 obtain⟨a,xs,q1,e1,e2⟩:=hx.ag;subst q1;cases rx;obtain⟨b',ys,q1,f1,f2⟩:=hy.ag;subst q1;cases ry;obtain⟨its,r1,o,ho,hc,k,zV⟩:=au hok e1;obtain⟨aK,r2,o2,sP,uB,k2,qE⟩:=au hok f1;obtain⟨x0,xr,rfl,EG,LY⟩:=e2.cons_inv;obtain⟨y0,yr,rfl,LZ,Nf⟩:=f2.cons_inv;cases r1 with
 | cons r10 r1r=>
  cases r2 with
  | cons r20 r2r=>
   rename_i u0 ur v0 vr;have qD:D.cn (d0::dr)<=n:=by unfold D.dep at hd;lia
   have CL:D.gg (d0::dr) (e0::er):=by unfold D.ek at hl;exact hl
   have zz:Zp A s (u0::ur) (v0::vr) (d0::dr) (e0::er):=yW hok hu (λd e x y u v hd2 eB Ac hy2 rx2 ry2=>Ao hok n d e x y u v A hd2 hu eB Ac hy2 rx2 ry2) qD CL e2 f2 (.cons r10 r1r) (.cons r20 r2r);refine kat_lt ho zV sP qE ?_;have l1:(u0::ur).toArray.size=(d0::dr).length:=by rw[O8,Pq,Pq,<-r1r.length,LY.length]
   have l2:(v0::vr).toArray.size=(e0::er).length:=by rw[O8,Pq,Pq,<-r2r.length,Nf.length]
   have q':Q (D.eK (d0::dr) (e0::er)) s:=by have z:=q;unfold D.lt at z;exact z
   refine Ak zz (λhb=>?_) (by rw[l1,l2];simp only[Pq];lia) q';intro E';rcases hs hb with ⟨p,q2,rfl,rfl⟩ | ⟨p,q2,rfl,rfl⟩
   ·have z1:=EG.str_inv;have z2:=LZ.str_inv;subst z1 z2;obtain⟨t,rfl⟩:=r10;obtain⟨t',rfl⟩:=r20;exact oneLt_str ⟨by unfold D.lt;rfl,rfl⟩
   ·have z1:=EG.int_inv;have z2:=LZ.int_inv;subst z1 z2;obtain⟨t,rfl⟩:=r10;obtain⟨t',rfl⟩:=r20;exact oneLt_int ⟨by unfold D.lt;rfl,rfl⟩
theorem lO (x y:Value):keyLt' oneType' x y=oneLt' true x y:=rfl
theorem Al (hok:d4 P w H s.heap) {n:Nat} (hu:A.units + n < cLine) (k:SK) {d e:D} {x y:V} {u v:Value} (hd:D.dep d<=n + 1) (hl:D.ek d e) (fd:k.ok d) (fe:k.ok e) (hx:DV H x d) (hy:DV H y e) (rx:RelV x u) (ry:RelV y v) {Q:Bool->Shared->Prop} {E:Value->Shared->Prop}
  (q:Q (D.lt d e) s):wpAny (model prog w) A (keyLt' k.κ u v) Q E s:=by
 cases k with
 | tt=>obtain⟨f,r,rfl⟩:=fd;obtain⟨f',r',rfl⟩:=fe;exact m9 (b:=false) hok hu hd hl (λz=>nomatch z) hx hy rx ry q
 | ts=>obtain⟨f,r,rfl⟩:=fd;obtain⟨f',r',rfl⟩:=fe;exact m9 hok hu hd hl (λ_=> .inl ⟨_,_,rfl,rfl⟩) hx hy rx ry q
 | ti=>obtain⟨f,r,rfl⟩:=fd;obtain⟨f',r',rfl⟩:=fe;exact m9 hok hu hd hl (λ_=> .inr ⟨_,_,rfl,rfl⟩) hx hy rx ry q
 | s=>obtain⟨f,rfl⟩:=fd;obtain⟨f',rfl⟩:=fe;have z1:=hx.str_inv;have z2:=hy.str_inv;subst z1 z2;obtain⟨t,rfl⟩:=rx;obtain⟨t',rfl⟩:=ry;show wpAny _ _ (keyLt' oneType' _ _) _ _ _;rw[lO];unfold D.lt at q;exact oneLt_str q
 | i=>obtain⟨f,rfl⟩:=fd;obtain⟨f',rfl⟩:=fe;have z1:=hx.int_inv;have z2:=hy.int_inv;subst z1 z2;obtain⟨t,rfl⟩:=rx;obtain⟨t',rfl⟩:=ry;show wpAny _ _ (keyLt' oneType' _ _) _ _ _;rw[lO];unfold D.lt at q;exact oneLt_int q
theorem sY (hok:d4 P w H s.heap) {k:SK} (hk:k= .tt\/k= .ts\/k= .ti):∀{xs:List V} {us:List Value} {ds:List D},aX H xs ds->ar xs us->(∀d∈ds,k.ok d)->
  ∃fs,KatTups s.heap us fs/\fs.length=us.length/\∀v∈fs,Looks (model prog w) s.heap (typeOf v) (.type k.f)
 | [],us,ds,_,r,_=>by cases r;exact⟨[],KatTups.nil,rfl,λv hv=>absurd hv (by simp)⟩
 | x::xs,us,ds,h,r,hf=>by
  cases r with
  | cons r0 rr=>
   cases ds with
   | nil=>unfold aX at h;exact h.elim
   | cons d ds=>
    unfold aX at h;obtain⟨fs,t,l,lk⟩:=sY hok hk h.2 rr λd hd=>hf d (Pb _ hd)
    have sh:∃d0 dr,d= .tup (d0::dr)/\((k= .ts/\∃p,d0= .str p)\/(k= .ti/\∃p,d0= .int p)\/(k= .tt/\∃p,d0= .tup p)):=by
     have z:=hf d Pe;rcases hk with rfl | rfl | rfl
     ·obtain⟨f,r,rfl⟩:=z;exact⟨_,_,rfl,.inr (.inr ⟨rfl,_,rfl⟩)⟩
     ·obtain⟨f,r,rfl⟩:=z;exact⟨_,_,rfl,.inl ⟨rfl,_,rfl⟩⟩
     ·obtain⟨f,r,rfl⟩:=z;exact⟨_,_,rfl,.inr (.inl ⟨rfl,_,rfl⟩)⟩
    obtain⟨d0,dr,rfl,zb⟩:=sh;obtain⟨a,ys,q1,e1,e2⟩:=h.1.ag;subst q1;cases r0;obtain⟨its,r1,o,ho,hc,kk,zV⟩:=au hok e1;obtain⟨x0,xr,rfl,EG,LY⟩:=e2.cons_inv;cases r1 with
    | cons r10 r1r=>
     rename_i u0 ur;refine⟨u0::fs,KatTups.cons ho hc zV (by simp) t,by simp[l],λv hv=>?_⟩;rcases Pk.mp hv with rfl | hv
     ·rcases zb with ⟨hb,p,rfl⟩ | ⟨hb,p,rfl⟩ | ⟨hb,p,rfl⟩
      ·have z1:=EG.str_inv;subst z1;obtain⟨t',rfl⟩:=r10;rw[hb];exact Looks.of_pure rfl
      ·have z1:=EG.int_inv;subst z1;obtain⟨t',rfl⟩:=r10;rw[hb];exact Looks.of_pure rfl
      ·obtain⟨a2,y2,q2,g1,g2⟩:=EG.ag;subst q2;cases r10;obtain⟨aK,_,o2,sP,uB,_⟩:=au hok g1;rw[hb];show Looks (model prog w) _ _ (Value.type "tuple");rw[<-uB];exact(Looks.ld sP).andThen .now
     ·exact lk v hv
theorem iD:∀{xs:List V} {us:List Value} {ds:List D},aX H xs ds->ar xs us->(∀d∈ds,SK.s.ok d)->∃ss,StrsAre us ss
 | [],us,ds,_,r,_=>by cases r;exact⟨[],.nil⟩
 | x::xs,us,ds,h,r,hf=>by
  cases r with
  | cons r0 rr=>
   cases ds with
   | nil=>unfold aX at h;exact h.elim
   | cons d ds=>
    unfold aX at h;obtain⟨ss,q⟩:=iD h.2 rr λd hd=>hf d (Pb _ hd)
    obtain⟨y,rfl⟩:=hf d Pe;have z1:=h.1.str_inv;subst z1;obtain⟨t,rfl⟩:=r0;exact⟨y::ss,.cons y t q⟩
theorem ec:∀{xs:List V} {us:List Value} {ds:List D},aX H xs ds->ar xs us->(∀d∈ds,SK.i.ok d)->∃ss,IntsAre us ss
 | [],us,ds,_,r,_=>by cases r;exact⟨[],.nil⟩
 | x::xs,us,ds,h,r,hf=>by
  cases r with
  | cons r0 rr=>
   cases ds with
   | nil=>unfold aX at h;exact h.elim
   | cons d ds=>
    unfold aX at h;obtain⟨ss,q⟩:=ec h.2 rr λd hd=>hf d (Pb _ hd)
    obtain⟨y,rfl⟩:=hf d Pe;have z1:=h.1.int_inv;subst z1;obtain⟨t,rfl⟩:=r0;exact⟨y::ss,.cons y t q⟩
theorem Gq (hok:d4 P w H s.heap) (k:SK) {xs:List V} {us:List Value} {ds:List D} (hd:aX H xs ds) (r:ar xs us) (hf:∀d∈ds,k.ok d) (h2:2<=us.length) {Q:SortKind->Shared->Prop} {E:Value->Shared->Prop} (q:Q k.κ s):
  wpAny (model prog w) A (keyKind' us.toArray) Q E s:=by
 have tup:k= .tt\/k= .ts\/k= .ti->wpAny (model prog w) A (keyKind' us.toArray) Q E s:=λhk=>by obtain⟨fs,t,l,lk⟩:=sY (prog:=prog) hok hk hd r hf;refine kat_kind t (by lia) lk (by rcases hk with rfl | rfl | rfl <;> rfl) ?_;rcases hk with rfl | rfl | rfl <;> exact q
 cases k with
 | tt=>exact tup (.inl rfl)
 | ts=>exact tup (.inr (.inl rfl))
 | ti=>exact tup (.inr (.inr rfl))
 | s=>
  obtain⟨ss,hs⟩:=iD hd r hf
  match us,h2,hs with
  | v1::v2::vs,_,hs=>rw[keyKind_strs hs];exact O6 q
 | i=>
  obtain⟨ss,hs⟩:=ec hd r hf
  match us,h2,hs with
  | v1::v2::vs,_,hs=>rw[keyKind_ints hs];exact O6 q
end
noncomputable def jK (ds:List D):Prop:=ds.length < 1000000/\(2<=ds.length->D.cn ds<=100/\(∃k:SK,∀d∈ds,k.ok d)/\∀d∈ds,∀e∈ds,D.ek d e)
section
variable {X:Cx} {pins:List (Addr×Obj)} {σ:L2.St} {H:Hp}
theorem lZ {s:Shared} {A:Around} {Q:PySem.Fin->Shared->Prop} {E:Value->Shared->Prop} (hu:A.units + 148 < cLine) (I:Inv X pins σ H s) {ys:List V} {its:List Value} {ds:List D} (rv:ar ys its) (nZ:aX H ys ds) (hc:jK ds)
  (q:∀(l:Addr) (zs:List V) (es:List D) (s':Shared),H l=none->aX H zs es->gN ds es->Inv X pins σ (upd H l (.lst zs)) s'->Q (.done (.ret (.ref l))) s'):
  wpAny (model X.prog X.w) A (do let l<-newList its;let _<-holding [l] (call (.builtin "list.sort") [l] []);ret l) Q E s:=by
 obtain⟨hlen,hc⟩:=hc;have hl:=rv.length;have eB:=nZ.length;have sQ:its.length<=sizeLine:=by rw[sizeLine_eq];lia
 refine O3 (wpAny_newList ?_ (by simpa using sQ));have Iy:(s.heap.push (seqObj "list" its.toArray 0)).get? s.heap.objs.size=some (seqObj "list" its.toArray 0):=Pf _ rfl;show wpAny _ _ _ _ _ {s with heap:=s.heap.push (seqObj "list" its.toArray 0)};have ne:∀b o,s.heap.get? b=some o->b≠s.heap.objs.size:=λb o e=>PJ (Pi e)
 refine O3 (wpAny_holding (wpAny_call_entry slot_list_sort (s:={s with heap:=s.heap.push (seqObj "list" its.toArray 0)}) ⟨_,Iy,rfl⟩ entry_list_sort
  (yu (s:={s with heap:=s.heap.push (seqObj "list" its.toArray 0)}) (O:=Fp) (key:=λi=>ds.getD i (.int 0)) Iy (by lia) (λh2 h' kk=>?_) λp h' e hp IC kk hD=>?_) (args_list_sort _)))
 ·obtain⟨zU,⟨k,hf⟩,uH⟩:=hc (by lia);have zY:d4 X.prog X.w H h':=I.hok.kept λb o e=>kk b o (ne b o e) (O5 _ e)
  refine⟨k.κ,λQ' E' q'=>Gq (s:={s with heap:=h'}) zY k nZ rv hf (by lia) q',λi j hi hj C hC=>?_,λi j hi hj eij=>?_⟩
  ·obtain⟨di,Fs,Ig⟩:=nZ.get (i:=i) (x:=ys[i]'(by lia)) (by simp);obtain⟨dj,Ih,JI⟩:=nZ.get (i:=j) (x:=ys[j]'(by lia)) (by simp);obtain⟨ui,Ks,Lg⟩:=rv.get (i:=i) (x:=ys[i]'(by lia)) (by simp);obtain⟨uj,Kt,Lh⟩:=rv.get (i:=j) (x:=ys[j]'(by lia)) (by simp);unfold kas_ask;rw[show its.getD i Value.none=ui by simp[Ks],show its.getD j Value.none=uj by simp[Kt]];have ki:ds.getD i (.int 0)=di:=by simp[Fs]
   have kj:ds.getD j (.int 0)=dj:=by simp[Ih]
   have mi:di∈ds:=List.mem_of_getElem? Fs;have mj:dj∈ds:=List.mem_of_getElem? Ih;refine Al (s:={s with heap:=h'}) zY (n:=100) (by show A.units + 1 + 100 < cLine;lia) k (Pj (mI Fs) (by lia)) (uH di mi dj mj) (hf di mi) (hf dj mj) Ig JI Lg Lh ?_;have L0:C (D.lt (ds.getD i (.int 0)) (ds.getD j (.int 0))) {s with heap:=h'}:=hC;rw[ki,kj] at L0;exact L0
  ·obtain⟨di,Fs,Ig⟩:=nZ.get (i:=i) (x:=ys[i]'(by lia)) (by simp);obtain⟨dj,Ih,JI⟩:=nZ.get (i:=j) (x:=ys[j]'(by lia)) (by simp);obtain⟨ui,Ks,Lg⟩:=rv.get (i:=i) (x:=ys[i]'(by lia)) (by simp);obtain⟨uj,Kt,Lh⟩:=rv.get (i:=j) (x:=ys[j]'(by lia)) (by simp);rw[show its.getD i Value.none=ui by simp[Ks],show its.getD j Value.none=uj by simp[Kt]] at eij;subst eij;have ki:ds.getD i (.int 0)=di:=by simp[Fs]
   have kj:ds.getD j (.int 0)=dj:=by simp[Ih]
   show ds.getD i (.int 0)=ds.getD j (.int 0);rw[ki,kj];rw[Lg.inj Lh] at Ig;exact Ig.inj JI
 ·refine⟨_,rfl,O6 ?_⟩;have lM:p.toList.Perm (List.range its.length):=hp;have vn:∀i∈p.toList,i < ys.length:=λi hi=>by
   have:=P5.mp (lM.mem_iff.mp hi)
   lia
  have new:bF X.prog X.w (upd H s.heap.objs.size (.lst (p.toList.map λi=>ys.getD i .bg))) h' s.heap.objs.size (.lst (p.toList.map λi=>ys.getD i .bg)):=
   ⟨by rw[Ph,lM.length_eq,List.length_range];rw[sizeLine_eq];lia,_,e,pT rv vn,hD⟩
  have I2:=I.laid (t':=s.toks) (a:=s.heap.objs.size) (λb o q=>kk b o (ne b o q) (O5 _ q)) (Pd _) new;refine q _ _ (p.toList.map λi=>ds.getD i (.int 0)) _ (I.hok.fresh (Pd _)) (nZ.map vn) ⟨?_,?_⟩ I2
  ·have e1:=lM.map (λi=>ds.getD i (.int 0));rw[show its.length=ds.length by lia] at e1;rw[ka] at e1;exact e1
  ·have Ku:∀i j,i<=j->j < its.length->D.lt (ds.getD (p.getD j 0) (.int 0)) (ds.getD (p.getD i 0) (.int 0))=false:=IC;have g0:p.toList.length=its.length:=by rw[lM.length_eq,List.length_range]
   rw[List.pairwise_map,List.pairwise_iff_getElem];intro i j hi hj fN;have:=Ku i j (by lia) (by lia);rw[show p.getD i 0=p.toList[i] by simp at hi;simp[Array.getD,hi],show p.getD j 0=p.toList[j] by simp at hj;simp[Array.getD,hj]] at this;exact this
end
noncomputable def DU (K:PySem.W.Frag):List V->Hp->VK->Prop:=λxs H Q=>∃a ys ds,xs=[.ref a]/\(cT K H a ys\/d5 K H a ys)/\aX H ys ds/\jK ds/\∀l zs es,H l=none->aX H zs es->gN ds es->Q (.ref l) (upd H l (.lst zs))
theorem mz {X:Cx} (hu:X.A.units + 150 < cLine):eR X (.builtin "sorted") (DU X.K):=by
 intro pins s σ H xs us Q I r h;obtain⟨a,ys,ds,rfl,hq,nZ,hc,q⟩:=h;obtain⟨u,rfl,ru⟩:=r.one;cases ru;have sh:∃(its:List Value) (T:String) (o:Obj) (n:Nat),ar ys its/\(T="list"\/T="tuple")/\s.heap.get? a=some o/\o.cls= .type T/\o.data= .seq its.toArray n:=by
  rcases hq with hq | hq
  ·obtain⟨its,rv,⟨o,n,ho,hc,_,hd⟩,_⟩:=I.list hq;exact⟨its,"list",o,n,rv,.inl rfl,ho,hc,hd⟩
  ·obtain⟨its,rv,⟨o,ho,hc,n,hd⟩,_⟩:=I.tuple hq;exact⟨its,"tuple",o,n,rv,.inr rfl,ho,hc,hd⟩
 obtain⟨its,T,o,n,rv,hT,ho,uC,hd⟩:=sh;have sQ:its.length<=sizeLine:=by rw[sizeLine_eq,<-rv.length,nZ.length];have:=hc.1;lia
 refine Calls.call_function_entry kind_sorted plain_sorted entry_sorted (args_sorted1 _) ?_;unfold Builtin.«sorted»;refine O3 (m:=checkCount "sorted" 1 1 _) (O6 (O3 (wpAny_collect_seq a hT ho uC hd (λh1 k1=>?_) (by rw[O8];exact sQ))));have I1:Inv X pins σ H {s with heap:=h1}:=I.kept (t':=s.toks) k1;exact lZ (A:=X.A.in1) (by show X.A.units + 1 + 148 < cLine;lia) I1 rv nZ hc λl zs es s' hl hz hso I2=>⟨_,rfl,.ref l,_,I2,rfl,q l zs es hl hz hso⟩
theorem oI {H:Hp}:∀ks:List Str,aX H (ks.map V.str) (ks.map D.str)
 | []=>aX.nil
 | k::ks=>aX.cons DV.str (oI ks)
theorem lF:∀ks:List Str,D.cn (ks.map D.str)<=0
 | []=>by show D.cn []<=0;unfold D.cn;exact Pd _
 | k::ks=>by
  have:=lF ks;show D.cn (D.str k::ks.map D.str)<=0;unfold D.cn;have e:D.dep (D.str k)=0:=by unfold D.dep;rfl
  lia
theorem rm {X:Cx} (hu:X.A.units + 150 < cLine) (hc:X.calm=true) {pins:List (Addr×Obj)} {s:Shared} {σ:L2.St} {H:Hp} {S:Addr} {ks:List Str} {Q:VK} (I:Inv X pins σ H s) (hS:cu X.prog X.w s.heap S ks) (hlen:ks.length < 1000000)
  (q:∀l zs es,H l=none->aX H zs es->gN (ks.map D.str) es->Q (.ref l) (upd H l (.lst zs))):wpAny (model X.prog X.w) X.A (call (.builtin "sorted") [.ref S]) (EP X pins σ Q) X.xe s:=by
 refine Calls.call_function_entry kind_sorted plain_sorted entry_sorted (args_sorted1 _) ?_;unfold Builtin.«sorted»;refine O3 (m:=checkCount "sorted" 1 1 _) (O6 (O3 (rK (I.ok.hd hc) hS λh' d' tk vs cW kk p1 p2=>?_)));have I1:Inv X pins σ H {s with heap:=h',drawn:=d',toks:=tk}:=by
  refine I.step (g':=s.gens) (ch:=[]) (λb hb=>by cases hb) (λb o _ _ _ e _=>kk b o e) (λb o _ _ _ e _=>⟨o.slots,kk b o e⟩)
   (λb o _ e n=>n) (λb o _ e=>⟨o,kk b o e⟩) (λb zs e=>e) (λb o u e=>e) (λb ps e=>⟨#[],by rw[e];simp⟩) (λm hm=>?_) (λb u q=>?_) I.bare
  ·obtain⟨o,dk,ep,ho,rr⟩:=hm;exact⟨o,dk,ep,kk _ o ho,rr⟩
  ·exact(I.hok b u q).kE (λc v _ z=>kk c v z) (λc z=>z) λc zs z=>z
 have nZ:aX H (cW.map V.str) (cW.map D.str):=oI cW;refine lZ (A:=X.A.in1) (by show X.A.units + 1 + 148 < cLine;lia) I1 p2 nZ ⟨by rw[Ph,p1.length_eq];exact hlen,λ_=>⟨?_,⟨.s,λd hd=>?_⟩,λd hd e he=>?_⟩⟩ λl zs es s' hl hz hso I2=>⟨_,rfl,.ref l,_,I2,rfl,q l zs es hl hz ⟨hso.1.trans (p1.map _),hso.2⟩⟩
 ·exact Pj (lF cW) (Nat.zero_le _)
 ·obtain⟨x,_,rfl⟩:=PP.mp hd;exact⟨x,rfl⟩
 ·obtain⟨x,_,rfl⟩:=PP.mp hd;obtain⟨y,_,rfl⟩:=PP.mp he;unfold D.ek;trivial
end Mx
end
section
namespace Mx
open PySem PySem.W PySem.Spec PyProof.Rows L2
theorem tJ (ns:List Int):∀j,preSum (λi=>ns.getD i 0) j=(ns.take j).sum
 | 0=>by simp[preSum]
 | j + 1=>by
  rw[preSum,tJ ns j];by_cases h:j < ns.length
  ·have e:ns.take (j + 1)=ns.take j++[ns[j]]:=by rw[List.take_append_getElem h]
   rw[e,List.sum_append];simp[h]
  ·rw[List.take_of_length_le (by lia),List.take_of_length_le (by lia)];simp[show ns.length<=j by lia]
theorem int_at {ns:List Int} {its:List Value} (r:ar (ns.map V.int) its) {i:Nat} {v:Value} (h:its[i]?=some v):∃t,v= .int (ns.getD i 0) t:=by
 have hl:=r.length;have hi:i < ns.length:=by
  have:=(Pa.mp h).1;simp at hl
  lia
 obtain⟨u,hu,ru⟩:=r.get (i:=i) (x:=V.int (ns.getD i 0)) (by simp[hi]);rw[h] at hu;cases hu;exact ru
section
variable {X:Cx}
theorem xt {prog:Program} {w:World} {A:Around} {E:Value->Shared->Prop} {s:Shared} {l:Addr} {items:Array Value} {Q:Value->Shared->Prop} (hl:s.heap.IsList l items)
  (h:∀s2:Shared,s2={s with heap:=s.heap.push {cls:= .type "list_iterator",data:= .fields #[.ref l,.int 0 0]}}->(s2.heap.IsListIter s.heap.objs.size l 0/\s2.heap.IsList l items)->(∀b∈[s.heap.objs.size,l],b < s2.heap.objs.size)->l≠s.heap.objs.size->
   (∀(b:Addr) (o:Obj),s.heap.get? b=some o->b∉[s.heap.objs.size]/\s2.heap.get? b=some o)->Q (.ref s.heap.objs.size) s2):wpAny (model prog w) A (pyIter (.ref l)) Q E s:=by
 have lt:l < s.heap.objs.size:=by obtain⟨_,e,_⟩:=hl;exact Pi e
 refine wpAny_pyIter_list hl (h _ rfl ⟨⟨_,Pf _ rfl,rfl,rfl⟩,hl.push _⟩ (λb hb=>?_) (PJ lt) λb o e=>⟨?_,O5 _ e⟩)
 ·show b < (s.heap.push _).objs.size;rw[PH];simp only[Pk,Pl,or_false] at hb;have lt':l < s.heap.objs.size:=lt;rcases hb with rfl | rfl
  ·exact Nat.lt_succ_self _
  ·exact Nat.lt_succ_of_lt lt'
 ·intro hb;have:=Pi e;rw[PN.mp hb] at this;exact Nat.lt_irrefl _ this
noncomputable def Lc (K:PySem.W.Frag):List V->Hp->VK->Prop:=λxs H Q=>∃(l:Addr) (ns:List Int),xs=[.ref l]/\cT K H l (ns.map V.int)/\Q (.int ns.sum) H
theorem vW (hc:X.calm=true):eR X (.builtin "sum") (Lc X.K):=by
 intro pins s σ H xs us Q I r h;obtain⟨l,ns,rfl,hq,q⟩:=h;obtain⟨u,rfl,ru⟩:=r.one;cases ru;obtain⟨its,rv,pl,hz⟩:=I.list hq;have hl:its.length=ns.length:=by rw[<-rv.length];simp
 refine call_sum_walkG (xt pl.isList λs2 e st fp ne old=>?_);refine⟨_,_,_,_,_,_,λi=>ns.getD i 0,rfl,Walks.list (A:=X.A.in1) (I.ok.hd hc) _ l ne its.toArray,st,fp,λi v hv=>?_,λh' tk t' hk=>?_⟩
 ·have Kw:its.toArray[i]?=some v:=hv;exact int_at rv (by simpa using Kw)
 ·subst e;refine⟨.int _,H,I.kept λb o e=>hk b o (old b o e).1 (old b o e).2,⟨t',rfl⟩,?_⟩;rw[show its.toArray.size=ns.length by simp[hl],tJ,List.take_length];exact q
end
theorem gn {i:Nat} {v:V} {σ:L2.St} {H:Hp} {k:L2.St->Hp->Prop} (h:k (σ.set i (some v)) H):dQ i v σ H k:=h
end Mx
end
section
namespace Mx
open PySem PySem.W PySem.Spec PyProof.Rows L2 HT
open PySem.AutoSeq1 (wpAny_loadPart')
theorem tuple_addW0 (l b:Addr) (items fu:Array Value) (n n2:Nat) (dd yY:Option Addr) (sl vt:Array (Option Value)) (NB:items.isEmpty=true):
  Meets (Builtin.«tuple.__add__» ⟨[.ref l,.ref b],[]⟩) (λ_ R s=>s.heap.get? l=some {cls:= .type "tuple",dict:=dd,data:= .seq items n,slots:=sl}/\s.heap.get? b=some {cls:= .type "tuple",dict:=yY,data:= .seq fu n2,slots:=vt}/\R (.ok (.ret (Value.ref b))) s):=
 .of_wp λprog w A R s h=>by
  obtain⟨hp,g,d,tk,os⟩:=s;obtain⟨hl,hb,h⟩:=h;have f2:=sub_tuple_tuple
  wp_walk using wpAny_loadPart' hl,wpAny_loadPart' hb
  exact⟨_,rfl,h⟩
theorem xu {α:Type} (pre:List α) (x:α):mY (pre++[x]).length (-1)=some pre.length:=by
 unfold mY;rw[if_neg (by decide),if_pos (by simp;lia)];simp
 lia
theorem ox {α:Type} (pre:List α) (x:α):jM (pre++[x]) (-1)=some x:=by unfold jM;rw[xu];simp
end Mx
end
section
namespace Mx
open PySem PySem.W PySem.Spec PyProof.Rows L2
noncomputable def K7 (K:PySem.W.Frag):List V->Hp->VK->Prop:=λxs H Q=>∃(l:Addr) (ns:List Int),xs=[.ref l]/\cT K H l (ns.map V.int)/\ns≠[]/\∀m,m∈ns->(∀a∈ns,m<=a)->Q (.int m) H
theorem EC {X:Cx} (hc:X.calm=true):eR X (.builtin "min") (K7 X.K):=by
 intro pins s σ H xs us Q I r h;obtain⟨l,ns,rfl,hq,iM,q⟩:=h;obtain⟨u,rfl,ru⟩:=r.one;cases ru;obtain⟨its,rv,pl,hz⟩:=I.list hq;have i1:IntsAre its ns:=intsAre_of rv;have xi:=i1.numsOf;have vm:=i1.allInts;have hl:=pl.isList;obtain⟨xs,Ae⟩:=vm.items;have kU:numsOf (intItems xs).toList=ns:=by rw[<-Ae];exact xi
 rw[nums_intItems] at kU;rw[Ae] at hl;have hlen:ns.length=xs.size:=by rw[<-kU,Ph,Pt]
 have zZ:0 < xs.size:=by rw[<-hlen];exact List.length_pos_iff.mpr iM
 refine min_intList (I.ok.hd hc) hl zZ λv h' tk hv hk=>?_
 obtain⟨t,rfl⟩:=intItems_at hv;obtain⟨h1,h2⟩:=argBest_lt (numAt xs) (xs.size - 1);refine⟨.int _,H,I.kept hk,⟨t,rfl⟩,q _ ?_ λa ha=>?_⟩
 ·rw[numAt_eq,kU];exact getD_mem (by lia)
 ·obtain⟨j,hj,rfl⟩:=mem_getD ha;rw[<-kU,<-numAt_eq];exact h2 j (by lia)
noncomputable def K6 (K:PySem.W.Frag):List V->Hp->VK->Prop:=λxs H Q=>∃(l:Addr) (ns:List Int),xs=[.ref l]/\cT K H l (ns.map V.int)/\ns≠[]/\∀m,m∈ns->(∀a∈ns,a<=m)->Q (.int m) H
theorem um {X:Cx} (hc:X.calm=true):eR X (.builtin "max") (K6 X.K):=by
 intro pins s σ H xs us Q I r h;obtain⟨l,ns,rfl,hq,iM,q⟩:=h;obtain⟨u,rfl,ru⟩:=r.one;cases ru;obtain⟨its,rv,pl,hz⟩:=I.list hq;have i1:IntsAre its ns:=intsAre_of rv;have xi:=i1.numsOf;have vm:=i1.allInts;have hl:=pl.isList;obtain⟨xs,Ae⟩:=vm.items;have kU:numsOf (intItems xs).toList=ns:=by rw[<-Ae];exact xi
 rw[nums_intItems] at kU;rw[Ae] at hl;have hlen:ns.length=xs.size:=by rw[<-kU,Ph,Pt]
 have zZ:0 < xs.size:=by rw[<-hlen];exact List.length_pos_iff.mpr iM
 refine max_intList (I.ok.hd hc) hl zZ λv h' tk hv hk=>?_
 obtain⟨t,rfl⟩:=intItems_at hv;obtain⟨h1,h2⟩:=argBest_gt (numAt xs) (xs.size - 1);refine⟨.int _,H,I.kept hk,⟨t,rfl⟩,q _ ?_ λa ha=>?_⟩
 ·rw[numAt_eq,kU];exact getD_mem (by lia)
 ·obtain⟨j,hj,rfl⟩:=mem_getD ha;rw[<-kU,<-numAt_eq];exact h2 j (by lia)
end Mx
end
section
namespace L2
open PySem PySem.Spec PyProof.Rows
noncomputable def dE (e:Expr) (d:Nat) (it acc:Value) (env:Env) (target:Expr) (ifs:List Expr) (p:Pos) (body:Sem Unit):Sem PySem.Fin:=do
 standAt p
 match<-pyNext it with
 | none=>pure (.done .next)
 | some v=>
  letOwnedTupleGo target it v
  assign target env v
  let mut ok:=true
  for c in ifs do
   if ok then ok<-isTrue c env (eval c env)
  if ok then body
  again (.compLoop e d it acc env)
theorem mE {prog:Program} {w:World} {A:Around} {R:Result->Shared->Prop} {s:Shared} {elt target:Expr} {gens:List Comprehension} {scope:Scope} {pos:Pos} {d:Nat} {ifs:List Expr} {p:Pos} {it acc:Value} {env:Env} {body:Sem Unit} (heq:compTurn (.ListComp elt gens scope pos) d it acc env=dE (.ListComp elt gens scope pos) d it acc env target ifs p body) {EE:Value->Shared->Prop}
  (FB:∀x s',EE x s'->notedBy (model prog w) A env (λx s'=>R (.error x) s') x s') (I:Nat->Shared->Prop)
  (turn:∀n s,I n s->wpAny (model prog w) A (pyNext it) (λr s₁=>match r with
   | none=>R (.ok .next) s₁
   | some v=>wpAny (model prog w) A (letOwnedTupleGo target it v) (λ_ s₁'=>wpAny (model prog w) A (assign target env v) (λ_ s₂=>
     wpAny (model prog w) A (forIn ifs true λc r=>if r=true then do let ok<-isTrue c env (eval c env);pure (ForInStep.yield ok) else pure (ForInStep.yield r)) (λok s₃=>
      if ok=true then wpAny (model prog w) A body (λ_ s₄=>∃m,m < n/\I m s₄) EE s₃
      else∃m,m < n/\I m s₃) EE s₂) EE s₁') EE s₁) EE s)
  (n:Nat) (h:I n s):codeAny (model prog w) A (.compLoop (.ListComp elt gens scope pos) d it acc env) R s:=by
 refine codeAny_loop rfl I (λn s hI=>?_) n h;show wpAny _ A ((compTurn (.ListComp elt gens scope pos) d it acc env).onRaise (λx=>do noteFrame x env;theTreesLotGoes x)) _ _ s;refine wpAny_noted ?_;rw[heq];unfold dE;refine O3 (wpAny_standAt (O3 (wpAny_mono (turn n s hI) (λr s₁ h₁=>?_) FB)));cases r with
 | none=>exact O6 h₁
 | some v=>
  refine O3 (wpAny_mono h₁ (λ_ s₁' h₁'=>?_) FB);refine O3 (wpAny_mono h₁' (λ_ s₂ h₂=>O3 (wpAny_mono h₂ (λok s₃ h₃=>?_) FB)) FB);cases ok with
  | false=>exact O6 ⟨rfl,h₃⟩
  | true=>exact O3 (wpAny_mono h₃ (λ_ s₄ h₄=>O6 ⟨rfl,h₄⟩) FB)
noncomputable def gr (elt:Expr) (acc:Value) (env:Env):Sem Unit:=do let _<-call (.builtin "list.append") [acc,<-eval elt env]
noncomputable def nextOf (e:Expr) (d:Nat) (iter:Expr) (acc:Value) (env:Env):Sem Unit:=do
 let x<-eval iter env
 standAt iter.pos
 let x<-foldedSetIterable iter env x
 let _<-runOwn (.compStart e d (<-holding [x] (pyIter x)) acc env) env
theorem pQ (elt target iter:Expr) (ifs:List Expr) (scope:Scope) (pos:Pos) (it acc:Value) (env:Env):
  compTurn (.ListComp elt [⟨target,iter,ifs,0⟩] scope pos) 0 it acc env=dE (.ListComp elt [⟨target,iter,ifs,0⟩] scope pos) 0 it acc env target ifs iter.pos (gr elt acc env):=by rfl
theorem pR (elt target iter a9 bH:Expr) (ifs bY:List Expr) (scope:Scope) (pos:Pos) (it acc:Value) (env:Env):
  compTurn (.ListComp elt [⟨target,iter,ifs,0⟩,⟨a9,bH,bY,0⟩] scope pos) 0 it acc env=
   dE (.ListComp elt [⟨target,iter,ifs,0⟩,⟨a9,bH,bY,0⟩] scope pos) 0 it acc env target ifs iter.pos (nextOf (.ListComp elt [⟨target,iter,ifs,0⟩,⟨a9,bH,bY,0⟩] scope pos) 1 bH acc env):=by
 unfold dE nextOf;simp only[bind_assoc,pure_bind];rfl
theorem Bd (elt target iter a9 bH:Expr) (ifs bY:List Expr) (scope:Scope) (pos:Pos) (it acc:Value) (env:Env):
  compTurn (.ListComp elt [⟨target,iter,ifs,0⟩,⟨a9,bH,bY,0⟩] scope pos) 1 it acc env=
   dE (.ListComp elt [⟨target,iter,ifs,0⟩,⟨a9,bH,bY,0⟩] scope pos) 1 it acc env a9 bY bH.pos (gr elt acc env):=by rfl
noncomputable def Le (σ σ2:St):Prop:=σ2.length=σ.length/\∀(j:Nat) (v:V),σ[j]?=some (some v)->σ2[j]?=some (some v)
theorem Le.refl (σ:St):Le σ σ:=⟨rfl,λ_ _ h=>h⟩
noncomputable def GL (σ0:St) (g:TG):Prop:=∀x σ H (Q:St->Hp->Prop),Le σ0 σ->g x σ H Q->g x σ H λσ2 H2=>Le σ0 σ2/\Q σ2 H2
noncomputable def E0 (σ0:St) (g:vA):Prop:=∀x σ H (Q:St->Hp->Prop),Le σ0 σ->g x σ H Q->g x σ H λσ2 H2=>Le σ0 σ2/\Q σ2 H2
theorem Le.set {k:Nat} {σ0 σ:St} {v:Option V} (h:σ0[k]?=some none) (q:Le σ0 σ):Le σ0 (σ.set k v):=⟨by simpa using q.1,λj w hj=>by
 rw[Pp (by rintro rfl;rw[h] at hj;cases hj)];exact q.2 j w hj⟩
theorem zN {σ0:St} {k:Nat} (h:σ0[k]?=some none):GL σ0 (dQ k):=λx σ H Q p q=>⟨p.set h,q⟩
theorem zO {σ0:St}:E0 σ0 CA:=λx σ H Q p q=>⟨q.1,p,q.2⟩
theorem wO {σ0:St} {k:Nat} {u:vA} (h:σ0[k]?=some none) (hu:E0 σ0 u):E0 σ0 (wH (dQ k) u):=λx σ H Q p q=>by obtain⟨v,r,e,q⟩:=q;exact⟨v,r,e,hu r _ H Q (p.set h) q⟩
theorem CD {σ0:St} {K:PySem.W.Frag} {n:Nat} {u:vA} (hu:E0 σ0 u):GL σ0 (CB K n u):=λx σ H Q p q=>by obtain⟨a,xs,e,h1,h2,q⟩:=q;exact⟨a,xs,e,h1,h2,hu xs σ H Q p q⟩
theorem Inv.le {X:Cx} {pins:List (Addr×Obj)} {σ σ2:St} {H:Hp} {s:Shared} (I:Inv X pins σ2 H s) (h:Le σ σ2):Inv X pins σ H s:=I.weak h.1.symm h.2
noncomputable abbrev TB:=St->Hp->(Hp->Prop)->Prop
noncomputable def PB (X:Cx) (body:Sem Unit) (tb:TB):Prop:=∀(pins:List (Addr×Obj)) (s:Shared) (σ:St) (H:Hp) (Q:Hp->Prop),Inv X pins σ H s->tb σ H Q->wpAny (model X.prog X.w) X.A body (λ_ s'=>∃H',Inv X pins σ H' s'/\Q H') X.xe s
noncomputable def oq (J:It) (g:TG) (tt:TT) (tb:TB) (σ0:St) (F:Hp->Prop) (H1:Hp):Prop:=
 ∃W:Nat->Nat->Hp->Prop,(∃m,W 0 m H1)/\∀i m H,W i m H->
  (J.stop i H/\F H)\/(J.go i H/\∀x H',J.yld i H x H'->g x σ0 H' λσ2 H2=>tt σ2 H2 λb H3=>if b=true then tb σ2 H3 λH4=>∃m',m' < m/\W (i + 1) m' H4 else∃m',m' < m/\W (i + 1) m' H3)
section
variable {X:Cx} {g:TG} {tt:TT} {tb:TB}
theorem lE (hc:X.calm=true) {elt target:Expr} {gens:List Comprehension} {scope:Scope} {pos:Pos} {d:Nat} {ifs:List Expr} {p:Pos} {acc:Value} {body:Sem Unit} {R:Result->Shared->Prop} {pins:List (Addr×Obj)} {σ0:St} {H0:Hp} {s0:Shared} {it:Addr} {fp:List Addr} {tn:Nat->Heap->Prop} {J:It} {F:Hp->Prop}
  (heq:compTurn (.ListComp elt gens scope pos) d (.ref it) acc X.env=dE (.ListComp elt gens scope pos) d (.ref it) acc X.env target ifs p body) (hx:∀x s',X.xe x s'->notedBy (model X.prog X.w) X.A X.env (λx s'=>R (.error x) s') x s')
  (hg:PG X target g) (jh:GL σ0 g) (ht:Bj X ifs tt) (hb:PB X body tb) (I0:Inv X pins σ0 H0 s0) (T:Turn X.prog X.w X.K target J fp it tn) (cQ:tn 0 s0.heap) (f0:∀b∈fp,gp X pins H0 b)
  (hW:oq J g tt tb σ0 F H0) (fin:∀s' H',Inv X pins σ0 H' s'->F H'->R (.ok .next) s'):codeAny (model X.prog X.w) X.A (.compLoop (.ListComp elt gens scope pos) d (.ref it) acc X.env) R s0:=by
 obtain⟨W,⟨m0,w0⟩,turn⟩:=hW;have nM:∀{H':Hp},(∀b∈fp,H' b=none)->∀b∈fp,gp X pins H' b:=λhn b hb=>⟨hn b hb,(f0 b hb).2⟩
 refine mE heq hx (λn s'=>∃i H',Inv X pins σ0 H' s'/\tn i s'.heap/\(∀b∈fp,H' b=none)/\W i n H') ?_ m0 ⟨0,H0,I0,cQ,λb hb=>(f0 b hb).1,w0⟩;rintro n s4 ⟨i,H4,I4,Hn,LW,w4⟩;rcases turn i n H4 w4 with ⟨stop,qn⟩ | ⟨go,step⟩
 ·refine bq (T.done X rfl rfl rfl hc i pins s4 _ H4 X.xe I4 (nM LW) Hn stop) λr s5 ⟨hr,I5⟩=>?_
  subst hr;exact fin s5 H4 I5 qn
 ·refine bq (T.item X rfl rfl rfl hc i pins s4 _ H4 X.xe I4 (nM LW) Hn go) λr s5 ⟨u,hr,h5⟩=>?_
  subst hr;refine bq h5 λ_ s6 ⟨x,H6,I6,r6,y6,Lr,Nb⟩=>?_
  have MZ:=I6.pinned (nM Nb) (T.obj _ _ Lr);have again:∀{s7:Shared} {σ7:St} {H7:Hp} {m7:Nat},Inv X (pins++ko fp s6.heap) σ7 H7 s7->Le σ0 σ7->m7 < n->W (i + 1) m7 H7->
    ∃m,m < n/\∃i H',Inv X pins σ0 H' s7/\tn i s7.heap/\(∀b∈fp,H' b=none)/\W i m H':=λ {s7 σ7 H7 m7} I7 hσ hm w7=>by
   refine⟨m7,hm,i + 1,H7,I7.iE.le hσ,T.keep _ _ _ Lr λb hb o e=>(I7.pin (b,o) (PL _ (PL _ (et hb e)))).1,λb hb=>?_,w7⟩;obtain⟨o,e,d⟩:=T.obj _ _ Lr b hb;exact(I7.pin (b,o) (PL _ (PL _ (et hb e)))).2.1
  refine bq (hg _ s6 _ H6 x u _ MZ r6 (jh x _ H6 _ (Le.refl _) (step x H6 y6))) λ_ s7 ⟨σ7,H7,I7,My,q7⟩=>?_
  refine bq (ht _ s7 σ7 H7 _ I7 q7) λb s8 ⟨H8,I8,q8⟩=>?_
  cases b with
  | false=>rw[if_neg (by simp)] at q8 ⊢;obtain⟨m',hm,w8⟩:=q8;exact again I8 My hm w8
  | true=>
   rw[if_pos rfl] at q8 ⊢;refine bq (hb _ s8 σ7 H8 _ I8 q8) λ_ s9 ⟨H9,I9,m',hm,w9⟩=>?_
   exact again I9 My hm w9
noncomputable def tW (D:Addr) (te:TE):TB:=λσ H Q=>te σ H λv H4=>∃dB,H4 D=some (.lst dB)/\dB.length < sizeLine/\Q (upd H4 D (.lst (dB++[v])))
theorem jF {elt:Expr} {te:TE} {D:Addr} (he:PE X elt te):PB X (gr elt (.ref D) X.env) (tW D te):=by intro pins s σ H Q I h;unfold gr;refine O3 (bq (he pins s σ H _ I h) λy s9 ⟨v,H9,I9,r9,dB,Nm,hz,q⟩=>?_);refine O3 (bq (lU _ s9 σ H9 (.ref D) [v] (.ref D) [y] (λ_ H'=>H'=upd H9 D (.lst (dB++[v]))) I9 rfl (.cons r9 .nil) ⟨D,dB,v,rfl,rfl,Nm,hz,rfl⟩) λ_ s10 ⟨_,OG,MX,_,M6⟩=>?_);subst M6;exact O6 ⟨_,MX,q⟩
theorem mF {prog:Program} {w:World} {A:Around} {R:Result->Shared->Prop} {s:Shared} {elt target iter a9 bH:Expr} {ifs bY:List Expr} {scope:Scope} {pos:Pos} {it acc:Value} {env:Env}
  (h0:codeAny (model prog w) A (.compLoop (.ListComp elt [⟨target,iter,ifs,0⟩,⟨a9,bH,bY,0⟩] scope pos) 1 it acc env) R s)
  (h:wpAny (model prog w) A (pyIter it) (λjk s'=>codeAny (model prog w) A (.compLoop (.ListComp elt [⟨target,iter,ifs,0⟩,⟨a9,bH,bY,0⟩] scope pos) 1 jk acc env) R s')
   (notedBy (model prog w) A env λx s'=>R (.error x) s') s):
  codeAny (model prog w) A (.compStart (.ListComp elt [⟨target,iter,ifs,0⟩,⟨a9,bH,bY,0⟩] scope pos) 1 it acc env) R s:=by
 refine codeAny_of_tree ?_;show wpAny _ _ ((compStart (.ListComp elt [⟨target,iter,ifs,0⟩,⟨a9,bH,bY,0⟩] scope pos) 1 it acc env).onRaise (λx=>do noteFrame x env;standAt theWindowsPlace)) _ _ s;refine wpAny_notedAt ?_;unfold compStart;show wpAny _ _ (ask >>=_) _ _ s;refine O3 (wpAny_askSetting (wpAny_ite ?_));split
 ·first
   | exact O3 (O6 (O6 (And.intro rfl h0)))
   | exact O6 (And.intro rfl h0)
 ·first
   | exact O3 (wpAny_rule (O3 (wpAny_standAt (O3 (wpAny_mono h (λjk s' h'=>O6 (And.intro rfl h')) λ_ _ x=>x)))))
   | (refine O3 (wpAny_rule ?_);show wpAny _ _ (standAt bH.pos >>=_) _ _ s;exact O3 (wpAny_standAt (O3 (wpAny_mono h (λjk s' h'=>O6 (And.intro rfl h')) λ_ _ x=>x))))
noncomputable def Hx (wi:TI) (g:TG) (tt:TT) (tb:TB):TB:=λσ H Q=>GL σ g/\wi σ H λJ H1=>oq J g tt tb σ Q H1
theorem tF {elt target iter a9 bH:Expr} {ifs bY:List Expr} {scope:Scope} {pos:Pos} {acc:Value} {wi:TI} {te:TB} (hc:X.calm=true) (hp:PassesOwn (model X.prog X.w) X.A X.env X.xe) (hi:PI X a9 bH wi) (hg:PG X a9 g) (ht:Bj X bY tt) (he:PB X (gr elt acc X.env) te)
  (hs:∀x,foldedSetIterable bH X.env x=pure x:=by intro _;rfl):PB X (nextOf (.ListComp elt [⟨target,iter,ifs,0⟩,⟨a9,bH,bY,0⟩] scope pos) 1 bH acc X.env) (Hx wi g tt te):=by
 intro pins s σ H Q I ⟨jh,h⟩;unfold nextOf;refine O3 (bq (hi pins s σ H _ I h) λx s₁ h₁=>?_);refine O3 (wpAny_standAt (O3 (wpAny_of_eq (hs x) (O3 (wpAny_holding (bq h₁ λn8 s₂ h₂=>?_))))));obtain⟨it,fp,tn,J,H2,e,I2,T,dm,f2,hW⟩:=h₂;subst e;have loop:codeAny (model X.prog X.w) X.A (.compLoop (.ListComp elt [⟨target,iter,ifs,0⟩,⟨a9,bH,bY,0⟩] scope pos) 1 (.ref it) acc X.env) (λr s'=>match r with | .ok f=>∃H',Inv X pins σ H' s'/\Q H' | .error e=>cameBackBy (model X.prog X.w) X.A X.env X.xe e s') s₂:=
  lE hc (Bd ..) (λx s' q=>hp x s' q) hg jh ht he I2 T dm f2 hW λs' H' I' q=>⟨H',I',q⟩
 have run:wpAny (model X.prog X.w) X.A (runOwn (.compStart (.ListComp elt [⟨target,iter,ifs,0⟩,⟨a9,bH,bY,0⟩] scope pos) 1 (.ref it) acc X.env) X.env) (λ_ s'=>∃H',Inv X pins σ H' s'/\Q H') X.xe s₂:=
  wpAny_runOwn (mF loop (T.self _ 0 _ _ _ dm loop))
 exact O3 (wpAny_mono run (λf s' q=>O6 q) λ_ _ z=>z)
end
theorem fK {x:Str} {c:Addr}:∀(names:List (Str×NameKind)) (n:Nat) (acc:List (Str×Addr)),(cellsFrom n names acc).lookup x=some c->(n<=c/\(x,NameKind.cell)∈names)\/acc.lookup x=some c
 | [],n,acc,h=> .inr h
 | (y,k)::r,n,acc,h=>by
  unfold cellsFrom at h;by_cases hk:(k==NameKind.cell)=true
  ·rw[if_pos hk] at h;rcases fK r (n + 1) _ h with ⟨h1,h2⟩ | h1
   ·exact .inl ⟨Pj (Nat.le_succ _) h1,Pb _ h2⟩
   ·rw[Pz] at h1;cases hb:x==y with
    | true=>
     rw[hb] at h1;cases h1;have:x=y:=by simpa using hb
     subst this;have:k=NameKind.cell:=by simpa using hk
     subst this;exact .inl ⟨Pd _,Pe⟩
    | false=>rw[hb] at h1;exact .inr h1
  ·rw[if_neg hk] at h;rcases fK r n _ h with ⟨h1,h2⟩ | h1
   ·exact .inl ⟨h1,Pb _ h2⟩
   ·exact .inr h1
theorem qo {x y:Str} {c:Addr}:∀(names:List (Str×NameKind)) (n:Nat) (acc:List (Str×Addr)),(∀x c,acc.lookup x=some c->c < n)->(∀x y c,acc.lookup x=some c->acc.lookup y=some c->x=y)->
  (cellsFrom n names acc).lookup x=some c->(cellsFrom n names acc).lookup y=some c->x=y
 | [],n,acc,h1,h2,hx,hy=>h2 x y c hx hy
 | (z,k)::r,n,acc,h1,h2,hx,hy=>by
  unfold cellsFrom at hx hy;by_cases hk:(k==NameKind.cell)=true
  ·rw[if_pos hk] at hx hy;refine qo r (n + 1) _ (λa b gv=>?_) (λa b e ha hb=>?_) hx hy
   ·rw[Pz] at gv;cases hq:a==z with
    | true=>rw[hq] at gv;cases gv;exact Nat.lt_succ_self _
    | false=>rw[hq] at gv;exact Nat.lt_succ_of_lt (h1 a b gv)
   ·rw[Pz] at ha hb;cases hq:a==z with
    | true=>
     rw[hq] at ha;cases ha;cases hq2:b==z with
     | true=>
      have e1:a=z:=by simpa using hq
      have e2:b=z:=by simpa using hq2
      rw[e1,e2]
     | false=>rw[hq2] at hb;exact absurd (h1 b _ hb) (Nat.lt_irrefl _)
    | false=>
     rw[hq] at ha;cases hq2:b==z with
     | true=>rw[hq2] at hb;cases hb;exact absurd (h1 a _ ha) (Nat.lt_irrefl _)
     | false=>rw[hq2] at hb;exact h2 a b e ha hb
  ·rw[if_neg hk] at hx hy;exact qo r n acc h1 h2 hx hy
theorem mC {x:Str} {c:Addr}:∀(names:List (Str×NameKind)) (n:Nat) (acc:List (Str×Addr)),(x,NameKind.cell)∉names->acc.lookup x=some c->(cellsFrom n names acc).lookup x=some c
 | [],n,acc,_,h=>h
 | (z,k)::r,n,acc,hn,h=>by
  unfold cellsFrom;by_cases hk:(k==NameKind.cell)=true
  ·rw[if_pos hk];refine mC r (n + 1) _ (λz'=>hn (Pb _ z')) ?_;rw[Pz];have:(x==z)=false:=by
    cases hq:x==z with
    | false=>rfl
    | true=>
     have e1:x=z:=by simpa using hq
     have e2:k=NameKind.cell:=by simpa using hk
     subst e1 e2;exact absurd Pe hn
   rw[this];exact h
  ·rw[if_neg hk];exact mC r n acc (λz'=>hn (Pb _ z')) h
theorem jO {x:Str} {c:Addr}:∀(names:List (Str×NameKind)) (h:Heap) (acc:List (Str×Addr)),(∀x c,acc.lookup x=some c->∃v,h.IsCell c v)->(cellsFrom h.objs.size names acc).lookup x=some c->∃v,(pushCells h names).IsCell c v
 | [],h,acc,ha,hx=>ha x c hx
 | (z,k)::r,h,acc,ha,hx=>by
  unfold cellsFrom at hx;unfold pushCells;by_cases hk:(k==NameKind.cell)=true
  ·rw[if_pos hk] at hx ⊢;refine jO r _ ((z,h.objs.size)::acc) (λa b gv=>?_) (by rw[PH];exact hx);rw[Pz] at gv;cases hq:a==z with
   | true=>rw[hq] at gv;cases gv;exact⟨none,_,Pf _ rfl,rfl⟩
   | false=>rw[hq] at gv;obtain⟨v,o,ho,hd⟩:=ha a b gv;exact⟨v,o,O5 _ ho,hd⟩
  ·rw[if_neg hk] at hx ⊢;exact jO r h acc ha hx
theorem pW {M:Model} {A:Around} {E:Value->Shared->Prop} {s:Shared} {scope:Scope} {globals:Addr} {cl:List (Str×Addr)} {qual:Str} {out:Env} {Q:Env->Shared->Prop}
  (hQ:∀h',h'=pushCells (s.heap.push {cls:= .type "dict",data:= .dict #[]}) scope.names->Q (newEnv scope s.heap.objs.size globals (cellsFrom (s.heap.objs.size + 1) scope.names cl) qual none .none (some out) builtinsNs) {s with heap:=h'}):
  wpAny M A (newFunctionEnv scope globals cl [] qual none .none (some out)) Q E s:=by
 simp only[newFunctionEnv,Option.isSome_some,if_true];refine O3 (wpAny_alloc ?_);refine O3 (wpAny_layCells _ (λname kind cells=>by cases hkc:kind==NameKind.cell <;> simp[hkc]) _ _ _ _ ?_);rw[show ({s with heap:=s.heap.push {cls:= .type "dict",data:= .dict #[]}}:Shared).heap.objs.size=s.heap.objs.size + 1 from PH ..];rw[List.forIn_nil];exact O3 (O6 (O6 (hQ _ rfl)))
noncomputable def eO (X:Cx) (scope:Scope) (N':List Str) (C:Addr) (s:Shared) (H:Hp) (fp:List Addr) (xe:Value->Shared->Prop):Cx:=
 {X with N:=N',s₀:=s,H₀:=H,env:=compEnvC scope (cellsFrom (C + 1) scope.names (eG scope X.env)) C X.env,outer:=X.stack,stack:=X.stack,ex:=fp,fn:=λx=>scope.names.lookup x==some .cell,pn:=[],xe:=xe}
structure eE (X:Cx) (scope:Scope) (N':List Str) (cap:List (Option Nat)):Prop where
 kind:scope.kind= .function
 nd:∀y∈scope.names,scope.names.lookup y.1=some y.2
 free:∀y∈scope.names,y.2= .free->X.env.scope.names.lookup y.1=some .cell\/X.env.scope.names.lookup y.1=some .free
 zD:∀(j i:Nat),cap[j]?=some (some i)->∃x,N'[j]?=some x/\X.N[i]?=some x/\scope.names.lookup x=some .free
 len:cap.length=N'.length
section
variable {X:Cx} {scope:Scope} {N':List Str} {cap:List (Option Nat)} {pins:List (Addr×Obj)} {σ:St} {H:Hp} {s:Shared}
theorem eE.frees (B:eE X scope N' cap) (ok:X.Ok):∀y∈scope.names,y.2= .free->∃c,X.env.cells.lookup y.1=some c:=λy hy hf=>ok.has y.1 (B.free y hy hf)
theorem eE.up (B:eE X scope N' cap) (ok:X.Ok) {x:Str} {c:Addr} (h:(eG scope X.env).lookup x=some c):X.env.cells.lookup x=some c:=
 i7 scope.names [] (B.frees ok) (λ_ z=>by simp at z) h
theorem eE.o8 (B:eE X scope N' cap) {x:Str} (h:scope.names.lookup x=some .free):(x,NameKind.cell)∉scope.names:=λz=>by have:=B.nd _ z;rw[h] at this;cases this
theorem qi {xe:Value->Shared->Prop} (B:eE X scope N' cap) (I:Inv X pins σ H s) {fp:List Addr} {tk:Nat} (hf:∀b∈fp,gp X pins H b) (bX:∀b∈fp,b < s.heap.objs.size):
  Inv (eO X scope N' s.heap.objs.size s H fp xe) [] (cK cap σ) H {s with heap:=pushCells (s.heap.push {cls:= .type "dict",data:= .dict #[]}) scope.names,toks:=tk}:=by
 have ok:=I.ok;have hz:(s.heap.push {cls:= .type "dict",data:= .dict #[]}).objs.size=s.heap.objs.size + 1:=PH ..;have hk:∀b o,s.heap.get? b=some o->(pushCells (s.heap.push {cls:= .type "dict",data:= .dict #[]}) scope.names).get? b=some o:=λb o e=>pushCells_keeps _ _ _ _ (O5 _ e)
 have BC:(pushCells (s.heap.push {cls:= .type "dict",data:= .dict #[]}) scope.names).Ns s.heap.objs.size λ_=>none:=(Heap.Ns.new s.heap (.type "dict")).keeps (pushCells_keeps _ _)
 have M4:∀x c,(eG scope X.env).lookup x=some c->c < s.heap.objs.size:=λx c h=>by obtain⟨v,z⟩:=I.cell x c (B.up ok h);exact z.lt
 have wc:∀x c,(cellsFrom (s.heap.objs.size + 1) scope.names (eG scope X.env)).lookup x=some c->(s.heap.objs.size + 1<=c/\(x,NameKind.cell)∈scope.names)\/X.env.cells.lookup x=some c:=λx c h=>(fK _ _ _ h).imp id (B.up ok)
 have qL:∀x,scope.names.lookup x=some .free->(compEnvC scope (cellsFrom (s.heap.objs.size + 1) scope.names (eG scope X.env)) s.heap.objs.size X.env).kindOf x=some .cell\/(compEnvC scope (cellsFrom (s.heap.objs.size + 1) scope.names (eG scope X.env)) s.heap.objs.size X.env).kindOf x=some .free:=λx hx=>by
  have q:=aT (env:=X.env) hx;by_cases hc:(NameKind.free==NameKind.free&&X.env.scope.kind== .function&&X.env.kindOf x==some .cell)=true
  ·rw[if_pos hc] at q;exact .inl q
  ·rw[if_neg hc] at q;exact .inr q
 refine⟨⟨ok.mod,?kind,ok.glob,ok.blt,Pd _,?inj,?has,?Bn,ok.hd,ok.frames,.inl rfl,?EF,I.bs,Pj ok.zA I.sz,?o7,?qw,I.stack,I.nN⟩,
  rfl,I.bare,Un.kept hk,⟨_,BC,?loc⟩,?cell,I.hok.fresh (Pd _),?cZ,?pin,I.hok.kept hk,?len⟩
 case kind=>exact B.kind
 case inj=>exact λx y c h1 h2=>qo _ _ _ (λx c h=>Nat.lt_succ_of_lt (M4 x c h)) (λx y c h1 h2=>ok.inj x y c (B.up ok h1) (B.up ok h2)) h1 h2
 case has=>
  intro x hx;cases hl:scope.names.lookup x with
  | none=>
   have q:=bC (env:=X.env) hl;exact absurd hx (by
    have q':(compEnvC scope (cellsFrom (s.heap.objs.size + 1) scope.names (eG scope X.env)) s.heap.objs.size X.env).kindOf x=none:=q;show¬((compEnvC scope (cellsFrom (s.heap.objs.size + 1) scope.names (eG scope X.env)) s.heap.objs.size X.env).kindOf x=some .cell\/(compEnvC scope (cellsFrom (s.heap.objs.size + 1) scope.names (eG scope X.env)) s.heap.objs.size X.env).kindOf x=some .free);rw[q'];simp)
  | some k=>
   have q:(compEnvC scope (cellsFrom (s.heap.objs.size + 1) scope.names (eG scope X.env)) s.heap.objs.size X.env).kindOf x=some (if (k==NameKind.free&&X.env.scope.kind== .function&&X.env.kindOf x==some .cell) then NameKind.cell else k):=aT (env:=X.env) hl;have hm:=PySem.mem_of_lookup hl;by_cases CK:k= .free
   ·subst CK;obtain⟨c,uC⟩:=jP (env:=X.env) scope.names [] (.inl hm);exact⟨c,mC _ _ _ (B.o8 hl) uC⟩
   ·have hb:(k==NameKind.free)=false:=by simpa using CK
    have qH:(compEnvC scope (cellsFrom (s.heap.objs.size + 1) scope.names (eG scope X.env)) s.heap.objs.size X.env).kindOf x=some .cell\/(compEnvC scope (cellsFrom (s.heap.objs.size + 1) scope.names (eG scope X.env)) s.heap.objs.size X.env).kindOf x=some .free:=hx;rw[q,hb] at qH;simp only[Bool.false_and,Bool.false_eq_true,if_false,Option.some.injEq] at qH;rcases qH with z | z
    ·subst z;exact Option.isSome_iff_exists.mp (PySem.W.cellsFrom_some scope.names _ _ (.inl hl))
    ·exact absurd z CK
 case Bn=>
  intro x c wY h;have wY:(scope.names.lookup x==some .cell)=true:=wY;rcases fK _ _ _ h with ⟨h1,_⟩ | h1
  ·exact Pj (Nat.le_succ _) h1
  ·exfalso;have e:=Pw wY;have:∀(l:List (Str×NameKind)) (cs:List (Str×Addr)),(∀c,cs.lookup x≠some c)->(∀y∈l,y.1=x->y.2≠ .free)->(mD X.env l cs).lookup x=none:=by
    intro l
    induction l with
    | nil=>
     intro cs zR _;cases hq:cs.lookup x with
     | none=>exact hq
     | some c=>exact absurd hq (zR c)
    | cons y l ih=>
     intro cs zR hl;obtain⟨n,k⟩:=y;show (mD X.env l (if (k==NameKind.free)=true then(n,(X.env.cells.lookup n).getD 0)::cs else cs)).lookup x=none;refine ih _ (λc=>?_) λy hy=>hl y (Pb _ hy)
     by_cases hk:(k==NameKind.free)=true
     ·rw[if_pos hk,Pz];have:(x==n)=false:=by
       cases hq:x==n with
       | false=>rfl
       | true=>
        have e1:x=n:=by simpa using hq
        have e2:k=NameKind.free:=by simpa using hk
        exact absurd e2 (hl (n,k) Pe e1.symm)
      rw[this];exact zR c
     ·rw[if_neg hk];exact zR c
   have q:=this scope.names [] (λc z=>by simp at z) λy hy e1 e2=>by have:=B.nd y hy;rw[e1,e2,e] at this;cases this
   unfold eG at h1;rw[q] at h1;cases h1
 case EF=>
  intro b hb;refine⟨PJ (bX b hb),λx c e=>?_⟩;rcases wc x c e with ⟨h1,_⟩ | h1
  ·intro z;subst z;exact absurd (Pu (bX c hb) (Pj (Nat.le_succ _) h1)) (Nat.lt_irrefl _)
  ·exact(hf b hb).2.2.2.2.1 x c h1
 case o7=>
  intro b o e hb;rcases (hf b hb).2.2.2.1 with z | z
  ·exact ok.o7 b o e z
  ·exact absurd (Pu (Pi (ok.bs b o e).1) z) (Nat.lt_irrefl _)
 case qw=>
  intro b hb hs;rcases Pk.mp (I.kF b hs) with z | z
  ·exact(hf b hb).2.1 z
  ·exact(hf b hb).2.2.1 z
 case loc=>
  intro j x v h1 h2 h3;have hj:∃i,cap[j]?=some (some i)/\(σ[i]?).join=some v:=by
   unfold cK at h2;rw[Pr] at h2;cases hc:cap[j]? with
   | none=>rw[hc] at h2;cases h2
   | some o=>
    rw[hc] at h2;cases o with
    | none=>cases h2
    | some i=>exact⟨i,rfl,by simpa using h2⟩
  obtain⟨i,hc,hv⟩:=hj;obtain⟨x',e1,e2,e3⟩:=B.zD j i hc;have ex:x'=x:=by have JD:N'[j]?=some x:=h1;rw[JD] at e1;injection e1 with e1;exact e1.symm
  subst ex;have Kw:σ[i]?=some (some v):=by
   cases q:σ[i]? with
   | none=>rw[q] at hv;cases hv
   | some o=>rw[q] at hv;cases o with
    | none=>cases hv
    | some z=>simp at hv;rw[hv]
  have Gf:=B.free _ (PySem.mem_of_lookup e3) rfl;obtain⟨m,hn,hl⟩:=I.loc;obtain⟨u,r,l⟩:=hl i x' v e2 Kw (.inr Gf);refine⟨u,r,?_⟩;obtain⟨c,uC⟩:=jP (env:=X.env) scope.names [] (.inl (PySem.mem_of_lookup e3));have Ma:=B.up ok uC;rcases l with ⟨k,_⟩ | ⟨k,c',e,z⟩
  ·exfalso;have k':X.env.scope.names.lookup x'=some .local:=k;rcases Gf with q | q
   ·rw[k'] at q;cases q
   ·rw[k'] at q;cases q
  ·have M7:c'=c:=by rw[e] at Ma;injection Ma
   subst M7;exact .inr ⟨qL x' e3,c',mC _ _ _ (B.o8 e3) uC,by obtain⟨o,ho,hd⟩:=z;exact⟨o,hk _ _ ho,hd⟩⟩
 case cell=>intro x c e;refine jO scope.names (s.heap.push {cls:= .type "dict",data:= .dict #[]}) (eG scope X.env) (λa b gv=>?_) (by rw[hz];exact e);obtain⟨v,o,ho,hd⟩:=I.cell a b (B.up ok gv);exact⟨v,o,O5 _ ho,hd⟩
 case cZ=>
  intro x c e;rcases wc x c e with ⟨h1,_⟩ | h1
  ·exact I.hok.fresh (Pj (Nat.le_succ _) h1)
  ·exact I.cZ x c h1
 case pin=>intro p hp;cases hp
 case len=>show (cK cap σ).length=N'.length;unfold cK;rw[Ph];exact B.len
noncomputable def Bk (X:Cx) (C:Addr) (x:Value) (s':Shared):Prop:=∃m,s'.heap.Ns C m/\∀h',Heap.SameBut C s'.heap h'->∀uu:Env,uu.locals=C->wpAny (model X.prog X.w) X.A (passOn "comprehension.variables-let-go" x uu:Sem Value) (λ_ _=>False) X.xe {s' with heap:=h'}
structure zr (X:Cx) (scope:Scope) (N':List Str) (xb:Addr->Shared->Hp->List Addr->Value->Shared->Prop):Prop where
 note:∀(pins:List (Addr×Obj)) (σ:St) (C:Addr) (s s1:Shared) (H H1:Hp) (fp:List Addr) x s',Inv X pins σ H1 s1->(∀b∈fp,gp X pins H1 b)->s1.heap.objs.size < C->s={s1 with heap:=s1.heap.push {cls:= .type "list",data:= .seq ([]:List Value).toArray},toks:=s1.toks}->H=upd H1 s1.heap.objs.size (.lst [])->C=s.heap.objs.size->
  xb C s H fp x s'->notedBy (model X.prog X.w) X.A (eO X scope N' C s H fp (xb C s H fp)).env (Bk X C) x s'
variable {elt tg iter:Expr} {ifs:List Expr} {pos:Pos} {wi:TI} {g:TG} {tt:TT}
theorem lD {gens:List Comprehension} {xb:Addr->Shared->Hp->List Addr->Value->Shared->Prop} {pins:List (Addr×Obj)} {σ:St} {H2:Hp} {s2:Shared} {it:Addr} {fp:List Addr} {tn:Nat->Heap->Prop} {J:It} {F:Hp->Prop} {tb:Addr->TB} {body:Value->Env->Sem Unit} {p:Pos} {RR:Value->Addr->Result->Shared->Prop} (hc:X.calm=true) (B:eE X scope N' cap) (hX:zr X scope N' xb)
  (heq:∀n8 acc env,compTurn (.ListComp elt (⟨tg,iter,ifs,0⟩::gens) scope pos) 0 n8 acc env=dE (.ListComp elt (⟨tg,iter,ifs,0⟩::gens) scope pos) 0 n8 acc env tg ifs p (body acc env))
  (jh:GL (cK cap σ) g) (hg:∀C s H fp,PG (eO X scope N' C s H fp (xb C s H fp)) tg g) (ht:∀C s H fp,Bj (eO X scope N' C s H fp (xb C s H fp)) ifs tt) (hb:∀C s H fp D,PB (eO X scope N' C s H fp (xb C s H fp)) (body (.ref D) (eO X scope N' C s H fp (xb C s H fp)).env) (tb D))
  (I2:Inv X pins σ H2 s2) (T:Turn X.prog X.w X.K tg J fp it tn) (dm:tn 0 s2.heap) (f2:∀b∈fp,gp X pins H2 b) (hF:oq J g tt (tb s2.heap.objs.size) (cK cap σ) F (upd H2 s2.heap.objs.size (.lst [])))
  (Nw:∀C s' H' m,s2.heap.objs.size < C->Inv X pins σ H' s'->s'.heap.Ns C m->gp X pins H' C->F H'->RR (.ref s2.heap.objs.size) C (.ok .next) s') (L5:∀C x s',Bk X C x s'->RR (.ref s2.heap.objs.size) C (.error x) s') {E:Value->Shared->Prop}:
  wpAny (model X.prog X.w) X.A (newList []) (λacc s₃=>wpAny (model X.prog X.w) X.A (newFunctionEnv scope X.env.globals (eG scope X.env) [] X.env.qual none .none (some X.env)) (λuu s₄=>
   codeAny (model X.prog X.w) X.A (.compStart (.ListComp elt (⟨tg,iter,ifs,0⟩::gens) scope pos) 0 (.ref it) acc {uu with scope:=relabel scope X.env}) (RR acc uu.locals) s₄) E s₃) E s2:=by
 refine wpAny_newObj_type (pW λh₁ hh₁=>?_);have I3:=I2.Gu (ys:=[]) (its:=[]) (t':=s2.toks) .nil (Nat.zero_le _);dsimp only at hh₁ ⊢;have hC:(s2.heap.push {cls:= .type "list",data:= .seq ([]:List Value).toArray}).objs.size=s2.heap.objs.size + 1:=PH ..;generalize hD:s2.heap.objs.size=D at *;have y8:∀b∈fp,b < D:=λb hb=>by obtain⟨o,e,_⟩:=T.obj 0 _ dm b hb;rw[<-hD];exact Pi e
 have f3:∀b∈fp,gp X pins (upd H2 D (.lst [])) b:=λb hb=>⟨by rw[ax (PJ (y8 b hb))];exact(f2 b hb).1,(f2 b hb).2⟩
 generalize hs3:({s2 with heap:=s2.heap.push {cls:= .type "list",data:= .seq ([]:List Value).toArray},toks:=s2.toks}:Shared)=s3 at I3;have xl:s3.heap=s2.heap.push {cls:= .type "list",data:= .seq ([]:List Value).toArray}:=by rw[<-hs3]
 have Bt:s3.heap.objs.size=D + 1:=by rw[xl];exact hC
 have IB:=qi (xe:=xb s3.heap.objs.size s3 (upd H2 D (.lst [])) fp) (tk:=s2.toks) B I3 f3 (λb hb=>by rw[Bt];exact Nat.lt_succ_of_lt (y8 b hb));have hk:∀b o,s3.heap.get? b=some o->(pushCells (s3.heap.push {cls:= .type "dict",data:= .dict #[]}) scope.names).get? b=some o:=λb o e=>pushCells_keeps _ _ _ _ (O5 _ e)
 rw[<-xl] at hh₁;rw[<-hh₁] at IB hk;have e4:({s3 with heap:=h₁,toks:=s2.toks}:Shared)={s2 with heap:=h₁}:=by rw[<-hs3]
 rw[e4] at IB;rw[hC];have nM:∀{H':Hp},(∀b∈fp,H' b=none)->∀b∈fp,gp (eO X scope N' s3.heap.objs.size s3 (upd H2 D (.lst [])) fp (xb s3.heap.objs.size s3 (upd H2 D (.lst [])) fp)) [] H' b:=λhn b hb=>
  ⟨hn b hb,by show b≠s3.heap.objs.size;rw[Bt];exact PJ (Nat.lt_succ_of_lt (y8 b hb)),λz=>(by
   rcases Pk.mp (I3.kF b z) with q | q
   ·exact(f3 b hb).2.1 q
   ·exact(f3 b hb).2.2.1 q),.inl hb,(IB.ok.EF b hb).2,λp hp=>absurd hp (by intro z;cases z)⟩
 have loop:∀s':Shared,s'={s2 with heap:=h₁}->codeAny (model X.prog X.w) X.A (.compLoop (.ListComp elt (⟨tg,iter,ifs,0⟩::gens) scope pos) 0 (.ref it) (.ref D) (eO X scope N' s3.heap.objs.size s3 (upd H2 D (.lst [])) fp (xb s3.heap.objs.size s3 (upd H2 D (.lst [])) fp)).env)
   (RR (.ref D) (D + 1)) s':=by
  rintro s' rfl;refine lE (X:=eO X scope N' s3.heap.objs.size s3 (upd H2 D (.lst [])) fp (xb s3.heap.objs.size s3 (upd H2 D (.lst [])) fp)) hc (heq _ _ _) (λx s' q=>?_) (hg _ _ _ _) jh (ht _ _ _ _) (hb _ _ _ _ D) IB T (T.keep _ _ _ dm (λb hb o e=>hk b o (by rw[xl];exact O5 _ e))) (nM λb hb=>(f3 b hb).1) hF λs5 H5 I5 qn=>?_
  ·have z:=hX.note pins σ s3.heap.objs.size s3 s2 (upd H2 D (.lst [])) H2 fp x s' I2 f2 (by rw[Bt,hD];exact Nat.lt_succ_self _) hs3.symm (by rw[hD]) rfl q;rw[Bt] at z;exact wpAny_mono z (λ_ s'' w=>L5 (D + 1) x s'' w) λy s'' w=>L5 (D + 1) y s'' w
  ·obtain⟨m5,Ki,_⟩:=I5.loc;have un:Un (eI X.stack) fp H2 H5 s2.heap s5.heap:=by
    have u1:Un (eI X.stack) fp H2 (upd H2 D (.lst [])) s2.heap s3.heap:=by rw[xl];exact Un.laid (λb u e=>O5 _ e) (by rw[hD];exact Pd _) (by rw[<-hD];exact I2.fresh)
    exact u1.trans I5.base
   have hI:Inv X pins σ H5 s5:=I2.vU (ch:=fp) (I5.os.trans (by show s3.os=s2.os;rw[<-hs3])) un I5.hok I5.bare λb hb=>⟨(f2 b hb).2.2.2.1,(f2 b hb).2.1,(f2 b hb).2.2.2.2.1,(f2 b hb).2.2.2.2.2⟩
   have xh:s5.heap.Ns (D + 1) m5:=by have q:s5.heap.Ns s3.heap.objs.size m5:=Ki;rw[Bt] at q;exact q
   have JL:H5 (D + 1)=none:=by have q:H5 s3.heap.objs.size=none:=I5.free;rw[Bt] at q;exact q
   exact Nw (D + 1) s5 H5 m5 (Nat.lt_succ_self _) hI xh (I2.qA (by rw[hD];exact Nat.le_succ _) JL) qn
 have JG:({newEnv scope (D + 1) X.env.globals (cellsFrom (D + 1 + 1) scope.names (eG scope X.env)) X.env.qual none .none (some X.env) builtinsNs with scope:=relabel scope X.env}:Env)=(eO X scope N' s3.heap.objs.size s3 (upd H2 D (.lst [])) fp (xb s3.heap.objs.size s3 (upd H2 D (.lst [])) fp)).env:=by unfold eO;rw[Bt];rfl
 have go:=codeAny_compStart_list (loop _ rfl) (T.self X.A 0 _ _ _ (T.keep _ _ _ dm (λb hb o e=>hk b o (by rw[xl];exact O5 _ e))) (loop _ rfl));rw[<-JG] at go;exact go
end
noncomputable def nQ (cap:List (Option Nat)) (wi:TI) (g:TG) (tt:TT) (tb:Addr->TB):TE:=λσ H Q=>wi σ H λJ H1=>∀D,H1 D=none->GL (cK cap σ) g/\oq J g tt (tb D) (cK cap σ) (λH'=>Q (.ref D) H') (upd H1 D (.lst []))
section
variable {X:Cx} {scope:Scope} {N':List Str} {cap:List (Option Nat)} {elt tg iter:Expr} {ifs:List Expr} {gens:List Comprehension} {pos p:Pos} {wi:TI} {g:TG} {tt:TT} {tb:Addr->TB} {body:Value->Env->Sem Unit} {xb:Addr->Shared->Hp->List Addr->Value->Shared->Prop}
theorem ph (hc:X.calm=true) (B:eE X scope N' cap) (hX:zr X scope N' xb) (hi:PI X tg iter wi) (heq:∀n8 acc env,compTurn (.ListComp elt (⟨tg,iter,ifs,0⟩::gens) scope pos) 0 n8 acc env=dE (.ListComp elt (⟨tg,iter,ifs,0⟩::gens) scope pos) 0 n8 acc env tg ifs p (body acc env))
  (hg:∀C s H fp,PG (eO X scope N' C s H fp (xb C s H fp)) tg g) (ht:∀C s H fp,Bj (eO X scope N' C s H fp (xb C s H fp)) ifs tt) (hb:∀C s H fp D,PB (eO X scope N' C s H fp (xb C s H fp)) (body (.ref D) (eO X scope N' C s H fp (xb C s H fp)).env) (tb D))
  (hs:∀x,foldedSetIterable iter X.env x=pure x:=by intro _;rfl):PE X (.ListComp elt (⟨tg,iter,ifs,0⟩::gens) scope pos) (nQ cap wi g tt tb):=by
 intro pins s σ H Q I h;rw[eval_ListComp];refine wpAny_comprehension_free (use:=none) rfl hs (f9 (B.frees I.ok)) B.kind (λy hy e=>by rw[B.nd y hy,e]) (bq (hi pins s σ H _ I h) λx s₁ h₁=>bq h₁ λn8 s₂ h₂=>?_);obtain⟨it,fp,tn,J,H2,e,I2,T,dm,f2,hF⟩:=h₂;subst e;obtain⟨jh,hW⟩:=hF _ I2.fresh;refine lD (RR:=λacc C=>compPost (model X.prog X.w) X.A X.xe none (EP X pins σ Q) acc C) hc B hX heq jh hg ht hb I2 T dm f2 hW (λC s' H' m hC I' hn fC q=>?_) λC x s' z=>z
 refine⟨m,hn,λh' hsb=>⟨.ref _,H',I'.turned (t':=s'.toks) (λb o hb e=>(hsb.2 b hb).trans e) fC.1 fC.2.1 fC.2.2.2.1 fC.2.2.2.2.1 fC.2.2.2.2.2,rfl,q⟩⟩
theorem jc {i:Nat} {x:Str} {pos' Hm:Pos} (hc:X.calm=true) (hN:X.N.Nodup) (Bz:X.N[i]?=some x) (hx:X.env.kindOf x=some .local) (B:eE X scope N' cap) (hX:zr X scope N' xb) (hi:PI X tg iter wi) (heq:∀n8 acc env,compTurn (.ListComp elt (⟨tg,iter,ifs,0⟩::gens) scope pos) 0 n8 acc env=dE (.ListComp elt (⟨tg,iter,ifs,0⟩::gens) scope pos) 0 n8 acc env tg ifs p (body acc env))
  (hg:∀C s H fp,PG (eO X scope N' C s H fp (xb C s H fp)) tg g) (ht:∀C s H fp,Bj (eO X scope N' C s H fp (xb C s H fp)) ifs tt) (hb:∀C s H fp D,PB (eO X scope N' C s H fp (xb C s H fp)) (body (.ref D) (eO X scope N' C s H fp (xb C s H fp)).env) (tb D))
  (hs:∀x,foldedSetIterable iter X.env x=pure x:=by intro _;rfl)
  (CV:swapsWith (.ListComp elt (⟨tg,iter,ifs,0⟩::gens) scope pos) (some (.Name x pos')) Hm.line X.env=pure true:=by rfl):
  PS X (.Assign [.Name x pos'] (.ListComp elt (⟨tg,iter,ifs,0⟩::gens) scope pos) Hm) (pJ (nQ cap wi g tt tb) (dQ i)):=by
 intro pins s σ H D I h;rw[exec_Assign_Name_used _ _ _ _ CV];refine O3 (wpAny_standAt (O3 ?_));show wpAny _ X.A (do let _<-comprehension (.ListComp elt (⟨tg,iter,ifs,0⟩::gens) scope pos) scope X.env _ (newList []) false (eval iter X.env) (some (assign (.Name x pos') X.env))) _ _ s;refine O3 (wpAny_mono (wpAny_comprehension_free (use:=some (assign (.Name x pos') X.env)) (Q:=λ_ s'=>SP X pins D .next s') rfl hs (f9 (B.frees I.ok)) B.kind (λy hy e=>by rw[B.nd y hy,e]) (bq (hi pins s σ H _ I h) λx s₁ h₁=>bq h₁ λn8 s₂ h₂=>?_))
  (λ_ s' hq=>O6 (O6 hq)) λ_ _ e=>e)
 obtain⟨it,fp,tn,J,H2,e,I2,T,dm,f2,hF⟩:=h₂;subst e;obtain⟨jh,hW⟩:=hF _ I2.fresh;refine lD (RR:=λacc C=>compPost (model X.prog X.w) X.A X.xe (some (assign (.Name _ pos') X.env)) (λ_ s'=>SP X pins D .next s') acc C) hc B hX heq jh hg ht hb I2 T dm f2 hW (λC s' H' m hC I' hn fC q=>?_) λC x s' z=>z
 show wpAny _ X.A (assign (.Name _ pos') X.env (.ref _)) _ _ _;refine wpAny_assign_Name (l6 (v:= .ref _) I' hN Bz (.inl hx) rfl (λs3 I3 hsb=>?_) (.inr hx));obtain⟨a,sb,ha⟩:=hsb;have Nl:C≠a:=by
  rcases ha with rfl | ha
  ·exact fC.2.1
  ·exact Ne.symm (fC.2.2.2.2.1 _ a ha)
 refine⟨m,hn.sameBut sb Nl,λh' hsb'=>?_⟩;exact⟨_,H',I3.turned (t':=s3.toks) (λb o hb e=>(hsb'.2 b hb).trans e) fC.1 fC.2.1 fC.2.2.2.1 fC.2.2.2.2.1 fC.2.2.2.2.2,q⟩
end
theorem jT (o:Obj) (f:Array Value->Array Value):(o.mapFields f).dict=o.dict:=by obtain⟨c,d,dt,sl⟩:=o;cases dt <;> rfl
noncomputable def cU (h:Heap) (a T:Addr):Prop:=∃o vs,h.get? a=some o/\o.data= .fields vs/\vs[1]?=some (.ref T)
structure je (N:Nat) (cls:Value) (a:Addr) (H:Hp) (h:Heap):Prop where
 ge:N<=a
 nH:H a=none
 obj:∃o vs,h.get? a=some o/\(o.cls=cls/\o.dict=none)/\o.data= .fields vs/\(vs[1]?=some .none\/∃T,vs[1]?=some (.ref T))
 tb:∀T,cU h a T->N<=T/\H T=none/\T≠a/\∃oT ts,h.get? T=some oT/\oT.data= .fields ts/\3 < ts.size
structure qa (fs:List Addr) (a:Addr) (h h':Heap):Prop where
 keep:∀b o,h.get? b=some o->b≠a->¬cU h a b->b∉fs->h'.get? b=some o
 slot:∀b o,h.get? b=some o->b≠a->¬cU h a b->∃sl,h'.get? b=some {o with slots:=sl}
 there:∀b o,h.get? b=some o->∃o',h'.get? b=some o'
 tb:∀T,cU h' a T->cU h a T\/h.get? T=none
theorem qa.trans {fs:List Addr} {a:Addr} {h h1 h2:Heap} (x:qa fs a h h1) (y:qa fs a h1 h2):qa fs a h h2 where
 keep:=λb o e n nt nf=>by
  have e1:=x.keep b o e n nt nf;exact y.keep b o e1 n (λz=>by
   rcases x.tb b z with q | q
   ·exact nt q
   ·rw[e] at q;cases q) nf
 slot:=λb o e n nt=>by
  obtain⟨sl,e1⟩:=x.slot b o e n nt;obtain⟨vt,e2⟩:=y.slot b _ e1 n (λz=>by
   rcases x.tb b z with q | q
   ·exact nt q
   ·rw[e] at q;cases q)
  exact⟨vt,e2⟩
 there:=λb o e=>by obtain⟨o1,e1⟩:=x.there b o e;exact y.there b o1 e1
 tb:=λT z=>by
  rcases y.tb T z with q | q
  ·exact x.tb T q
  ·right;cases hq:h.get? T with
   | none=>rfl
   | some o=>obtain⟨o',e'⟩:=x.there T o hq;rw[e'] at q;cases q
theorem qa.refl {fs:List Addr} {a:Addr} {h:Heap}:qa fs a h h:=⟨λ_ _ e _ _ _=>e,λ_ o e _ _=>⟨o.slots,e⟩,λ_ o e=>⟨o,e⟩,λ_ z=> .inl z⟩
section
variable {M:Model} {A:Around} {E:Value->Shared->Prop} {s:Shared} {N:Nat} {cls:Value} {a:Addr} {H:Hp} {base:Heap} {env fU:Env} {outer:List Env} {L:Addr}
theorem jl (e:Value) (h:env.frame=fU.frame):noteFrame e env=noteFrame e fU:=by unfold noteFrame PySem.frameOf;rw[h]
theorem oK (uE:A.frames=some (env::outer)) (hl:s.heap.FunFrames base (env::outer)) (hf:env.frame=some L) (F:je N cls a H s.heap) (fresh:∀b,s.heap.objs.size<=b->H b=none) {head:Value} {zQ:Bool} {Q:Unit->Shared->Prop}
  (q:∀h',qa (eI (env::outer)) a s.heap h'->je N cls a H h'->(∃T,cU h' a T)->Q () {s with heap:=h'}):
  wpAny M A (do let x<-frameOf env;let pl<-entryPlaceOf L zQ;let b<-EntryCells.newEntry head x .none (rawInt L) .none pl;setField (.ref a) 1 b) Q E s:=by
 obtain⟨oe,vs,he,oO,hd,h1⟩:=F.obj;have g0:1 < vs.size:=by rcases h1 with h1 | ⟨T,h1⟩ <;> exact(Array.getElem?_eq_some_iff.mp h1).1
 have J9:a∉eI (env::outer):=λhm=>by obtain⟨_,o,ho,Kk⟩:=hl.mem hm;rw[he] at ho;injection ho with ho;subst ho;exact Kk vs hd
 refine O3 (wpAny_frameOf_fun uE hl hf λh₁ hs₁=>?_);refine O3 (wpAny_entryPlaceOf λpl gz=>?_);unfold EntryCells.newEntry newFields;refine O3 (wpAny_newObj_type ?_ (gz.sizeOk5 _ _ _ _ _));have he₁:h₁.get? a=some oe:=(hs₁.2.1 a J9).trans he;generalize hT:({cls:= .type "traceback",dict:=none,data:= .fields ([head,.ref L,.none,rawInt L,.none]++(if pl.isEmpty then List.replicate 6 Value.none else pl)).toArray}:Obj)=oT;have Nx:oT.data= .fields ([head,.ref L,.none,rawInt L,.none]++(if pl.isEmpty then List.replicate 6 Value.none else pl)).toArray:=by rw[<-hT]
 have Ny:oT.isFreed=false:=by rw[<-hT];rfl
 have he₂:=O5 (h:=h₁) oT he₁;refine wpAny_setField he₂ hd g0 (q _ ?_ ?_ ?_)
 all_goals
  have hz:h₁.objs.size=s.heap.objs.size:=hs₁.1;have L6:h₁.objs.size≠a:=Nat.ne_of_gt (Pi he₁);have hd₃:=Obj.data_mapFields hd (·.setIfInBounds 1 (Value.ref h₁.objs.size));have he₃:=Heap.get?_update_self (Obj.mapFields (·.setIfInBounds 1 (Value.ref h₁.objs.size))) he₂ (Obj.isFreed_of_fields hd₃);have hT₃:=(PD (h₁.push oT) (Obj.mapFields (·.setIfInBounds 1 (Value.ref h₁.objs.size))) (Ne.symm L6)).trans (Pf h₁ Ny);have kp:∀b o,b≠a->h₁.get? b=some o->((h₁.push oT).update a (Obj.mapFields (·.setIfInBounds 1 (Value.ref h₁.objs.size)))).get? b=some o:=λb o hb e=>
   (PD _ _ (Ne.symm hb)).trans (O5 _ e)
  have MN:∀T,cU ((h₁.push oT).update a (Obj.mapFields (·.setIfInBounds 1 (Value.ref h₁.objs.size)))) a T->T=h₁.objs.size:=λT ⟨o,ws,z1,z2,z3⟩=>by rw[he₃] at z1;cases z1;rw[hd₃] at z2;cases z2;simp[g0] at z3;exact z3.symm
 ·refine⟨λb o e n nt nf=>kp b o n ((hs₁.2.1 b nf).trans e),λb o e n nt=>?_,λb o e=>?_,λT z=> .inr ?_⟩
  ·obtain⟨sl,e1⟩:=hs₁.2.2 b o e;exact⟨sl,kp b _ n e1⟩
  ·by_cases hb:b=a
   ·subst hb;exact⟨_,he₃⟩
   ·obtain⟨sl,e1⟩:=hs₁.2.2 b o e;exact⟨_,kp b _ hb e1⟩
  ·rw[MN T z,hz];exact Heap.get?_none_of_le (Pd _)
 ·refine⟨F.ge,F.nH,⟨_,_,he₃,⟨(Obj.cls_mapFields _ _).trans oO.1,(jT _ _).trans oO.2⟩,hd₃,.inr ⟨h₁.objs.size,by simp[g0]⟩⟩,λT z=>?_⟩;have e:=MN T z;subst e;refine⟨?_,fresh _ (by rw[hz];exact Pd _),L6,oT,_,hT₃,Nx,by simp⟩;rw[hz];exact Pj F.ge (Nat.le_of_lt (Pi he))
 ·exact⟨h₁.objs.size,_,_,he₃,hd₃,by simp[g0]⟩
theorem wF (uE:A.frames=some (env::outer)) (hl:s.heap.FunFrames base (env::outer)) (hf:env.frame=some L) (F:je N cls a H s.heap) (fresh:∀b,s.heap.objs.size<=b->H b=none) {Q:Unit->Shared->Prop}
  (q:∀h',qa (eI (env::outer)) a s.heap h'->je N cls a H h'->(∃T,cU h' a T)->Q () {s with heap:=h'}):wpAny M A (noteFrame (.ref a) env) Q E s:=by
 obtain⟨oe,vs,he,oO,hd,h1⟩:=id F.obj;unfold noteFrame;simp only[hf];rcases h1 with h1 | ⟨T,h1⟩
 ·refine O3 (wpAny_field he hd h1 ?_);rw[if_neg (by decide)];exact oK uE hl hf F fresh q
 ·have qB:cU s.heap a T:=⟨oe,vs,he,hd,h1⟩;obtain⟨t1,t2,t3,oT,ts,hT,wW,h3⟩:=F.tb T qB;refine O3 (wpAny_field he hd h1 ?_);rw[if_pos (show (Value.ref T != Value.none)=true from by simp)];refine O3 (wpAny_field hT wW (x:=ts[3]) (by simp[h3]) ?_);split
  ·have e:s={s with heap:=s.heap}:=by cases s;rfl
   rw[e];exact O6 (q s.heap qa.refl F ⟨T,qB⟩)
  ·refine O3 (wpAny_setField hT wW h3 ?_);have other:∀b,b≠T->(s.heap.update T (Obj.mapFields (·.setIfInBounds 3 Value.none))).get? b=s.heap.get? b:=λb hb=>PD _ _ (Ne.symm hb)
   have FF:=Heap.get?_update_self (Obj.mapFields (·.setIfInBounds 3 Value.none)) hT (Obj.isFreed_of_fields (Obj.data_mapFields wW _));have HC:∀T',cU (s.heap.update T (Obj.mapFields (·.setIfInBounds 3 Value.none))) a T'->T'=T:=λT' ⟨o,ws,z1,z2,z3⟩=>by rw[other a (Ne.symm t3),he] at z1;cases z1;rw[hd] at z2;cases z2;rw[h1] at z3;cases z3;rfl
   have F':je N cls a H (s.heap.update T (Obj.mapFields (·.setIfInBounds 3 Value.none))):=by refine⟨F.ge,F.nH,⟨oe,vs,(other a (Ne.symm t3)).trans he,oO,hd,.inr ⟨T,h1⟩⟩,λT' z=>?_⟩;rw[HC T' z];exact⟨t1,t2,t3,_,_,FF,Obj.data_mapFields wW _,by simpa using h3⟩
   have CL:(s.heap.update T (Obj.mapFields (·.setIfInBounds 3 Value.none))).FunFrames base (env::outer):=hl.of_keeps λb o hb Kk=>⟨o,(other b λz=>by
    subst z;rw[hT] at hb;cases hb;exact Kk ts wW).trans hb,rfl⟩
   refine oK (s:={s with heap:=s.heap.update T (Obj.mapFields (·.setIfInBounds 3 Value.none))}) uE CL hf F' (λb hb=>fresh b (by
    have:(s.heap.update T (Obj.mapFields (·.setIfInBounds 3 Value.none))).objs.size=s.heap.objs.size:=Heap.size_after_update ..;rw[this] at hb;exact hb)) λh' x f t=>q h' (qa.trans ⟨λb o e n nt nf=>(other b λz=>nt (z▸qB)).trans e,λb o e n nt=>⟨o.slots,(other b λz=>nt (z▸qB)).trans e⟩,λb o e=>?_,λT' z=> .inl (by rw[HC T' z];exact qB)⟩ x) f t
   by_cases hb:b=T
   ·subst hb;exact⟨_,FF⟩
   ·exact⟨o,(other b hb).trans e⟩
theorem zL (uE:A.frames=some (fU::outer)) (hl:s.heap.FunFrames base (fU::outer)) (NH:fU.frame=some L) (hf:env.frame=fU.frame) (F:je N cls a H s.heap) (fresh:∀b,s.heap.objs.size<=b->H b=none) {Q:Unit->Shared->Prop}
  (q:∀h',qa (eI (fU::outer)) a s.heap h'->je N cls a H h'->(∃T,cU h' a T)->Q () {s with heap:=h'}):wpAny M A (noteFrame (.ref a) env) Q E s:=by
 rw[jl _ hf];exact wF uE hl NH F fresh q
theorem iK {fs:List Addr} {fl:Option Addr} (F:je N cls a H s.heap) (ht:∃T,cU s.heap a T) {Q:Unit->Shared->Prop} (q:∀h',qa fs a s.heap h'->je N cls a H h'->(∃T,cU h' a T)->Q () {s with heap:=h'}):wpAny M A (setFlight (.ref a) fl) Q E s:=by
 obtain⟨T,qB⟩:=ht;obtain⟨t1,t2,t3,oT,ts,hT,wW,h3⟩:=F.tb T qB;obtain⟨oe,vs,he,hd,h1⟩:=id qB;obtain⟨O0,vv,Iu,oO,qD,_⟩:=id F.obj;rw[he] at Iu;cases Iu;unfold setFlight;refine O3 (wpAny_field he hd h1 ?_);rw[if_pos (show (Value.ref T != Value.none)=true from by simp)];refine wpAny_setField hT wW h3 ?_;generalize hx:(fl.elim Value.none λf=>rawInt f)=x;have other:∀b,b≠T->(s.heap.update T (Obj.mapFields (·.setIfInBounds 3 x))).get? b=s.heap.get? b:=λb hb=>PD _ _ (Ne.symm hb)
 have FF:=Heap.get?_update_self (Obj.mapFields (·.setIfInBounds 3 x)) hT (Obj.isFreed_of_fields (Obj.data_mapFields wW _));have HC:∀T',cU (s.heap.update T (Obj.mapFields (·.setIfInBounds 3 x))) a T'->T'=T:=λT' ⟨o,ws,z1,z2,z3⟩=>by rw[other a (Ne.symm t3),he] at z1;cases z1;rw[hd] at z2;cases z2;rw[h1] at z3;cases z3;rfl
 refine q _ ⟨λb o e n nt nf=>(other b λz=>nt (z▸qB)).trans e,λb o e n nt=>⟨o.slots,(other b λz=>nt (z▸qB)).trans e⟩,λb o e=>?_,λT' z=> .inl (by rw[HC T' z];exact qB)⟩ ⟨F.ge,F.nH,⟨oe,vs,(other a (Ne.symm t3)).trans he,oO,hd,.inr ⟨T,h1⟩⟩,λT' z=>?_⟩ ⟨T,oe,vs,(other a (Ne.symm t3)).trans he,hd,h1⟩
 ·by_cases hb:b=T
  ·subst hb;exact⟨_,FF⟩
  ·exact⟨o,(other b hb).trans e⟩
 ·rw[HC T' z];exact⟨t1,t2,t3,_,_,FF,Obj.data_mapFields wW _,by simpa using h3⟩
theorem zM {fs:List Addr} {LM:String} {α:Type} (F:je N cls a H s.heap) (ht:∃T,cU s.heap a T) {Q:α->Shared->Prop} (q:∀h',qa fs a s.heap h'->je N cls a H h'->(∃T,cU h' a T)->E (.ref a) {s with heap:=h'}):wpAny M A (passOn LM (.ref a) env:Sem α) Q E s:=by obtain⟨T,qB⟩:=id ht;obtain⟨oe,vs,he,hd,h1⟩:=qB;unfold PySem.passOn;refine O3 (wpAny_field he hd h1 ?_);rw[if_neg (show¬((Value.ref T==Value.none)=true) from by simp)];exact O3 (iK F ht λh' x f t=>wpAny_throw (q h' x f t))
theorem zK {fs:List Addr} (F:je N cls a H s.heap) (ht:∃T,cU s.heap a T) (q:∀h',qa fs a s.heap h'->je N cls a H h'->(∃T,cU h' a T)->E (.ref a) {s with heap:=h'}):cameBackBy M A env E (.ref a) s:=by obtain⟨T,qB⟩:=id ht;obtain⟨oe,vs,he,hd,h1⟩:=qB;unfold cameBackBy;refine O3 (wpAny_field he hd h1 ?_);rw[if_neg (show¬((Value.ref T==Value.none)=true) from by simp)];exact iK F ht λh' x f t=>q h' x f t
end
section
variable {X:Cx} {σ:St} {H:Hp} {s:Shared} {cls:Value} {a:Addr}
theorem Inv.IU {h':Heap} (Mn:X.pn=[]) (I:Inv X [] σ H s) (F:je X.s₀.heap.objs.size cls a H s.heap) (x:qa (eI X.stack) a s.heap h'):Inv X [] σ H {s with heap:=h'}:=by
 obtain⟨oa,va,ha,L8,ND,OX⟩:=F.obj;have LA:∀b,cU s.heap a b->X.s₀.heap.objs.size<=b/\H b=none/\b≠a/\∃oT ts,s.heap.get? b=some oT/\oT.data= .fields ts/\3 < ts.size:=F.tb;have LS:∀b o,s.heap.get? b=some o->(∀vs,o.data≠ .fields vs)->b≠a/\¬cU s.heap a b:=λb o e nf=>by
  refine⟨λz=>?_,λz=>?_⟩
  ·subst z;rw[ha] at e;cases e;exact nf va ND
  ·obtain⟨_,_,_,oT,ts,hT,wW,_⟩:=LA b z;rw[hT] at e;cases e;exact nf ts wW
 have old:∀b o,X.s₀.heap.get? b=some o->b≠a/\¬cU s.heap a b:=λb o e=>by
  refine⟨λz=>?_,λz=>?_⟩
  ·subst z;exact absurd (Pu (Pi e) F.ge) (Nat.lt_irrefl _)
  ·exact absurd (Pu (Pi e) (LA b z).1) (Nat.lt_irrefl _)
 have IJ:∀b o,X.s₀.heap.get? b=some o->b≠X.env.locals:=λb o e=>PJ (Pu (Pi e) I.ok.above)
 have Eh:∀b o,X.s₀.heap.get? b=some o->b∈eI X.stack->b∈X.fs:=λb o e z=>by
  rcases Pk.mp (I.kF b z) with q | q
  ·exact absurd q (IJ b o e)
  ·exact q
 have En:∀c u,H c=some u->∀v,s.heap.get? c=some v->h'.get? c=some v:=λc u hc v e=>by
  refine x.keep c v e (λz=>by subst z;rw[F.nH] at hc;cases hc) (λz=>by rw[(LA c z).2.1] at hc;cases hc) λz=>?_
  rw[I.nN c z] at hc;cases hc
 have cellK:∀y c,X.env.cells.lookup y=some c->∀v,s.heap.IsCell c v->h'.IsCell c v:=λy c e v ⟨o,ho,hd⟩=>by
  obtain⟨n1,n2⟩:=LS c o ho λvs q=>by rw[hd] at q;cases q
  obtain⟨sl,q⟩:=x.slot c o ho n1 n2;exact⟨_,q,hd⟩
 refine⟨I.ok,I.os,I.bare,⟨λb o e n hb hx=>?_,λb o e n hb hx=>?_,I.base.free,λb o e hx=>?_,I.base.tups,I.base.frzs,I.base.tbls⟩,?_,λy c e=>?_,I.free,I.cZ,λp hp=>?_,?_,I.len⟩
 ·exact x.keep b o (I.base.keep b o e n hb hx) (old b o e).1 (old b o e).2 λz=>hb (Eh b o e z)
 ·obtain⟨sl,e1⟩:=I.base.slot b o e n hb hx;obtain⟨Hi,e2⟩:=x.slot b _ e1 (old b o e).1 (old b o e).2;exact⟨Hi,e2⟩
 ·obtain⟨o',e1⟩:=I.base.there b o e hx;exact x.there b o' e1
 ·obtain⟨m,⟨o,es,ep,ho,hd,r⟩,hl⟩:=I.loc;obtain⟨n1,n2⟩:=LS _ o ho λvs q=>by rw[hd] at q;cases q
  obtain⟨sl,q⟩:=x.slot _ o ho n1 n2;refine⟨m,⟨_,es,ep,q,hd,r⟩,λi y v e1 e2 e3=>?_⟩;obtain⟨u,rr,l⟩:=hl i y v e1 e2 e3;refine⟨u,rr,?_⟩;rcases l with l | ⟨k,c,e,z⟩
  ·exact .inl l
  ·exact .inr ⟨k,c,e,cellK y c e _ z⟩
 ·obtain⟨v,z⟩:=I.cell y c e;exact⟨v,cellK y c e v z⟩
 ·rw[Mn] at hp;cases hp
 ·intro b u e;refine(I.hok b u e).kE (λc v hc q=>?_) (λ_ q=>q) λ_ _ q=>q
  rcases hc with rfl | hc
  ·exact En c u e v q
  ·exact En c _ hc v q
end
noncomputable def jL (X:Cx) (E:XK) (e:Value) (s':Shared):Prop:=∃σ H' a cls,e= .ref a/\Inv X [] σ H' s'/\je X.s₀.heap.objs.size cls a H' s'.heap/\E cls none H'
noncomputable def nX (P:Program) (w:World):jm:=λouter H s E e s'=>∃H' a cls,e= .ref a/\s'.os=s.os/\AllBare s'.gens/\Un (eI outer) [] H H' s.heap s'.heap/\d4 P w H' s'.heap/\je s.heap.objs.size cls a H' s'.heap/\E cls none H'
structure eU (X:Cx):Prop where
 pn:X.pn=[]
 st:∃fU ny L,X.stack=fU::ny/\fU.frame=some L/\X.env.frame=fU.frame
section
variable {X:Cx} {E:XK}
theorem yx {CX:jm} {P:Program} {w:World} {K:PySem.W.Frag} {mg:Str->Option Value} {base:Heap} {N:List Str} {qual:Str} {scope:Scope} {f:Addr} {cd:Value} {A:Around} {outer:List Env} {s:Shared} {H:Hp}:eU (jR CX P w K mg base N qual scope f cd A outer s H E):=
 ⟨rfl,_,_,_,rfl,rfl,rfl⟩
theorem nO {scope:Scope} {N':List Str} {C:Addr} {s:Shared} {H:Hp} {fp:List Addr} {xe:Value->Shared->Prop} (st:eU X):eU (eO X scope N' C s H fp xe):=by obtain⟨hp,fU,ny,L,h1,h2,h3⟩:=st;exact⟨rfl,fU,ny,L,h1,h2,h3⟩
theorem je.down {N N':Nat} {cls:Value} {a:Addr} {H:Hp} {h:Heap} (F:je N cls a H h) (hn:N'<=N):je N' cls a H h:=⟨Pj hn F.ge,F.nH,F.obj,λT z=>⟨Pj hn (F.tb T z).1,(F.tb T z).2⟩⟩
theorem yO {pins:List (Addr×Obj)} {σ:St} {H:Hp} {s s':Shared} {e:Value} (I:Inv X pins σ H s) (Mn:X.pn=[]) (c:nX X.prog X.w X.stack H s E e s'):jL X E e s':=by
 obtain⟨H',a,cls,e1,h1,h2,h3,h4,h5,h6⟩:=c;have I1:Inv X pins σ H' s':=I.vU (ch:=[]) h1 h3 h4 h2 λb z=>by cases z
 refine⟨σ,H',a,cls,e1,I1.jG (λp hp=>by cases hp),h5.down I.sz,h6⟩
theorem me (st:eU X) {e:Value} {s:Shared} (h:jL X E e s) {Q:Unit->Shared->Prop} {E2:Value->Shared->Prop} (q:∀σ H' a cls s',e= .ref a->Inv X [] σ H' s'->je X.s₀.heap.objs.size cls a H' s'.heap->(∃T,cU s'.heap a T)->E cls none H'->Q () s'):wpAny (model X.prog X.w) X.A (noteFrame e X.env) Q E2 s:=by
 obtain⟨σ,H',a,cls,rfl,I,F,hE⟩:=h;obtain⟨hp,fU,ny,L,h1,h2,h3⟩:=st;have uE:=I.ok.frames;have hl:=I.stack;rw[h1] at uE hl;refine zL uE hl h2 h3 F (λb hb=>I.hok.fresh hb) λh' x f t=>?_
 rw[<-h1] at x;exact q σ H' a cls _ rfl (I.IU hp F x) f t hE
theorem pX (st:eU X) {e:Value} {s:Shared} (h:jL X E e s) {R:Value->Shared->Prop} (q:∀σ H' a cls s',e= .ref a->Inv X [] σ H' s'->je X.s₀.heap.objs.size cls a H' s'.heap->(∃T,cU s'.heap a T)->E cls none H'->R e s'):notedBy (model X.prog X.w) X.A X.env R e s:=
 me st h q
theorem ue (st:eU X) (hx:∀e s',jL X E e s'->X.xe e s') (Ac:∀e s',X.xe e s'->jL X E e s'):PassesOwn (model X.prog X.w) X.A X.env X.xe:=λe s' h=>by
 refine pX st (Ac e s' h) λσ H' a cls s1 e1 I1 F1 t1 hE=>?_
 subst e1;exact zK (fs:=eI X.stack) F1 t1 λh' x f t=>hx _ _ ⟨σ,H',a,cls,rfl,I1.IU st.pn F1 x,f,hE⟩
end
theorem Ey {P:Program} {w:World} {K:PySem.W.Frag} {mg:Str->Option Value} {base:Heap} {N:List Str} {qual:Str} {scope:Scope} {f:Addr} {cd:Value} {A:Around} {outer:List Env} {s:Shared} {H:Hp} {E:XK} {e:Value} {s':Shared}
  (h:jL (jR (nX P w) P w K mg base N qual scope f cd A outer s H E) E e s'):(jR (nX P w) P w K mg base N qual scope f cd A outer s H E).xe e s':=by
 have st:=yx (CX:=nX P w) (P:=P) (w:=w) (K:=K) (mg:=mg) (base:=base) (N:=N) (qual:=qual) (scope:=scope) (f:=f) (cd:=cd) (A:=A) (outer:=outer) (s:=s) (H:=H) (E:=E);show wpAny (model P w) (A.deeper (envOfC qual scope s.heap.objs.size f cd)) (leaving (envOfC qual scope s.heap.objs.size f cd) e) (λ_ s''=>nX P w outer H s E e s'') (λe' s''=>nX P w outer H s E e' s'') s';unfold leaving;refine O3 (me st h λσ H' a cls s1 e1 I1 F1 t1 hE=>?_);subst e1;refine iK (fs:=eI (jR (nX P w) P w K mg base N qual scope f cd A outer s H E).stack) F1 t1 λh' x f' t=>?_
 have I2:=I1.IU st.pn F1 x;exact⟨H',a,cls,rfl,I2.os,I2.bare,I2.base,I2.hok,f',hE⟩
section
variable {X:Cx} {E:XK} {scope:Scope} {N':List Str}
theorem Cx.Ok.xe {xe:Value->Shared->Prop} (k:X.Ok):Cx.Ok {X with xe:=xe}:=⟨k.mod,k.kind,k.glob,k.blt,k.above,k.inj,k.has,k.Bn,k.hd,k.frames,k.Eh,k.EF,k.bs,k.zA,k.o7,k.qw,k.jf,k.Cy⟩
theorem Inv.xe {xe:Value->Shared->Prop} {pins:List (Addr×Obj)} {σ:St} {H:Hp} {s:Shared} (I:Inv X pins σ H s):Inv {X with xe:=xe} pins σ H s:=⟨I.ok.xe,I.os,I.bare,I.base,I.loc,I.cell,I.free,I.cZ,I.pin,I.hok,I.len⟩
noncomputable def rR (X:Cx) (scope:Scope) (N':List Str) (E:XK) (C:Addr) (s:Shared) (H:Hp) (fp:List Addr):Value->Shared->Prop:=jL (eO X scope N' C s H fp λ_ _=>False) E
theorem yN {C:Addr} {s:Shared} {H:Hp} {fp:List Addr} {e:Value} {s':Shared} {xe:Value->Shared->Prop} (h:jL (eO X scope N' C s H fp xe) E e s'):rR X scope N' E C s H fp e s':=by obtain⟨σ,H',a,cls,e1,I,F,hE⟩:=h;exact⟨σ,H',a,cls,e1,I.xe,F,hE⟩
theorem xQ {C:Addr} {s:Shared} {H:Hp} {fp:List Addr} {e:Value} {s':Shared} {xe:Value->Shared->Prop} (h:rR X scope N' E C s H fp e s'):jL (eO X scope N' C s H fp xe) E e s':=by obtain⟨σ,H',a,cls,e1,I,F,hE⟩:=h;exact⟨σ,H',a,cls,e1,I.xe,F,hE⟩
theorem tE {C:Addr} {s:Shared} {H:Hp} {fp:List Addr} (st:eU X):PassesOwn (model X.prog X.w) X.A (eO X scope N' C s H fp (rR X scope N' E C s H fp)).env (rR X scope N' E C s H fp):=
 ue (X:=eO X scope N' C s H fp (rR X scope N' E C s H fp)) (E:=E) (nO st) (λe s' h=>yN h) (λe s' h=>xQ h)
theorem je.at {h0:Nat} {cls:Value} {a:Addr} {H:Hp} {h h':Heap} (F:je h0 cls a H h) (k:∀b o vs,h.get? b=some o->o.data= .fields vs->h'.get? b=some o):je h0 cls a H h':=by obtain⟨o,vs,h1,h2,h3,h4⟩:=F.obj;have e1:=k a o vs h1 h3;refine⟨F.ge,F.nH,⟨o,vs,e1,h2,h3,h4⟩,λT z=>?_⟩;obtain⟨o',ws,z1,z2,z3⟩:=z;rw[e1] at z1;cases z1;obtain⟨t1,t2,t3,oT,ts,t4,t5,t6⟩:=F.tb T ⟨o,ws,h1,z2,z3⟩;exact⟨t1,t2,t3,oT,ts,k T oT ts t4 t5,t5,t6⟩
theorem jJ (st:eU X) (Oa:∀e s',jL X E e s'->X.xe e s'):zr X scope N' (rR X scope N' E):=by
 refine⟨λpins σ C s s1 H H1 fp x s' I1 f1 hC hs hH Bt hxb=>?_⟩;refine pX (X:=eO X scope N' C s H fp (rR X scope N' E C s H fp)) (nO st) (xQ hxb) λσ' H' a cls s5 e1 I5 F5 t5 hE=>?_
 subst e1;obtain⟨m5,Ki,_⟩:=I5.loc;have xh:s5.heap.Ns C m5:=Ki;refine⟨m5,xh,λh' hsb uu uC=>?_⟩;have un:Un (eI X.stack) fp H1 H' s1.heap s5.heap:=by
  have u1:Un (eI X.stack) fp H1 H s1.heap s.heap:=by rw[hH,hs];exact Un.laid (λb u e=>O5 _ e) (Pd _) I1.fresh
  exact u1.trans I5.base
 have hI:Inv X pins σ H' s5:=I1.vU (ch:=fp) (I5.os.trans (by show s.os=s1.os;rw[hs])) un I5.hok I5.bare λb hb=>⟨(f1 b hb).2.2.2.1,(f1 b hb).2.1,(f1 b hb).2.2.2.2.1,(f1 b hb).2.2.2.2.2⟩
 have fC:gp X pins H' C:=I1.qA (Nat.le_of_lt hC) I5.free;have L1:Inv X pins σ H' {s5 with heap:=h',toks:=s5.toks}:=hI.turned (t':=s5.toks) (λb o hb e=>(hsb.2 b hb).trans e) fC.1 fC.2.1 fC.2.2.2.1 fC.2.2.2.2.1 fC.2.2.2.2.2;have Nr:Inv X [] σ H' {s5 with heap:=h'}:=L1.jG λp hp=>by cases hp
 have g0:s1.heap.objs.size<=s.heap.objs.size:=by rw[hs];show _<=(s1.heap.push _).objs.size;rw[PH];exact Nat.le_succ _
 have F6:je X.s₀.heap.objs.size cls a H' h':=by
  have hd:∀b o vs,s5.heap.get? b=some o->o.data= .fields vs->h'.get? b=some o:=λb o vs e hd=>by refine(hsb.2 b λz=>?_).trans e;subst z;obtain⟨o',es,ep,qF,qD,_⟩:=xh;rw[e] at qF;cases qF;rw[hd] at qD;cases qD
  exact(F5.at hd).down (Pj I1.sz g0)
 have t6:∃T,cU h' a T:=by obtain⟨T,o,vs,z1,z2,z3⟩:=t5;refine⟨T,o,vs,(hsb.2 a λz=>?_).trans z1,z2,z3⟩;subst z;obtain⟨o',es,ep,qF,qD,_⟩:=xh;rw[z1] at qF;cases qF;rw[z2] at qD;cases qD
 exact zM (s:={s5 with heap:=h'}) (fs:=eI X.stack) F6 t6 λh'' x f t=>Oa _ _ ⟨σ,H',a,cls,rfl,Nr.IU st.pn F6 x,f,hE⟩
end
end L2
end
section
namespace Rx
open PySem PySem.W PySem.Spec PyProof.Rows L2 PySem.SeqAt
inductive Dt where
 | bg | bl (b:Bool) | int (i:Int) | str (x:Str) | tup (ds:List Dt) | lst (ds:List Dt) | bE (ns:List Int)
 | zG (ks vs:List Dt) | obj (c:Nat) (fs:List Dt) | exc (c:Nat)
noncomputable abbrev Frag:=PySem.W.Frag
noncomputable def KL (K:Frag) (a:Addr) (xs:List V):Prop:=∃(o:Obj) (its:Array Value) (n:Nat),K.lookup a=some o/\o.cls= .type "list"/\o.dict=none/\o.data= .seq its n/\its.size<=sizeLine/\ar xs its.toList
mutual
noncomputable def RV (K:Frag) (A:Addr->Prop) (H:Hp):V->Dt->Prop
 | x,.bg=>x= .bg
 | x,.bl b=>x= .bl b
 | x,.int i=>x= .int i
 | x,.str z=>x= .str z
 | x,.tup ds=>∃a xs,x= .ref a/\H a=some (.tup xs)/\ao K A H xs ds
 | x,.lst ds=>∃a xs,x= .ref a/\H a=some (.lst xs)/\¬A a/\ao K A H xs ds
 | x,.bE ns=>∃a,x= .ref a/\((Rd H a (.lst (ns.map V.int))/\¬A a)\/KL K a (ns.map V.int))
 | _,.zG _ _=>False
 | _,.obj _ _=>False
 | _,.exc _=>False
noncomputable def ao (K:Frag) (A:Addr->Prop) (H:Hp):List V->List Dt->Prop
 | [],[]=>True
 | x::xs,d::ds=>RV K A H x d/\ao K A H xs ds
 | [],_::_=>False
 | _::_,[]=>False
end
section
variable {K:Frag} {A B:Addr->Prop} {H H':Hp}
theorem RV.aC {x:V} (h:RV K A H x .bg):x= .bg:=by unfold RV at h;exact h
theorem RV.ay {x:V} {b} (h:RV K A H x (.bl b)):x= .bl b:=by unfold RV at h;exact h
theorem RV.int_inv {x:V} {b} (h:RV K A H x (.int b)):x= .int b:=by unfold RV at h;exact h
theorem RV.str_inv {x:V} {b} (h:RV K A H x (.str b)):x= .str b:=by unfold RV at h;exact h
theorem RV.ag {x:V} {ds} (h:RV K A H x (.tup ds)):∃a xs,x= .ref a/\H a=some (.tup xs)/\ao K A H xs ds:=by unfold RV at h;exact h
theorem RV.lst_inv {x:V} {ds} (h:RV K A H x (.lst ds)):∃a xs,x= .ref a/\H a=some (.lst xs)/\¬A a/\ao K A H xs ds:=by unfold RV at h;exact h
theorem RV.fR {x:V} {ns} (h:RV K A H x (.bE ns)):∃a,x= .ref a/\((Rd H a (.lst (ns.map V.int))/\¬A a)\/KL K a (ns.map V.int)):=by unfold RV at h;exact h
theorem RV.iX {x:V} {ns} (h:RV K A H x (.bE ns)):∃a,x= .ref a/\cT K H a (ns.map V.int):=by
 obtain⟨a,e,h | h⟩:=h.fR
 ·exact⟨a,e,.inl h.1⟩
 ·exact⟨a,e,.inr h⟩
theorem RV.jr {x:V} {ks vs} (h:RV K A H x (.zG ks vs)):False:=by unfold RV at h;exact h
theorem RV.jD {x:V} {ks vs} (h:RV K A H x (.obj ks vs)):False:=by unfold RV at h;exact h
theorem RV.jt {x:V} {ks} (h:RV K A H x (.exc ks)):False:=by unfold RV at h;exact h
theorem RV.gA:RV K A H .bg .bg:=by unfold RV;rfl
theorem RV.oX {b}:RV K A H (.bl b) (.bl b):=by unfold RV;rfl
theorem RV.c7 {b}:RV K A H (.int b) (.int b):=by unfold RV;rfl
theorem RV.iT {b}:RV K A H (.str b) (.str b):=by unfold RV;rfl
theorem RV.c8 {a xs ds} (h:H a=some (.tup xs)) (t:ao K A H xs ds):RV K A H (.ref a) (.tup ds):=by unfold RV;exact⟨a,xs,rfl,h,t⟩
theorem RV.ez {a xs ds} (h:H a=some (.lst xs)) (n:¬A a) (t:ao K A H xs ds):RV K A H (.ref a) (.lst ds):=by unfold RV;exact⟨a,xs,rfl,h,n,t⟩
theorem ao.nil:ao K A H [] []:=by unfold ao;trivial
theorem ao.cons {x d xs ds} (h:RV K A H x d) (t:ao K A H xs ds):ao K A H (x::xs) (d::ds):=by unfold ao;exact⟨h,t⟩
theorem ao.nil_inv {xs} (h:ao K A H xs []):xs=[]:=by
 cases xs with
 | nil=>rfl
 | cons=>unfold ao at h;exact h.elim
theorem ao.dS {ds} (h:ao K A H [] ds):ds=[]:=by
 cases ds with
 | nil=>rfl
 | cons=>unfold ao at h;exact h.elim
theorem ao.cons_inv {xs d ds} (h:ao K A H xs (d::ds)):∃x r,xs=x::r/\RV K A H x d/\ao K A H r ds:=by
 cases xs with
 | nil=>unfold ao at h;exact h.elim
 | cons x r=>unfold ao at h;exact⟨x,r,rfl,h⟩
theorem ao.uv {x xs ds} (h:ao K A H (x::xs) ds):∃d r,ds=d::r/\RV K A H x d/\ao K A H xs r:=by
 cases ds with
 | nil=>unfold ao at h;exact h.elim
 | cons d r=>unfold ao at h;exact⟨d,r,rfl,h⟩
theorem ao.length:∀{xs ds},ao K A H xs ds->xs.length=ds.length
 | [],[],_=>rfl
 | [],_::_,h=>by unfold ao at h;exact h.elim
 | _::_,[],h=>by unfold ao at h;exact h.elim
 | _::xs,_::ds,h=>by unfold ao at h;simp[ao.length h.2]
theorem ao.get:∀{xs ds} {i:Nat} {x},ao K A H xs ds->xs[i]?=some x->∃d,ds[i]?=some d/\RV K A H x d
 | [],_,_,_,_,e=>by simp at e
 | _::_,[],_,_,h,_=>by unfold ao at h;exact h.elim
 | _::_,_::_,0,_,h,e=>by unfold ao at h;simp at e;subst e;exact⟨_,rfl,h.1⟩
 | _::xs,_::ds,i + 1,x,h,e=>by unfold ao at h;obtain⟨d,e1,e2⟩:=ao.get (i:=i) h.2 (by simpa using e);exact⟨d,by simpa using e1,e2⟩
theorem ao.getD:∀{xs ds} {i:Nat} {d},ao K A H xs ds->ds[i]?=some d->∃x,xs[i]?=some x/\RV K A H x d
 | _,[],_,_,_,e=>by simp at e
 | [],_::_,_,_,h,_=>by unfold ao at h;exact h.elim
 | _::_,_::_,0,_,h,e=>by unfold ao at h;simp at e;subst e;exact⟨_,rfl,h.1⟩
 | _::xs,_::ds,i + 1,x,h,e=>by unfold ao at h;obtain⟨d,e1,e2⟩:=ao.getD (i:=i) h.2 (by simpa using e);exact⟨d,by simpa using e1,e2⟩
theorem ao.append:∀{xs ys ds es},ao K A H xs ds->ao K A H ys es->ao K A H (xs++ys) (ds++es)
 | [],_,[],_,_,h=>h
 | [],_,_::_,_,h,_=>by unfold ao at h;exact h.elim
 | _::_,_,[],_,h,_=>by unfold ao at h;exact h.elim
 | _::xs,ys,_::ds,es,h,h'=>by unfold ao at h;exact ao.cons h.1 (ao.append h.2 h')
theorem ao.take:∀{xs ds} (n:Nat),ao K A H xs ds->ao K A H (xs.take n) (ds.take n)
 | [],ds,n,h=>by rw[h.dS];simp;exact ao.nil
 | x::xs,[],n,h=>by unfold ao at h;exact h.elim
 | x::xs,d::ds,0,h=>by simp;exact ao.nil
 | x::xs,d::ds,n + 1,h=>by unfold ao at h;simp only[List.take_succ_cons];exact ao.cons h.1 (ao.take n h.2)
theorem ao.drop:∀{xs ds} (n:Nat),ao K A H xs ds->ao K A H (xs.drop n) (ds.drop n)
 | [],ds,n,h=>by rw[h.dS];simp;exact ao.nil
 | x::xs,[],n,h=>by unfold ao at h;exact h.elim
 | x::xs,d::ds,0,h=>h
 | x::xs,d::ds,n + 1,h=>by unfold ao at h;simp only[List.drop_succ_cons];exact ao.drop n h.2
theorem ao.set:∀{xs ds} (n:Nat) {x d},ao K A H xs ds->RV K A H x d->ao K A H (xs.set n x) (ds.set n d)
 | [],ds,n,_,_,h,_=>by rw[h.dS];simp;exact ao.nil
 | x::xs,[],n,_,_,h,_=>by unfold ao at h;exact h.elim
 | x::xs,d::ds,0,_,_,h,h'=>by unfold ao at h;simp only[List.set_cons_zero];exact ao.cons h' h.2
 | x::xs,d::ds,n + 1,_,_,h,h'=>by unfold ao at h;simp only[List.set_cons_succ];exact ao.cons h.1 (ao.set n h.2 h')
structure aV (X:Addr->Prop) (H H':Hp):Prop where
 kp:∀b o,H b=some o->¬X b->H' b=some o
 tp:∀b xs,H b=some (.tup xs)->H' b=some (.tup xs)
theorem aV.of_same {X:Addr->Prop} (s:bB H H'):aV X H H':=⟨λb o e _=>s b o e,λb xs e=>s b _ e⟩
theorem aV.refl {X:Addr->Prop}:aV X H H:=⟨λ_ _ e _=>e,λ_ _ e=>e⟩
theorem aV.trans {X:Addr->Prop} {H1:Hp} (a:aV X H H1) (b:aV X H1 H'):aV X H H':=⟨λc o e n=>b.kp c o (a.kp c o e n) n,λc xs e=>b.tp c xs (a.tp c xs e)⟩
theorem aV.mono {X Y:Addr->Prop} (a:aV X H H') (h:∀b,X b->Y b):aV Y H H':=⟨λb o e n=>a.kp b o e λz=>n (h b z),a.tp⟩
theorem ye {X:Addr->Prop} {a:Addr} {u:HO} (e:aV X H H') (n:¬X a) (h:Rd H a u):Rd H' a u:=by
 rcases h with h | ⟨o,h⟩
 ·exact .inl (e.kp _ _ h n)
 ·exact .inr ⟨o,e.kp _ _ h n⟩
mutual
theorem RV.mono {X:Addr->Prop} (e:aV X H H') (hX:∀b,X b->A b) (hB:∀b,B b->A b):∀{x d},RV K A H x d->RV K B H' x d
 | x,.bg,h=>by rw[h.aC];exact RV.gA
 | x,.bl b,h=>by rw[h.ay];exact RV.oX
 | x,.int b,h=>by rw[h.int_inv];exact RV.c7
 | x,.str b,h=>by rw[h.str_inv];exact RV.iT
 | x,.tup ds,h=>by obtain⟨a,xs,rfl,h1,h2⟩:=h.ag;exact RV.c8 (e.tp _ _ h1) (ao.mono e hX hB h2)
 | x,.lst ds,h=>by obtain⟨a,xs,rfl,h1,h3,h2⟩:=h.lst_inv;exact RV.ez (e.kp _ _ h1 λz=>h3 (hX _ z)) (λz=>h3 (hB _ z)) (ao.mono e hX hB h2)
 | x,.bE ns,h=>by
  obtain⟨a,rfl,⟨h1,h3⟩ | h1⟩:=h.fR
  ·unfold RV;exact⟨a,rfl,.inl ⟨ye e (λz=>h3 (hX _ z)) h1,λz=>h3 (hB _ z)⟩⟩
  ·unfold RV;exact⟨a,rfl,.inr h1⟩
 | x,.zG ..,h=>h.jr.elim
 | x,.obj ..,h=>h.jD.elim
 | x,.exc ..,h=>h.jt.elim
theorem ao.mono {X:Addr->Prop} (e:aV X H H') (hX:∀b,X b->A b) (hB:∀b,B b->A b):∀{xs ds},ao K A H xs ds->ao K B H' xs ds
 | [],[],_=>ao.nil
 | [],_::_,h=>by unfold ao at h;exact h.elim
 | _::_,[],h=>by unfold ao at h;exact h.elim
 | _::xs,_::ds,h=>by unfold ao at h;exact ao.cons (RV.mono e hX hB h.1) (ao.mono e hX hB h.2)
end
theorem RV.same {x d} (h:RV K A H x d) (s:bB H H'):RV K A H' x d:=h.mono (X:=λ_=>False) (aV.of_same s) (λ_ z=>z.elim) λ_ z=>z
theorem ao.same {x d} (h:ao K A H x d) (s:bB H H'):ao K A H' x d:=h.mono (X:=λ_=>False) (aV.of_same s) (λ_ z=>z.elim) λ_ z=>z
theorem RV.weak {x d} (h:RV K A H x d) (hB:∀b,B b->A b):RV K B H x d:=h.mono (X:=λ_=>False) aV.refl (λ_ z=>z.elim) hB
theorem ao.weak {x d} (h:ao K A H x d) (hB:∀b,B b->A b):ao K B H x d:=h.mono (X:=λ_=>False) aV.refl (λ_ z=>z.elim) hB
mutual
theorem RV.avoid {p:Addr} (hp:H p=none):∀{x d},RV K A H x d->RV K (λb=>A b\/b=p) H x d
 | x,.bg,h=>by rw[h.aC];exact RV.gA
 | x,.bl b,h=>by rw[h.ay];exact RV.oX
 | x,.int b,h=>by rw[h.int_inv];exact RV.c7
 | x,.str b,h=>by rw[h.str_inv];exact RV.iT
 | x,.tup ds,h=>by obtain⟨a,xs,rfl,h1,h2⟩:=h.ag;exact RV.c8 h1 (ao.avoid hp h2)
 | x,.lst ds,h=>by obtain⟨a,xs,rfl,h1,h3,h2⟩:=h.lst_inv;exact RV.ez h1 (λz=>z.elim h3 λe=>by rw[e,hp] at h1;cases h1) (ao.avoid hp h2)
 | x,.bE ns,h=>by
  obtain⟨a,rfl,⟨h1,h3⟩ | h1⟩:=h.fR
  ·unfold RV;refine⟨a,rfl,.inl ⟨h1,λz=>z.elim h3 λe=>?_⟩⟩;subst e;rcases h1 with h1 | ⟨o,h1⟩ <;> (rw[hp] at h1;cases h1)
  ·unfold RV;exact⟨a,rfl,.inr h1⟩
 | x,.zG ..,h=>h.jr.elim
 | x,.obj ..,h=>h.jD.elim
 | x,.exc ..,h=>h.jt.elim
theorem ao.avoid {p:Addr} (hp:H p=none):∀{xs ds},ao K A H xs ds->ao K (λb=>A b\/b=p) H xs ds
 | [],[],_=>ao.nil
 | [],_::_,h=>by unfold ao at h;exact h.elim
 | _::_,[],h=>by unfold ao at h;exact h.elim
 | _::xs,_::ds,h=>by unfold ao at h;exact ao.cons (RV.avoid hp h.1) (ao.avoid hp h.2)
end
end
section
variable {K:Frag} {A B:Addr->Prop} {H:Hp}
mutual
theorem RV.bN (hp:∀b,B b->A b\/H b=none):∀{x d},RV K A H x d->RV K B H x d
 | x,.bg,h=>by rw[h.aC];exact RV.gA
 | x,.bl b,h=>by rw[h.ay];exact RV.oX
 | x,.int b,h=>by rw[h.int_inv];exact RV.c7
 | x,.str b,h=>by rw[h.str_inv];exact RV.iT
 | x,.tup ds,h=>by obtain⟨a,xs,rfl,h1,h2⟩:=h.ag;exact RV.c8 h1 (ao.bN hp h2)
 | x,.lst ds,h=>by obtain⟨a,xs,rfl,h1,h3,h2⟩:=h.lst_inv;exact RV.ez h1 (λz=>(hp a z).elim h3 λe=>by rw[e] at h1;cases h1) (ao.bN hp h2)
 | x,.bE ns,h=>by
  obtain⟨a,rfl,⟨h1,h3⟩ | h1⟩:=h.fR
  ·unfold RV;refine⟨a,rfl,.inl ⟨h1,λz=>(hp a z).elim h3 λe=>?_⟩⟩;rcases h1 with h1 | ⟨o,h1⟩ <;> (rw[e] at h1;cases h1)
  ·unfold RV;exact⟨a,rfl,.inr h1⟩
 | x,.zG ..,h=>h.jr.elim
 | x,.obj ..,h=>h.jD.elim
 | x,.exc ..,h=>h.jt.elim
theorem ao.bN (hp:∀b,B b->A b\/H b=none):∀{xs ds},ao K A H xs ds->ao K B H xs ds
 | [],[],_=>ao.nil
 | [],_::_,h=>by unfold ao at h;exact h.elim
 | _::_,[],h=>by unfold ao at h;exact h.elim
 | _::xs,_::ds,h=>by unfold ao at h;exact ao.cons (RV.bN hp h.1) (ao.bN hp h.2)
end
end
mutual
noncomputable def gh:Dt->Bool
 | .bg | .bl _ | .int _ | .str _=>true
 | .tup ds=>fZ ds
 | _=>false
noncomputable def fZ:List Dt->Bool
 | []=>true
 | d::ds=>gh d&&fZ ds
end
mutual
theorem RV.gh {K:Frag} {A B:Addr->Prop} {H:Hp}:∀{x d},RV K A H x d->gh d=true->RV K B H x d
 | x,.bg,h,_=>by rw[h.aC];exact RV.gA
 | x,.bl b,h,_=>by rw[h.ay];exact RV.oX
 | x,.int b,h,_=>by rw[h.int_inv];exact RV.c7
 | x,.str b,h,_=>by rw[h.str_inv];exact RV.iT
 | x,.tup ds,h,n=>by obtain⟨a,xs,rfl,h1,h2⟩:=h.ag;exact RV.c8 h1 (ao.fZ h2 (by simpa [Rx.gh] using n))
 | x,.lst ds,_,n=>by simp[Rx.gh] at n
 | x,.bE ds,_,n=>by simp[Rx.gh] at n
 | x,.zG ..,h,_=>h.jr.elim
 | x,.obj ..,h,_=>h.jD.elim
 | x,.exc ..,h,_=>h.jt.elim
theorem ao.fZ {K:Frag} {A B:Addr->Prop} {H:Hp}:∀{xs ds},ao K A H xs ds->fZ ds=true->ao K B H xs ds
 | [],[],_,_=>ao.nil
 | [],_::_,h,_=>by unfold ao at h;exact h.elim
 | _::_,[],h,_=>by unfold ao at h;exact h.elim
 | _::xs,_::ds,h,n=>by unfold ao at h;simp only[Rx.fZ,O7] at n;exact ao.cons (RV.gh h.1 n.1) (ao.fZ h.2 n.2)
end
mutual
noncomputable def toD:Dt->Option Mx.D
 | .int i=>some (.int i)
 | .str x=>some (.str x)
 | .tup ds=>(kM ds).map Mx.D.tup
 | _=>none
noncomputable def kM:List Dt->Option (List Mx.D)
 | []=>some []
 | d::ds=>(toD d).bind λm=>(kM ds).map (m:: ·)
end
mutual
noncomputable def ofD:Mx.D->Dt
 | .int i=> .int i
 | .str x=> .str x
 | .tup ds=> .tup (aa ds)
noncomputable def aa:List Mx.D->List Dt
 | []=>[]
 | d::ds=>ofD d::aa ds
end
theorem a6:∀ds:List Mx.D,aa ds=ds.map ofD
 | []=>by simp[aa]
 | d::ds=>by simp[aa,a6 ds]
mutual
theorem El:∀m:Mx.D,toD (ofD m)=some m
 | .int i=>by simp[ofD,toD]
 | .str x=>by simp[ofD,toD]
 | .tup ds=>by simp[ofD,toD,fS ds]
theorem fS:∀ms:List Mx.D,kM (aa ms)=some ms
 | []=>by simp[aa,kM]
 | m::ms=>by simp[aa,kM,El m,fS ms]
end
mutual
theorem Dm:∀{d:Dt} {m:Mx.D},toD d=some m->d=ofD m
 | .int i,m,h=>by simp[toD] at h;subst h;simp[ofD]
 | .str i,m,h=>by simp[toD] at h;subst h;simp[ofD]
 | .tup ds,m,h=>by simp only[toD,Pn] at h;obtain⟨ms,h1,rfl⟩:=h;rw[nq h1];simp[ofD]
 | .bg,m,h=>by simp[toD] at h
 | .bl _,m,h=>by simp[toD] at h
 | .lst _,m,h=>by simp[toD] at h
 | .bE _,m,h=>by simp[toD] at h
 | .zG _ _,m,h=>by simp[toD] at h
 | .obj _ _,m,h=>by simp[toD] at h
 | .exc _,m,h=>by simp[toD] at h
theorem nq:∀{ds:List Dt} {ms:List Mx.D},kM ds=some ms->ds=aa ms
 | [],ms,h=>by simp[kM] at h;subst h;simp[aa]
 | d::ds,ms,h=>by simp only[kM,O4,Pn] at h;obtain⟨m,h1,r,h2,rfl⟩:=h;rw[Dm h1,nq h2];simp[aa]
end
mutual
theorem RV.dv {K:Frag} {A:Addr->Prop} {H:Hp}:∀{x} {m:Mx.D},RV K A H x (ofD m)->Mx.DV H x m
 | x,.int i,h=>by simp only[ofD] at h;rw[h.int_inv];exact Mx.DV.int
 | x,.str i,h=>by simp only[ofD] at h;rw[h.str_inv];exact Mx.DV.str
 | x,.tup ms,h=>by simp only[ofD] at h;obtain⟨a,xs,rfl,h1,h2⟩:=h.ag;exact Mx.DV.tup h1 (ao.uw h2)
theorem ao.uw {K:Frag} {A:Addr->Prop} {H:Hp}:∀{xs} {ms:List Mx.D},ao K A H xs (aa ms)->Mx.aX H xs ms
 | [],[],_=>Mx.aX.nil
 | [],_::_,h=>by simp only[aa] at h;unfold ao at h;exact h.elim
 | _::_,[],h=>by simp only[aa] at h;unfold ao at h;exact h.elim
 | _::xs,_::ds,h=>by simp only[aa] at h;unfold ao at h;exact Mx.aX.cons (RV.dv h.1) (ao.uw h.2)
end
mutual
theorem RV.GF {K:Frag} {A:Addr->Prop} {H:Hp}:∀{x} {m:Mx.D},Mx.DV H x m->RV K A H x (ofD m)
 | x,.int i,h=>by simp only[ofD];rw[h.int_inv];exact RV.c7
 | x,.str i,h=>by simp only[ofD];rw[h.str_inv];exact RV.iT
 | x,.tup ms,h=>by simp only[ofD];obtain⟨a,xs,rfl,h1,h2⟩:=h.ag;exact RV.c8 h1 (ao.nk h2)
theorem ao.nk {K:Frag} {A:Addr->Prop} {H:Hp}:∀{xs} {ms:List Mx.D},Mx.aX H xs ms->ao K A H xs (aa ms)
 | [],[],_=>by simp only[aa];exact ao.nil
 | [],_::_,h=>by unfold Mx.aX at h;exact h.elim
 | _::_,[],h=>by unfold Mx.aX at h;exact h.elim
 | _::xs,_::ds,h=>by simp only[aa];unfold Mx.aX at h;exact ao.cons (RV.GF h.1) (ao.nk h.2)
end
mutual
noncomputable def bD:Dt->Dt->Bool
 | .bg,.bg=>true
 | .bl a,.bl b=>a==b
 | .int a,.int b=>a==b
 | .bl a,.int b=>(if a then(1:Int) else 0)==b
 | .int a,.bl b=>a==(if b then(1:Int) else 0)
 | .str a,.str b=>a==b
 | .tup a,.tup b=>bI a b
 | .lst a,.lst b=>bI a b
 | _,_=>false
noncomputable def bI:List Dt->List Dt->Bool
 | [],[]=>true
 | x::xs,y::ys=>bD x y&&bI xs ys
 | _,_=>false
end
mutual
noncomputable def pl:Dt->Bool
 | .bg | .bl _ | .int _ | .str _=>true
 | .tup ds=>nC ds
 | .lst ds=>nC ds
 | _=>false
noncomputable def nC:List Dt->Bool
 | []=>true
 | d::ds=>pl d&&nC ds
end
mutual
noncomputable def dp:Dt->Nat
 | .tup ds=>qr ds + 1
 | .lst ds=>qr ds + 1
 | _=>0
noncomputable def qr:List Dt->Nat
 | []=>0
 | d::ds=>max (dp d) (qr ds)
end
mutual
theorem iV:∀d:Dt,pl d=true->bD d d=true
 | .bg,_=>by simp[bD]
 | .bl b,_=>by simp[bD]
 | .int b,_=>by simp[bD]
 | .str b,_=>by simp[bD]
 | .tup ds,h=>by simp only[bD];exact gF ds (by simpa [pl] using h)
 | .lst ds,h=>by simp only[bD];exact gF ds (by simpa [pl] using h)
 | .bE _,h=>by simp[pl] at h
 | .zG _ _,h=>by simp[pl] at h
 | .obj _ _,h=>by simp[pl] at h
 | .exc _,h=>by simp[pl] at h
theorem gF:∀ds:List Dt,nC ds=true->bI ds ds=true
 | [],_=>by simp[bI]
 | d::ds,h=>by simp only[nC,O7] at h;simp only[bI,O7];exact⟨iV d h.1,gF ds h.2⟩
end
noncomputable def Ox:Dt->Nat
 | .bg=>0 | .bl _=>1 | .int _=>2 | .str _=>3 | .tup _=>4 | .lst _=>5 | _=>6
noncomputable def LB (H:Hp):V->Nat
 | .bg=>0 | .bl _=>1 | .int _=>2 | .str _=>3
 | .ref a=>(match H a with | some (.tup _)=>4 | some (.lst _)=>5 | _=>6)
 | _=>6
theorem RV.tg {K:Frag} {A:Addr->Prop} {H:Hp} {x:V} {d:Dt} (h:RV K A H x d) (n:pl d=true):LB H x=Ox d:=by
 cases d with
 | bg=>rw[h.aC];rfl
 | bl=>rw[h.ay];rfl
 | int=>rw[h.int_inv];rfl
 | str=>rw[h.str_inv];rfl
 | tup=>obtain⟨a,xs,rfl,h1,_⟩:=h.ag;unfold LB;dsimp only;rw[h1];rfl
 | lst=>obtain⟨a,xs,rfl,h1,_⟩:=h.lst_inv;unfold LB;dsimp only;rw[h1];rfl
 | _=>simp[pl] at n
mutual
theorem RV.inj {K:Frag} {A B:Addr->Prop} {H:Hp}:∀{x d e},RV K A H x d->RV K B H x e->pl d=true->pl e=true->d=e
 | x,.bg,e,h,g,m,n=>by have t:=(h.tg m).symm.trans (g.tg n);cases e <;> first | rfl | exact absurd t (of_decide_eq_false rfl)
 | x,.bl b,e,h,g,m,n=>by have t:=(h.tg m).symm.trans (g.tg n);cases e <;> first | exact absurd t (of_decide_eq_false rfl) | (cases h.ay.symm.trans g.ay;rfl)
 | x,.int b,e,h,g,m,n=>by have t:=(h.tg m).symm.trans (g.tg n);cases e <;> first | exact absurd t (of_decide_eq_false rfl) | (cases h.int_inv.symm.trans g.int_inv;rfl)
 | x,.str b,e,h,g,m,n=>by have t:=(h.tg m).symm.trans (g.tg n);cases e <;> first | exact absurd t (of_decide_eq_false rfl) | (cases h.str_inv.symm.trans g.str_inv;rfl)
 | x,.tup ds,e,h,g,m,n=>by
  have t:=(h.tg m).symm.trans (g.tg n);cases e with
  | tup es=>obtain⟨a,xs,rfl,h1,h2⟩:=h.ag;obtain⟨b,ys,q,g1,g2⟩:=g.ag;cases q;rw[h1] at g1;cases g1;rw[ao.inj h2 g2 (by simpa [pl] using m) (by simpa [pl] using n)]
  | _=>exact absurd t (of_decide_eq_false rfl)
 | x,.lst ds,e,h,g,m,n=>by
  have t:=(h.tg m).symm.trans (g.tg n);cases e with
  | lst es=>obtain⟨a,xs,rfl,h1,_,h2⟩:=h.lst_inv;obtain⟨b,ys,q,g1,_,g2⟩:=g.lst_inv;cases q;rw[h1] at g1;cases g1;rw[ao.inj h2 g2 (by simpa [pl] using m) (by simpa [pl] using n)]
  | _=>exact absurd t (of_decide_eq_false rfl)
 | x,.bE ds,_,_,_,n,_=>by simp[pl] at n
 | x,.zG ..,_,_,_,n,_=>by simp[pl] at n
 | x,.obj ..,_,_,_,n,_=>by simp[pl] at n
 | x,.exc ..,_,_,_,n,_=>by simp[pl] at n
theorem ao.inj {K:Frag} {A B:Addr->Prop} {H:Hp}:∀{xs ds es},ao K A H xs ds->ao K B H xs es->nC ds=true->nC es=true->ds=es
 | xs,[],es,h,g,_,_=>by
  cases xs with
  | nil=>rw[g.dS]
  | cons=>unfold ao at h;exact h.elim
 | xs,d::ds,es,h,g,m,n=>by
  cases xs with
  | nil=>unfold ao at h;exact h.elim
  | cons x xs=>unfold ao at h;obtain⟨e,t,rfl,g1,g2⟩:=g.uv;have m':=Bool.and_eq_true_iff.mp m;have n':=Bool.and_eq_true_iff.mp n;rw[RV.inj h.1 g1 m'.1 n'.1,ao.inj h.2 g2 m'.2 n'.2]
end
noncomputable def tL (ds es:List Dt) (j:Nat):Bool:=match ds[j]?,es[j]? with
 | some d,some e=>bD d e
 | _,_=>true
theorem cw:∀ds es:List Dt,((List.range (min ds.length es.length)).all (tL ds es)&&ds.length==es.length)=bI ds es
 | [],[]=>by simp[bI]
 | [],_::_=>by simp[bI]
 | _::_,[]=>by simp[bI]
 | d::ds,e::es=>by
  have ih:=cw ds es;have hm:min (d::ds).length (e::es).length=min ds.length es.length + 1:=by simp only[Pq];lia
  have e1:((d::ds).length==(e::es).length)=(ds.length==es.length):=by rw[Bool.eq_iff_iff];simp
  rw[hm,List.range_succ_eq_map,List.all_cons,List.all_map,e1,bI,<-ih,Bool.and_assoc];rfl
theorem mJ {d:Dt}:∀{ds:List Dt} {j:Nat},ds[j]?=some d->dp d<=qr ds
 | [],_,h=>by simp at h
 | d'::ds,0,h=>by simp at h;subst h;unfold qr;lia
 | d'::ds,j + 1,h=>by have:=mJ (ds:=ds) (j:=j) (by simpa using h);unfold qr;lia
theorem gE {d:Dt}:∀{ds:List Dt} {j:Nat},nC ds=true->ds[j]?=some d->pl d=true
 | [],_,_,h=>by simp at h
 | d'::ds,0,n,h=>by simp at h;subst h;simp only[nC,O7] at n;exact n.1
 | d'::ds,j + 1,n,h=>by simp only[nC,O7] at n;exact gE (ds:=ds) (j:=j) n.2 (by simpa using h)
section
variable {P:Program} {w:World} {K:Frag} {A B:Addr->Prop} {H:Hp} {s:Shared}
theorem aN (hok:d4 P w H s.heap) {a:Addr} {xs:List V} (h:H a=some (.lst xs)):∃its:List Value,ar xs its/\s.heap.IsList a its.toArray:=by obtain⟨_,its,n,r,t⟩:=hok a _ h;exact⟨its,r,⟨_,t,rfl,_,rfl⟩⟩
theorem Ft (hok:d4 P w H s.heap):∀(n:Nat) (d e:Dt) (x y:V) (u v:Value) (R:Around),dp d<=n->pl d=true->pl e=true->R.units + n < cLine->RV K A H x d->RV K B H y e->RelV x u->RelV y v->EqAt R s u v (bD d e):=by
 intro n
 induction n with
 | zero=>
  intro d e x y u v R hd jy fq hu hx hy rx ry;cases d with
  | bg=>
   have:=hx.aC;subst this;cases rx;cases e with
   | bg=>have:=hy.aC;subst this;cases ry;exact EqAt.same _
   | bl j=>have:=hy.ay;subst this;cases ry;exact EqAt.none_bool j
   | int j=>have:=hy.int_inv;subst this;obtain⟨t',rfl⟩:=ry;exact EqAt.none_int j t'
   | str j=>have:=hy.str_inv;subst this;obtain⟨t',rfl⟩:=ry;exact EqAt.none_str j t'
   | tup j=>obtain⟨b,ys,q,f1,f2⟩:=hy.ag;subst q;cases ry;obtain⟨its,_,ht⟩:=Mx.au hok f1;exact EqAt.none_tuple ht (by lia)
   | lst j=>obtain⟨b,ys,q,f1,_,f2⟩:=hy.lst_inv;subst q;cases ry;obtain⟨its,_,ht⟩:=aN hok f1;exact EqAt.none_list ht (by lia)
   | _=>simp[pl] at fq
  | bl i=>
   have:=hx.ay;subst this;cases rx;cases e with
   | bg=>have:=hy.aC;subst this;cases ry;exact EqAt.bool_none _
   | bl j=>have:=hy.ay;subst this;cases ry;exact EqAt.bool_bool i j
   | int j=>have:=hy.int_inv;subst this;obtain⟨t',rfl⟩:=ry;exact EqAt.bool_int i j t'
   | str j=>have:=hy.str_inv;subst this;obtain⟨t',rfl⟩:=ry;exact EqAt.bool_str i j t'
   | tup j=>obtain⟨b,ys,q,f1,f2⟩:=hy.ag;subst q;cases ry;obtain⟨its,_,ht⟩:=Mx.au hok f1;exact EqAt.bool_tuple i ht (by lia)
   | lst j=>obtain⟨b,ys,q,f1,_,f2⟩:=hy.lst_inv;subst q;cases ry;obtain⟨its,_,ht⟩:=aN hok f1;exact EqAt.bool_list i ht (by lia)
   | _=>simp[pl] at fq
  | int i=>
   have:=hx.int_inv;subst this;obtain⟨t,rfl⟩:=rx;cases e with
   | bg=>have:=hy.aC;subst this;cases ry;exact EqAt.int_none i t
   | bl j=>have:=hy.ay;subst this;cases ry;exact EqAt.int_bool i t j
   | int j=>have:=hy.int_inv;subst this;obtain⟨t',rfl⟩:=ry;exact EqAt.int_int i t j t'
   | str j=>have:=hy.str_inv;subst this;obtain⟨t',rfl⟩:=ry;exact EqAt.int_str i t j t'
   | tup j=>obtain⟨b,ys,q,f1,f2⟩:=hy.ag;subst q;cases ry;obtain⟨its,_,ht⟩:=Mx.au hok f1;exact EqAt.int_tuple i t ht (by lia)
   | lst j=>obtain⟨b,ys,q,f1,_,f2⟩:=hy.lst_inv;subst q;cases ry;obtain⟨its,_,ht⟩:=aN hok f1;exact EqAt.int_list i t ht (by lia)
   | _=>simp[pl] at fq
  | str i=>
   have:=hx.str_inv;subst this;obtain⟨t,rfl⟩:=rx;cases e with
   | bg=>have:=hy.aC;subst this;cases ry;exact EqAt.str_none i t
   | bl j=>have:=hy.ay;subst this;cases ry;exact EqAt.str_bool i t j
   | int j=>have:=hy.int_inv;subst this;obtain⟨t',rfl⟩:=ry;exact EqAt.str_int i t j t'
   | str j=>have:=hy.str_inv;subst this;obtain⟨t',rfl⟩:=ry;exact EqAt.str_str i t j t'
   | tup j=>obtain⟨b,ys,q,f1,f2⟩:=hy.ag;subst q;cases ry;obtain⟨its,_,ht⟩:=Mx.au hok f1;exact EqAt.str_tuple i t ht (by lia)
   | lst j=>obtain⟨b,ys,q,f1,_,f2⟩:=hy.lst_inv;subst q;cases ry;obtain⟨its,_,ht⟩:=aN hok f1;exact EqAt.str_list i t ht (by lia)
   | _=>simp[pl] at fq
  | tup ds=>unfold dp at hd;lia
  | lst ds=>unfold dp at hd;lia
  | _=>simp[pl] at jy
 | succ n ih=>
  intro d e x y u v R hd jy fq hu hx hy rx ry;cases d with
  | tup ds=>
   obtain⟨a,xs,q,e1,e2⟩:=hx.ag;subst q;cases rx;obtain⟨its,r1,ht⟩:=Mx.au hok e1;cases e with
   | bg=>have:=hy.aC;subst this;cases ry;exact EqAt.tuple_none ht (by lia)
   | bl j=>have:=hy.ay;subst this;cases ry;exact EqAt.tuple_bool j ht (by lia)
   | int j=>have:=hy.int_inv;subst this;obtain⟨t',rfl⟩:=ry;exact EqAt.tuple_int j t' ht (by lia)
   | str j=>have:=hy.str_inv;subst this;obtain⟨t',rfl⟩:=ry;exact EqAt.tuple_str j t' ht (by lia)
   | lst j=>obtain⟨b,ys,q,f1,_,f2⟩:=hy.lst_inv;subst q;cases ry;obtain⟨aK,_,bR⟩:=aN hok f1;exact EqAt.tuple_list ht bR (by lia)
   | tup es=>
    obtain⟨b,ys,q,f1,f2⟩:=hy.ag;subst q;cases ry;obtain⟨aK,r2,bR⟩:=Mx.au hok f1;by_cases gv:a=b
    ·subst gv;have:=RV.inj hx hy jy fq;cases this;rw[iV _ jy];exact EqAt.same _
    ·have l1:its.toArray.size=ds.length:=by rw[O8,<-r1.length,e2.length]
     have l2:aK.toArray.size=es.length:=by rw[O8,<-r2.length,f2.length]
     have key:=RcAt.tuples (A:=R) (e:=tL ds es) ht bR (by lia) (λj h1 h2=>?_)
     ·have q:=cw ds es;rw[<-l1,<-l2] at q;rw[q] at key;exact EqAt.of_refs gv key
     ·have iG:j < xs.length:=by rw[e2.length,<-l1];exact h1
      have lK:j < ys.length:=by rw[f2.length,<-l2];exact h2
      obtain⟨d,g1,g2⟩:=e2.get (i:=j) (x:=xs[j]) (by simp[iG]);obtain⟨e,k1,k2⟩:=f2.get (i:=j) (x:=ys[j]) (by simp[lK]);obtain⟨u,vq,ru⟩:=r1.get (i:=j) (x:=xs[j]) (by simp[iG]);obtain⟨v,Aa,rv⟩:=r2.get (i:=j) (x:=ys[j]) (by simp[lK]);have eu:its.toArray[j]=u:=by simp only[List.getElem_toArray];exact(Pa.mp vq).2
      have ev:aK.toArray[j]=v:=by simp only[List.getElem_toArray];exact(Pa.mp Aa).2
      rw[eu,ev,show tL ds es j=bD d e by unfold tL;rw[g1,k1]];have:=mJ g1;unfold dp at hd;exact ih d e xs[j] ys[j] u v R.in1 (by lia) (gE (by simpa [pl] using jy) g1) (gE (by simpa [pl] using fq) k1) (by show R.units + 1 + n < cLine;lia) g2 k2 ru rv
   | _=>simp[pl] at fq
  | lst ds=>
   obtain⟨a,xs,q,e1,_,e2⟩:=hx.lst_inv;subst q;cases rx;obtain⟨its,r1,ht⟩:=aN hok e1;cases e with
   | bg=>have:=hy.aC;subst this;cases ry;exact EqAt.list_none ht (by lia)
   | bl j=>have:=hy.ay;subst this;cases ry;exact EqAt.list_bool j ht (by lia)
   | int j=>have:=hy.int_inv;subst this;obtain⟨t',rfl⟩:=ry;exact EqAt.list_int j t' ht (by lia)
   | str j=>have:=hy.str_inv;subst this;obtain⟨t',rfl⟩:=ry;exact EqAt.list_str j t' ht (by lia)
   | tup j=>obtain⟨b,ys,q,f1,f2⟩:=hy.ag;subst q;cases ry;obtain⟨aK,_,bR⟩:=Mx.au hok f1;exact EqAt.list_tuple ht bR (by lia)
   | lst es=>
    obtain⟨b,ys,q,f1,_,f2⟩:=hy.lst_inv;subst q;cases ry;obtain⟨aK,r2,bR⟩:=aN hok f1;by_cases gv:a=b
    ·subst gv;have:=RV.inj hx hy jy fq;cases this;rw[iV _ jy];exact EqAt.same _
    ·have l1:its.toArray.size=ds.length:=by rw[O8,<-r1.length,e2.length]
     have l2:aK.toArray.size=es.length:=by rw[O8,<-r2.length,f2.length]
     have q:=cw ds es;by_cases hl:ds.length=es.length
     ·have key:=RcAt.lists (A:=R) (e:=tL ds es) ht bR (by lia) (by lia) (λj h1 h2=>?_)
      ·rw[hl,Nat.min_self,beq_self_eq_true,Bool.and_true] at q;rw[l1,hl,q] at key;exact EqAt.of_refs gv key
      ·have iG:j < xs.length:=by rw[e2.length,<-l1];exact h1
       have lK:j < ys.length:=by rw[f2.length,<-l2];exact h2
       obtain⟨d,g1,g2⟩:=e2.get (i:=j) (x:=xs[j]) (by simp[iG]);obtain⟨e,k1,k2⟩:=f2.get (i:=j) (x:=ys[j]) (by simp[lK]);obtain⟨u,vq,ru⟩:=r1.get (i:=j) (x:=xs[j]) (by simp[iG]);obtain⟨v,Aa,rv⟩:=r2.get (i:=j) (x:=ys[j]) (by simp[lK]);have eu:its.toArray[j]=u:=by simp only[List.getElem_toArray];exact(Pa.mp vq).2
       have ev:aK.toArray[j]=v:=by simp only[List.getElem_toArray];exact(Pa.mp Aa).2
       rw[eu,ev,show tL ds es j=bD d e by unfold tL;rw[g1,k1]];have:=mJ g1;unfold dp at hd;exact ih d e xs[j] ys[j] u v R.in1 (by lia) (gE (by simpa [pl] using jy) g1) (gE (by simpa [pl] using fq) k1) (by show R.units + 1 + n < cLine;lia) g2 k2 ru rv
     ·have key:=RcAt.lists_lengths (A:=R) ht bR (by rw[l1,l2];simpa using hl) (by lia);have hb:(ds.length==es.length)=false:=by simpa using hl
      rw[hb,Bool.and_false] at q;show EqAt R s _ _ (bI ds es);rw[<-q];exact EqAt.of_refs gv key
   | _=>simp[pl] at fq
  | _=>exact ih _ e x y u v R (by unfold dp;lia) jy fq (by lia) hx hy rx ry
end
inductive R (α:Type) where
 | ok (a:α) | ex (c:Nat) | bad
noncomputable def R.bind {α β:Type}:R α->(α->R β)->R β
 | .ok a,f=>f a
 | .ex c,_=> .ex c
 | .bad,_=> .bad
@[simp] theorem R.ai {α β:Type} (a:α) (f:α->R β):(R.ok a).bind f=f a:=rfl
noncomputable def R.nx {α:Type}:R α->R α
 | .ok a=> .ok a
 | _=> .bad
noncomputable abbrev lim:Nat:=1000000
noncomputable abbrev ak:=List (Option Dt)
noncomputable abbrev Sx:=Option (List Int)
noncomputable def af (b:Bool) {α:Type} (r:R α):R α:=if b then r else .bad
@[simp] theorem guard_true {α:Type} (r:R α):af true r=r:=rfl
noncomputable def pe (o:Operator) (a b:Dt):R Dt:=match o with
 | .Add=>match a,b with
  | .int i,.int j=> .ok (.int (i + j))
  | .str x,.str y=>af (decide (x.length + y.length<=lim)) (.ok (.str (x++y)))
  | .lst x,.lst y=>af (decide (x.length + y.length<=lim)) (.ok (.lst (x++y)))
  | .tup x,.tup y=>af (decide (x.length + y.length<=lim)) (.ok (.tup (x++y)))
  | _,_=> .bad
 | .Sub=>match a,b with
  | .int i,.int j=> .ok (.int (i - j))
  | _,_=> .bad
 | .Mult=>match a,b with
  | .int i,.int j=>af (decide (i.natAbs < 2 ^ 64)||decide (j.natAbs < 2 ^ 64)) (.ok (.int (i * j)))
  | _,_=> .bad
 | .FloorDiv=>match a,b with
  | .int i,.int j=>af (decide (0 < j)&&decide (j.natAbs.log2 < 9000)) (.ok (.int (i / j)))
  | _,_=> .bad
 | .Mod=>match a,b with
  | .int i,.int j=>af (decide (0 < j)) (.ok (.int (i % j)))
  | _,_=> .bad
 | .Pow=>match a,b with
  | .int i,.int j=>af (decide (0<=j)&&decide (j<=1000)&&decide (i.natAbs < 2 ^ 64)) (.ok (.int (i ^ j.toNat)))
  | _,_=> .bad
 | _=> .bad
noncomputable def fV (d e:Dt):Bool:=pl d&&pl e&&decide (dp d<=100)
noncomputable def itemsOf:Dt->Option (List Dt)
 | .lst ds=>some ds
 | .tup ds=>some ds
 | .bE ns=>some (ns.map Dt.int)
 | _=>none
noncomputable def bJ:Dt->Option (List Dt)
 | .lst ds=>some ds
 | .tup ds=>some ds
 | _=>none
noncomputable def cO:CmpOp->Dt->Dt->R Bool
 | .Eq,a,b=>af (fV a b) (.ok (bD a b))
 | .NotEq,a,b=>af (fV a b) (.ok (!bD a b))
 | .Lt,.int i,.int j=> .ok (decide (i < j))
 | .LtE,.int i,.int j=> .ok (decide (i<=j))
 | .Gt,.int i,.int j=> .ok (decide (j < i))
 | .GtE,.int i,.int j=> .ok (decide (j<=i))
 | _,_,_=> .bad
noncomputable def du:Dt->R Bool
 | .bg=> .ok false
 | .bl b=> .ok b
 | .int i=> .ok (i != 0)
 | .str y=>af (decide (y.length<=lim)) (.ok ((y.length:Int) != 0))
 | .lst ds=> .ok !ds.isEmpty
 | .tup ds=> .ok !ds.isEmpty
 | .bE ds=> .ok !ds.isEmpty
 | _=> .bad
noncomputable def uh (ds:List Dt) (i:Int):R Dt:=match jM ds i with
 | some d=> .ok d
 | none=> .bad
noncomputable def cP:Dt->Dt->R Dt
 | .lst ds,.int i=>uh ds i
 | .tup ds,.int i=>uh ds i
 | .bE ns,.int i=>uh (ns.map Dt.int) i
 | .str z,.int i=>af (decide (z.length<=lim)) (match jM z.cps.toList i with | some c=> .ok (.str ⟨#[c]⟩) | none=> .bad)
 | _,_=> .bad
noncomputable def cutD {α:Type} (xs:List α) (lo hi:Option Int):List α:=(xs.drop (HT.bA xs.length 0 lo)).take (HT.bA xs.length xs.length hi - HT.bA xs.length 0 lo)
noncomputable def iA:Dt->Option Int->Option Int->R Dt
 | .lst ds,lo,hi=> .ok (.lst (cutD ds lo hi))
 | .bE ds,lo,hi=> .ok (.lst (cutD (ds.map Dt.int) lo hi))
 | .tup ds,lo,hi=> .ok (.tup (cutD ds lo hi))
 | .str z,lo,hi=>af (decide (z.length<=lim)) (.ok (.str (PySem.Txt.slice z lo hi)))
 | _,_,_=> .bad
inductive BI where
 | len | sum | maxL | sorted | tuple | list | isi (T:String) | sset | maxD (i:Int)
 deriving DecidableEq
noncomputable def intsOf:List Dt->Option (List Int)
 | []=>some []
 | .int i::r=>(intsOf r).map (i:: ·)
 | _=>none
noncomputable def Ff:List Dt->Option (List Bool)
 | []=>some []
 | .bl i::r=>(Ff r).map (i:: ·)
 | _=>none
noncomputable def n9 (a b:Mx.D):Bool:= !Mx.D.lt b a
noncomputable def aJ (ds:List Mx.D):List Mx.D:=ds.mergeSort n9
mutual
noncomputable def kW:Mx.D->Mx.D->Bool
 | .int _,.int _=>true
 | .str _,.str _=>true
 | .tup a,.tup b=>ib a b
 | _,_=>false
noncomputable def ib:List Mx.D->List Mx.D->Bool
 | x::xs,y::ys=>kW x y&&ib xs ys
 | _,_=>true
end
noncomputable def Gp (k:Mx.SK):Mx.D->Bool
 | .tup (.tup _::_)=>k== .tt
 | .tup (.str _::_)=>k== .ts
 | .tup (.int _::_)=>k== .ti
 | .str _=>k== .s
 | .int _=>k== .i
 | _=>false
noncomputable def gS (ds:List Mx.D):Bool:=decide (ds.length < 1000000)&&(decide (ds.length < 2)||(decide (Mx.D.cn ds<=100)&&([Mx.SK.tt,.ts,.ti,.s,.i].any λk=>ds.all (Gp k))&&ds.all λd=>ds.all λe=>kW d e))
noncomputable def dd:List Str->List Str
 | []=>[]
 | x::r=>if x∈dd r then dd r else x::dd r
noncomputable def qT:List Int->Int
 | []=>0
 | [a]=>a
 | a::r=>min a (qT r)
noncomputable def eL:List Int->Int
 | []=>0
 | [a]=>a
 | a::r=>max a (eL r)
noncomputable def strsOf:List Dt->Option (List Str)
 | []=>some []
 | .str i::r=>(strsOf r).map (i:: ·)
 | _=>none
noncomputable def i5 (xs ys:List Dt):List Dt:=List.zipWith (λx y=>Dt.tup [x,y]) xs ys
noncomputable def cY:Nat->List Dt->List Dt
 | _,[]=>[]
 | i,x::xs=>Dt.tup [.int i,x]::cY (i + 1) xs
noncomputable def uK (T:String):Dt->R Bool
 | .str _=> .ok (T=="str")
 | .int _=> .ok (T=="int")
 | .bl _=> .ok (T=="bool"||T=="int")
 | .lst _=> .ok (T=="list")
 | .tup _=> .ok (T=="tuple")
 | .bg=> .ok false
 | _=> .bad
noncomputable def dG (b:BI) (as:List Dt):R Dt:=match b with
 | .len=>match as with
  | [.str x]=>af (decide (x.length<=lim)) (.ok (.int x.length))
  | [.lst ds]=> .ok (.int ds.length)
  | [.tup ds]=> .ok (.int ds.length)
  | [.bE ds]=> .ok (.int ds.length)
  | _=> .bad
 | .sum=>match as with
  | [.lst ds]=>match intsOf ds with | some ns=> .ok (.int ns.sum) | none=> .bad
  | _=> .bad
 | .sorted=>match as with
  | [d]=>match itemsOf d with
   | some ds=>match kM ds with
    | some ms=>af (gS ms) (.ok (.lst (aa (aJ ms))))
    | none=> .bad
   | none=> .bad
  | _=> .bad
 | .tuple=>match as with
  | [.lst ds]=> .ok (.tup ds)
  | [.tup ds]=> .ok (.tup ds)
  | _=> .bad
 | .list=>match as with
  | [.lst ds]=> .ok (.lst ds)
  | [.tup ds]=> .ok (.lst ds)
  | [.bE ns]=> .ok (.lst (ns.map Dt.int))
  | _=> .bad
 | .isi T=>match as with
  | [d]=>(uK T d).bind λb=> .ok (.bl b)
  | _=> .bad
 | .maxL=>match as with
  | [.lst ds]=>match intsOf ds with | some ns=>af (!ns.isEmpty) (.ok (.int (eL ns))) | none=> .bad
  | _=> .bad
 | .sset=>match as with
  | [d]=>match bJ d with
   | some ds=>match strsOf ds with
    | some ys=>af (decide (ys.length < 4000)) (.ok (.lst (aa (aJ ((dd ys).map Mx.D.str)))))
    | none=> .bad
   | none=> .bad
  | _=> .bad
 | .maxD i=>match as with
  | [.lst ds]=>match intsOf ds with | some ns=> .ok (.int (if ns.isEmpty then i else eL ns)) | none=> .bad
  | _=> .bad
noncomputable def isStr:Dt->Bool
 | .str _=>true
 | _=>false
inductive MT where
 | join
 deriving DecidableEq
noncomputable def Oj:MT->Dt->List Dt->R Dt
 | .join,.str z,[.lst ds]=>match strsOf ds with
  | some ys=>af (decide ((ys.map (·.length)).sum + ys.length * z.length<=lim)) (.ok (.str (PySem.Txt.join z ys)))
  | none=> .bad
 | _,_,_=> .bad
inductive Tg where
 | nm (i:Nat) | tp (is:List Nat)
 deriving DecidableEq
mutual
inductive C where
 | con (d:Dt) | var (i:Nat) | mvr (i:Nat)
 | bin (o:Operator) (a b:C) | cmp (o:CmpOp) (a b:C) | ch (o p:CmpOp) (a b c:C)
 | neg (a:C) | nt (a:C) | and (a b:C) | or (a b:C) | ite (t a b:C)
 | idx (a b:C) | sliL (a lo:C) | sliH (a hi:C) | sliB (a lo hi:C)
 | tup (es:Cs) | lst (es:Cs)
 | call (f:Nat) (es:Cs) (ds:List Dt) | callD (f:Nat) (es:Cs) | popD | lenD
 | bi (b:BI) (es:Cs) | mt (m:MT) (o:C) (es:Cs)
 | comp (cap:List (Option Nat)) (it:ll) (tg:Tg) (ts:Cs) (e:C)
 | i8 (cap:List (Option Nat)) (it:ll) (tg:Tg) (ts:Cs) (it2:ll) (tg2:Tg) (EX:Cs) (e:C)
inductive Cs where
 | nil | cons (c:C) (cs:Cs)
inductive ll where
 | seq (c:C) | rng1 (c:C) | rng2 (a b:C) | zip (a b:C) | enum (c:C)
end
noncomputable def Cs.all (p:C->Bool):Cs->Bool
 | .nil=>true
 | .cons c cs=>p c&&cs.all p
mutual
noncomputable def lk:C->Nat
 | .mvr _=>1
 | .and _ _=>0
 | .or _ _=>0
 | .ite _ a b=>max (lk a) (lk b)
 | .idx a _=>if lk a<=1 then 0 else 2
 | .sliL a _=>if lk a<=1 then 0 else 2
 | .sliH a _=>if lk a<=1 then 0 else 2
 | .sliB a _ _=>if lk a<=1 then 0 else 2
 | .bin _ a b=>if lk a<=1/\lk b<=1 then 0 else 2
 | .tup es=>if lP es=0 then 0 else 2
 | .lst es=>if lP es=0 then 0 else 2
 | .call _ es _=>if lP es=0 then 0 else 2
 | .callD _ es=>if lP es=0 then 0 else 2
 | .bi _ es=>if lP es<=1 then 0 else 2
 | _=>0
noncomputable def lP:Cs->Nat
 | .nil=>0
 | .cons c cs=>max (lk c) (lP cs)
end
noncomputable def p5:ll->Nat
 | .seq c=>lk c
 | .zip a b=>max (lk a) (lk b)
 | .enum c=>lk c
 | _=>0
noncomputable def fresh (fr:Nat->Bool):C->Bool
 | .lst _=>true
 | .comp ..=>true
 | .i8 ..=>true
 | .bi .sorted _=>true
 | .bi .list _=>true
 | .bi .sset _=>true
 | .bin ..=>true
 | .call f _ _=>fr f
 | .callD f _=>fr f
 | _=>false
noncomputable def bx (c:C) (d:Dt):Bool:=decide (lk c=0)||gh d
noncomputable def jd (c:C) (d:Dt):Bool:=decide (lk c=0)||match d with | .lst ds=>fZ ds | d=>gh d
noncomputable def fk (ρ:ak) (i:Nat):R Dt:=match ρ[i]? with
 | some (some d)=> .ok d
 | _=> .bad
noncomputable def fT (cap:List (Option Nat)) (ρ:ak):ak:=cap.map λo=>o.bind λi=>(ρ[i]?).join
noncomputable def df:List Nat->List Dt->ak->R ak
 | [],[],ρ=> .ok ρ
 | i::is,d::ds,ρ=>df is ds (ρ.set i (some d))
 | _,_,_=> .bad
noncomputable def bU:Tg->Dt->ak->R ak
 | .nm i,d,ρ=> .ok (ρ.set i (some d))
 | .tp is,.tup ds,ρ=>df is ds ρ
 | _,_,_=> .bad
noncomputable def bb (f:Dt->Sx->R (List Dt×Sx)):List Dt->Sx->R (List Dt×Sx)
 | [],S=> .ok ([],S)
 | x::xs,S=>(f x S).bind λp=>(bb f xs p.2).bind λq=> .ok (p.1++q.1,q.2)
noncomputable def bp (tg:Tg) (LD:ak->Sx->R (Bool×Sx)) (body:ak->Sx->R (List Dt×Sx)) (ρ:ak) (d:Dt) (S:Sx):R (List Dt×Sx):=
 (bU tg d ρ).bind λρ1=>(LD ρ1 S).bind λb=>if b.1 then body ρ1 b.2 else .ok ([],b.2)
noncomputable def bO (lo:Int) (n:Nat):List Dt:=(List.range n).map λ(i:Nat)=>Dt.int (lo + (i:Int))
noncomputable abbrev FT:=Nat->List Dt->Sx->R (Dt×Sx)
mutual
noncomputable def ev (F:FT):C->ak->Sx->R (Dt×Sx)
 | .con d,_,S=> .ok (d,S)
 | .var i,ρ,S=>(fk ρ i).bind λd=> .ok (d,S)
 | .mvr i,ρ,S=>(fk ρ i).bind λd=> .ok (d,S)
 | .bin o a b,ρ,S=>(ev F a ρ S).bind λx=>(ev F b ρ x.2).bind λy=>(pe o x.1 y.1).bind λd=> .ok (d,y.2)
 | .cmp o a b,ρ,S=>(ev F a ρ S).bind λx=>(ev F b ρ x.2).bind λy=>(cO o x.1 y.1).bind λd=> .ok (.bl d,y.2)
 | .ch o p a b c,ρ,S=>(ev F a ρ S).bind λx=>(ev F b ρ x.2).bind λy=>(cO o x.1 y.1).bind λd=>
   if d then(ev F c ρ y.2).bind λz=>(cO p y.1 z.1).bind λe=> .ok (.bl e,z.2) else .ok (.bl false,y.2)
 | .neg a,ρ,S=>(ev F a ρ S).bind λx=>match x.1 with | .int i=> .ok (.int (-i),x.2) | _=> .bad
 | .nt a,ρ,S=>(ev F a ρ S).bind λx=>match x.1 with | .bl b=> .ok (.bl !b,x.2) | _=> .bad
 | .and a b,ρ,S=>(ev F a ρ S).bind λx=>match x.1 with | .bl true=>(ev F b ρ x.2).bind λy=>(match y.1 with | .bl c=> .ok (.bl c,y.2) | _=> .bad) | .bl false=> .ok (.bl false,x.2) | _=> .bad
 | .or a b,ρ,S=>(ev F a ρ S).bind λx=>match x.1 with | .bl false=>(ev F b ρ x.2).bind λy=>(match y.1 with | .bl c=> .ok (.bl c,y.2) | _=> .bad) | .bl true=> .ok (.bl true,x.2) | _=> .bad
 | .ite t a b,ρ,S=>(cN F t ρ S).bind λx=>if x.1 then ev F a ρ x.2 else ev F b ρ x.2
 | .idx a b,ρ,S=>(ev F a ρ S).bind λx=>(ev F b ρ x.2).bind λy=>(cP x.1 y.1).bind λd=> .ok (d,y.2)
 | .sliL a l,ρ,S=>(ev F a ρ S).bind λx=>(ev F l ρ x.2).bind λy=>match y.1 with | .int i=>(iA x.1 (some i) none).bind λd=> .ok (d,y.2) | _=> .bad
 | .sliH a h,ρ,S=>(ev F a ρ S).bind λx=>(ev F h ρ x.2).bind λy=>match y.1 with | .int i=>(iA x.1 none (some i)).bind λd=> .ok (d,y.2) | _=> .bad
 | .sliB a l h,ρ,S=>(ev F a ρ S).bind λx=>(ev F l ρ x.2).bind λy=>match y.1 with | .int i=>(ev F h ρ y.2).bind λz=>(match z.1 with | .int j=>(iA x.1 (some i) (some j)).bind λd=> .ok (d,z.2) | _=> .bad) | _=> .bad
 | .tup es,ρ,S=>(eZ F es ρ S).bind λx=>af (decide (x.1.length<=lim)) (.ok (.tup x.1,x.2))
 | .lst es,ρ,S=>(eZ F es ρ S).bind λx=>af (decide (x.1.length<=lim)) (.ok (.lst x.1,x.2))
 | .call f es ds,ρ,S=>(eZ F es ρ S).bind λx=>(F f (x.1++ds) none).bind λy=> .ok (y.1,x.2)
 | .callD f es,ρ,S=>af S.isSome ((eZ F es ρ S).bind λx=>match x.2 with | some s=>F f x.1 (some s) | none=> .bad)
 | .popD,_,S=>match S with | some ns=>af (!ns.isEmpty) (.ok (.int (ns.getLastD 0),some ns.dropLast)) | none=> .bad
 | .lenD,_,S=>match S with | some ns=> .ok (.int ns.length,S) | none=> .bad
 | .bi b es,ρ,S=>(eZ F es ρ S).bind λx=>(dG b x.1).bind λd=> .ok (d,x.2)
 | .mt m o es,ρ,S=>(ev F o ρ S).bind λy=>af (isStr y.1) ((eZ F es ρ y.2).bind λx=>(Oj m y.1 x.1).bind λd=> .ok (d,x.2))
 | .comp cap it tg ts e,ρ,S=>(dM F it ρ S).bind λx=>af (decide (x.1.length<=lim)&&(decide (p5 it<=1)||jV F it ρ S))
   ((bb (bp tg (cq F ts) (λρ1 S1=>(ev F e ρ1 S1).bind λy=>af (bx e y.1) (.ok ([y.1],y.2))) (fT cap ρ)) x.1 x.2).bind λq=> .ok (.lst q.1,q.2))
 | .i8 cap it tg ts it2 tg2 EX e,ρ,S=>(dM F it ρ S).bind λx=>af (decide (x.1.length<=lim)&&(decide (p5 it<=1)||jV F it ρ S))
   ((bb (bp tg (cq F ts) (λρ1 S1=>(dM F it2 ρ1 S1).bind λx2=>af (decide (x.1.length * x2.1.length<=lim)&&decide (p5 it2=0))
    (bb (bp tg2 (cq F EX) (λρ2 S2=>(ev F e ρ2 S2).bind λy=>af (bx e y.1) (.ok ([y.1],y.2))) ρ1) x2.1 x2.2)) (fT cap ρ)) x.1 x.2).bind λq=> .ok (.lst q.1,q.2))
noncomputable def cN (F:FT):C->ak->Sx->R (Bool×Sx)
 | .nt a,ρ,S=>(cN F a ρ S).bind λx=> .ok (!x.1,x.2)
 | .and a b,ρ,S=>(cN F a ρ S).bind λx=>if x.1 then cN F b ρ x.2 else .ok (false,x.2)
 | .or a b,ρ,S=>(cN F a ρ S).bind λx=>if x.1 then .ok (true,x.2) else cN F b ρ x.2
 | .cmp o a b,ρ,S=>(ev F a ρ S).bind λx=>(ev F b ρ x.2).bind λy=>(cO o x.1 y.1).bind λd=> .ok (d,y.2)
 | .ch o p a b c,ρ,S=>(ev F a ρ S).bind λx=>(ev F b ρ x.2).bind λy=>(cO o x.1 y.1).bind λd=>
   if d then(ev F c ρ y.2).bind λz=>(cO p y.1 z.1).bind λe=> .ok (e,z.2) else .ok (false,y.2)
 | .var i,ρ,S=>(fk ρ i).bind λd=>(du d).bind λb=> .ok (b,S)
 | .mvr i,ρ,S=>(fk ρ i).bind λd=>(du d).bind λb=> .ok (b,S)
 | .call f es ds,ρ,S=>(eZ F es ρ S).bind λx=>(F f (x.1++ds) none).bind λy=>(du y.1).bind λb=> .ok (b,x.2)
 | .callD f es,ρ,S=>af S.isSome ((eZ F es ρ S).bind λx=>match x.2 with | some s=>(F f x.1 (some s)).bind λy=>(du y.1).bind λb=> .ok (b,y.2) | none=> .bad)
 | .bi b es,ρ,S=>(eZ F es ρ S).bind λx=>(dG b x.1).bind λd=>(du d).bind λb=> .ok (b,x.2)
 | .idx a b,ρ,S=>(ev F a ρ S).bind λx=>(ev F b ρ x.2).bind λy=>(cP x.1 y.1).bind λd=>(du d).bind λb=> .ok (b,y.2)
 | _,_,_=> .bad
noncomputable def eZ (F:FT):Cs->ak->Sx->R (List Dt×Sx)
 | .nil,_,S=> .ok ([],S)
 | .cons c cs,ρ,S=>(ev F c ρ S).bind λx=>(eZ F cs ρ x.2).bind λy=> .ok (x.1::y.1,y.2)
noncomputable def cq (F:FT):Cs->ak->Sx->R (Bool×Sx)
 | .nil,_,S=> .ok (true,S)
 | .cons c .nil,ρ,S=>cN F c ρ S
 | _,_,_=> .bad
noncomputable def dM (F:FT):ll->ak->Sx->R (List Dt×Sx)
 | .seq c,ρ,S=>(ev F c ρ S).bind λx=>match itemsOf x.1 with | some ds=> .ok (ds,x.2) | none=> .bad
 | .rng1 c,ρ,S=>(ev F c ρ S).bind λx=>match x.1 with | .int j=>af (decide (j<=lim)&&decide (-lim<=j)) (.ok (bO 0 j.toNat,x.2)) | _=> .bad
 | .rng2 a b,ρ,S=>(ev F a ρ S).bind λx=>(ev F b ρ x.2).bind λy=>match x.1,y.1 with
   | .int i,.int j=>af (decide (i.natAbs<=lim)&&decide (j.natAbs<=lim)) (.ok (bO i (j - i).toNat,y.2)) | _,_=> .bad
 | .zip a b,ρ,S=>(ev F a ρ S).bind λx=>(ev F b ρ x.2).bind λy=>match bJ x.1,bJ y.1 with
   | some xs,some ys=> .ok (i5 xs ys,y.2) | _,_=> .bad
 | .enum c,ρ,S=>(ev F c ρ S).bind λx=>match bJ x.1 with | some ds=> .ok (cY 0 ds,x.2) | none=> .bad
noncomputable def jV (F:FT):ll->ak->Sx->Bool
 | .seq c,ρ,S=>match ev F c ρ S with | .ok x=>gh x.1 | _=>false
 | _,_,_=>false
end
inductive Fl where
 | next | brk | cnt | ret (d:Dt)
mutual
inductive T where
 | asg (i:Nat) (c:C) | asgM (i:Nat) (c:C) | asgD (i:Nat) (c:C) | mov (i j:Nat) | asgT (is:List Nat) (c:C)
 | aug (i:Nat) (o:Operator) (c:C)
 | yl (i:Nat) (k v:C) | app (i:Nat) (c:C) | xtd (i:Nat) (c:C) | clr (i:Nat)
 | JC (c:C) | ret (c:C) | retN | ifs (t:C) (a b:Ts) | fr (tg:Tg) (it:ll) (b:Ts) | wh (t:C) (b:Ts)
 | rs (k:Nat) (vs:List Nat) | tr (b:Ts) (zi:List (Option Bool)) | brk | cnt | pas
inductive Ts where
 | nil | cons (t:T) (ts:Ts)
end
noncomputable abbrev RS:=R (Fl×ak×Sx)
noncomputable def KM (ρ:ak) (i:Nat):Bool:=match ρ[i]? with
 | some (some (.int n))=>decide (0<=n)&&decide (n < 10 ^ 19)
 | _=>false
noncomputable def forL (tg:Tg) (body:ak->Sx->RS):List Dt->ak->Sx->RS
 | [],ρ,S=> .ok (.next,ρ,S)
 | x::xs,ρ,S=>(bU tg x ρ).bind λρ1=>(body ρ1 S).bind λp=>match p.1 with
  | .next=>forL tg body xs p.2.1 p.2.2
  | .cnt=>forL tg body xs p.2.1 p.2.2
  | .brk=> .ok (.next,p.2)
  | .ret d=> .ok (.ret d,p.2)
noncomputable def LL (test:ak->Sx->R (Bool×Sx)) (body:ak->Sx->RS):Nat->ak->Sx->RS
 | 0,_,_=> .bad
 | n + 1,ρ,S=>(test ρ S).bind λb=>if b.1 then(body ρ b.2).bind λp=>match p.1 with
   | .next=>LL test body n p.2.1 p.2.2
   | .cnt=>LL test body n p.2.1 p.2.2
   | .brk=> .ok (.next,p.2)
   | .ret d=> .ok (.ret d,p.2)
  else .ok (.next,ρ,b.2)
noncomputable def HF:Nat:=100000
noncomputable def isLE (ρ:ak) (i:Nat):Bool:=match ρ[i]? with
 | some (some (.lst _))=>true
 | _=>false
noncomputable def oS (ρ:ak) (i:Nat):R (List Dt):=match ρ[i]? with
 | some (some (.lst ds))=> .ok ds
 | _=> .bad
mutual
noncomputable def ex (F:FT):T->ak->Sx->RS
 | .asg i c,ρ,S=>(ev F c ρ S).bind λx=>af (bx c x.1) (.ok (.next,ρ.set i (some x.1),x.2))
 | .asgM i c,ρ,S=>(ev F c ρ S).bind λx=>af (jd c x.1) (.ok (.next,ρ.set i (some x.1),x.2))
 | .asgD i c,ρ,S=>(ev F c ρ S).bind λx=>match x.1 with | .lst ds=>(match intsOf ds with | some ns=>af (decide (lk c=0)&&decide (i < ρ.length)) (.ok (.next,ρ.set i none,some ns)) | none=> .bad) | _=> .bad
 | .mov i j,ρ,S=>(fk ρ j).bind λd=> .ok (.next,(ρ.set j none).set i (some d),S)
 | .asgT is c,ρ,S=>(ev F c ρ S).bind λx=>af (bx c x.1) ((bU (.tp is) x.1 ρ).bind λρ1=> .ok (.next,ρ1,x.2))
 | .aug i o c,ρ,S=>(fk ρ i).bind λd=>(ev F c ρ S).bind λx=>match d,x.1 with
   | .int _,.int _=>(pe o d x.1).bind λz=> .ok (.next,ρ.set i (some z),x.2)
   | .str _,.str _=>(pe o d x.1).bind λz=> .ok (.next,ρ.set i (some z),x.2)
   | _,_=> .bad
 | .yl i k v,ρ,S=>af (isLE ρ i) ((ev F v ρ S).bind λx=>(ev F k ρ x.2).bind λy=>af (bx v x.1) ((oS ρ i).bind λds=>match y.1 with
   | .int n=>(match mY ds.length n with | some j=> .ok (.next,ρ.set i (some (.lst (ds.set j x.1))),y.2) | none=> .bad) | _=> .bad))
 | .app i c,ρ,S=>af (isLE ρ i) ((ev F c ρ S).bind λx=>af (bx c x.1) ((oS ρ i).bind λds=>af (decide (ds.length<=lim)) (.ok (.next,ρ.set i (some (.lst (ds++[x.1]))),x.2))))
 | .xtd i c,ρ,S=>af (isLE ρ i) ((ev F c ρ S).bind λx=>af (decide (lk c<=1)) ((oS ρ i).bind λds=>match x.1 with
   | .lst es=>af (decide (ds.length + es.length<=lim)) (.ok (.next,ρ.set i (some (.lst (ds++es))),x.2)) | _=> .bad))
 | .clr i,ρ,S=>(oS ρ i).bind λ_=> .ok (.next,ρ.set i (some (.lst [])),S)
 | .JC c,ρ,S=>(ev F c ρ S).bind λx=> .ok (.next,ρ,x.2)
 | .ret c,ρ,S=>(ev F c ρ S).bind λx=> .ok (.ret x.1,ρ,x.2)
 | .retN,ρ,S=> .ok (.ret .bg,ρ,S)
 | .ifs t a b,ρ,S=>(cN F t ρ S).bind λx=>if x.1 then aR F a ρ x.2 else aR F b ρ x.2
 | .fr tg it b,ρ,S=>(dM F it ρ S).bind λx=>af (decide (p5 it=0)||jV F it ρ S) (forL tg (aR F b) x.1 ρ x.2)
 | .wh t b,ρ,S=>LL (cN F t) (aR F b) HF ρ S
 | .rs k vs,ρ,S=>af (vs.all (KM ρ)) (.ex k)
 | .tr b zi,ρ,S=>af S.isNone (match aR F b ρ S with | .ex k=>(match zi[k]? with | some (some v)=> .ok (.ret (.bl v),ρ,S) | _=> .bad) | r=>r)
 | .brk,ρ,S=> .ok (.brk,ρ,S)
 | .cnt,ρ,S=> .ok (.cnt,ρ,S)
 | .pas,ρ,S=> .ok (.next,ρ,S)
noncomputable def aR (F:FT):Ts->ak->Sx->RS
 | .nil,ρ,S=> .ok (.next,ρ,S)
 | .cons t ts,ρ,S=>(ex F t ρ S).bind λp=>match p.1 with
  | .next=>aR F ts p.2.1 p.2.2
  | f=> .ok (f,p.2)
end
structure Fn where
 ps:Nat
 n:Nat
 ba:Bool
 body:Ts
noncomputable def gi (F:FT) (f:Fn) (args:List Dt) (S:Sx):R (Dt×Sx):=
 if args.length + (if f.ba then 1 else 0)=f.ps then
  (aR F f.body ((if f.ba then[none] else[])++args.map some++List.replicate (f.n - f.ps) none) S).bind λp=>match p.1 with
   | .next=> .ok (.bg,p.2.2)
   | .ret d=> .ok (d,p.2.2)
   | _=> .bad
 else .bad
noncomputable def aO (fs:List Fn):Nat->FT
 | 0,_,_,_=> .bad
 | n + 1,f,args,S=>match fs[f]? with
  | some g=>gi (aO fs n) g args S
  | none=> .bad
structure G where
 fns:List (Str×Nat×List Dt×Bool)
 cons:List (Str×Dt)
 bls:List Str
 fr:Nat->Bool
 xs:List (Str×List (Str×Bool))
structure Gm where
 names:List (Str×NameKind)
 N:List Str
 M:List Bool
 δ:Option Nat
noncomputable def yK:Option NameKind->Bool
 | some .local=>true
 | some .cell=>true
 | some .free=>true
 | _=>false
noncomputable def xE:Option NameKind->Bool
 | some .local=>true
 | some .cell=>true
 | _=>false
noncomputable def uz:Option NameKind->Bool
 | some .globalImplicit=>true
 | _=>false
noncomputable def BD (x:Str):List Str->Option Nat
 | []=>none
 | y::r=>if x==y then some 0 else(BD x r).map (· + 1)
theorem mZ {x:Str}:∀{l:List Str} {i:Nat},BD x l=some i->l[i]?=some x
 | [],i,h=>by simp[BD] at h
 | y::r,i,h=>by
  unfold BD at h;by_cases e:(x==y)=true
  ·rw[if_pos e] at h;cases h;have:x=y:=by simpa using e
   simp[this]
  ·rw[if_neg e] at h;obtain⟨j,h1,rfl⟩:=Pn.mp h;simp[mZ h1]
noncomputable def dD (x:Str):Bool:= !(x==("__debug__":Str))&& !(x==("__classdict__":Str))&& !(x==("__name__":Str))
noncomputable def slot (Γ:Gm) (x:Str):Option Nat:=if yK (Γ.names.lookup x)&&dD x then BD x Γ.N else none
noncomputable def fB (Γ:Gm) (x:Str):Option Nat:=if xE (Γ.names.lookup x)&&dD x then BD x Γ.N else none
noncomputable def eJ (Γ:Gm) (i:Nat):Bool:=Γ.M[i]?==some true
noncomputable def plainS (Γ:Gm) (i:Nat):Bool:= !eJ Γ i&& !(Γ.δ==some i)
noncomputable def qz (x:Str):List (Str×Nat×List Dt×Bool)->Option (Nat×Nat×List Dt×Bool)
 | []=>none
 | y::r=>if x==y.1 then some (0,y.2) else(qz x r).map λp=>(p.1 + 1,p.2)
noncomputable def vN:List (Str×Nat×BI):=[("len",1,.len),("sum",1,.sum),("max",1,.maxL),("sorted",1,.sorted),("tuple",1,.tuple),("list",1,.list)]
noncomputable def qh (x:Str) (n:Nat):Option BI:=(vN.find? λt=>t.1==x&&t.2.1==n).map (·.2.2)
noncomputable def rL (x:Str):Option String:=
 if x==("str":Str) then some "str" else if x==("int":Str) then some "int" else if x==("bool":Str) then some "bool"
 else if x==("list":Str) then some "list" else if x==("tuple":Str) then some "tuple" else none
noncomputable def pd (Γ:Gm):Expr->Option Nat
 | .Name x _=>(fB Γ x).bind λi=>if plainS Γ i then some i else none
 | _=>none
noncomputable def iS (Γ:Gm):List Expr->Option (List Nat)
 | []=>some []
 | e::es=>(pd Γ e).bind λi=>(iS Γ es).map (i:: ·)
noncomputable def qk (Γ:Gm):Expr->Option Tg
 | .Name x p=>(pd Γ (.Name x p)).map .nm
 | .Tuple es _ _=>(iS Γ es).map .tp
 | _=>none
noncomputable def Jx (names:List (Str×NameKind)):List Str:=names.filterMap λp=>if yK (some p.2) then some p.1 else none
noncomputable def Ce (names:List (Str×NameKind)) (N:List Str):List (Option Nat):=names.filterMap λp=>match p.2 with
 | .local=>some none
 | .free=>some (BD p.1 N)
 | .cell=>some none
 | _=>none
noncomputable def Cf (cap:List (Option Nat)) (M:List Bool):List Bool:=cap.map λo=>o.elim false λi=>M[i]?==some true
noncomputable def ET (δ:Option Nat):List (Option Nat)->Option Nat
 | []=>none
 | o::r=>if δ.isSome&&o==δ then some 0 else(ET δ r).map (· + 1)
noncomputable def aW (Γ:Gm) (sc:Scope):Gm×List (Option Nat):=
 let cap:=Ce sc.names Γ.N
 (⟨sc.names,Jx sc.names,Cf cap Γ.M,ET Γ.δ cap⟩,cap)
noncomputable def aS:Tg->List Nat
 | .nm i=>[i]
 | .tp is=>is
noncomputable def vP (names on:List (Str×NameKind)) (N' Nn:List Str) (cap:List (Option Nat)):Bool:=
 names.all (λy=>names.lookup y.1==some y.2&&(y.2 != .free||(on.lookup y.1==some .cell||on.lookup y.1==some .free)))&&
 (cap.length==N'.length)&&(List.range cap.length).all (λj=>match cap[j]? with
  | some (some i)=>(match N'[j]? with
   | some x=>Nn[i]?==some x&&names.lookup x==some .free
   | none=>false)
  | _=>true)
noncomputable def Kz (Γ:Gm):Expr->Bool
 | .Name x _=>match slot Γ x with
  | some i=>Γ.δ==some i
  | none=>false
 | _=>false
mutual
noncomputable def cE:Nat->G->Gm->Expr->Option C
 | 0,_,_,_=>none
 | n + 1,g,Γ,e=>match e with
  | .Constant k _ _=>match k with
   | .int i=>some (.con (.int i))
   | .str x=>some (.con (.str x))
   | .bool x=>some (.con (.bl x))
   | .none=>some (.con .bg)
   | _=>none
  | .Name x _=>match slot Γ x with
   | some i=>if Γ.δ==some i then none else if eJ Γ i then some (.mvr i) else some (.var i)
   | none=>if uz (Γ.names.lookup x)&&dD x then(g.cons.lookup x).map .con else none
  | .BinOp a o b _=>(cE n g Γ a).bind λa'=>(cE n g Γ b).bind λb'=>some (.bin o a' b')
  | .UnaryOp o a _=>(cE n g Γ a).bind λa'=>match o with
   | .USub=>some (.neg a')
   | .Not=>some (.nt a')
   | _=>none
  | .BoolOp o vs _=>cB n g Γ o vs
  | .Compare a os bs _=>match os,bs with
   | [o],[b]=>(cE n g Γ a).bind λa'=>(cE n g Γ b).bind λb'=>some (.cmp o a' b')
   | _,_=>none
  | .Subscript a b _=>match b with
   | .Slice (some l) none none _=>(cE n g Γ a).bind λa'=>(cE n g Γ l).bind λl'=>some (.sliL a' l')
   | .Slice none (some h) none _=>(cE n g Γ a).bind λa'=>(cE n g Γ h).bind λh'=>some (.sliH a' h')
   | b=>(cE n g Γ a).bind λa'=>(cE n g Γ b).bind λb'=>some (.idx a' b')
  | .Tuple es _ _=>(vS n g Γ es).bind λdk=>some (.tup dk)
  | .List es _=>(vS n g Γ es).bind λdk=>some (.lst dk)
  | .Call f as ks pos=>match f,as,ks with
   | .Name f _,a::as,[]=>sf n g Γ f a as
   | .Name f _,[a],[⟨some kn,.Constant (.int i) _ _,_⟩]=>if f==("max":Str)&&kn==("default":Str)&&uz (Γ.names.lookup f)&&g.bls.contains f then(cE n g Γ a).bind λa'=>some (.bi (.maxD i) (.cons a' .nil)) else none
   | _,_,_=>none
  | .ListComp elt gens sc _=>
   let b:=aW Γ sc
   if sc.kind== .function then(match gens with
   | [⟨tg,it,ifs,0⟩]=>(cI n g Γ tg it).bind λjk=>(qk b.1 tg).bind λkI=>(zB n g b.1 ifs).bind λnU=>(cE n g b.1 elt).bind λe'=>
    if vP sc.names Γ.names b.1.N Γ.N b.2&&decide b.1.N.Nodup then some (.comp b.2 jk kI nU e') else none
   | [⟨tg,it,ifs,0⟩,⟨tg2,it2,bY,0⟩]=>(cI n g Γ tg it).bind λjk=>(qk b.1 tg).bind λkI=>(zB n g b.1 ifs).bind λnU=>(cI n g b.1 tg2 it2).bind λoQ=>(qk b.1 tg2).bind λkJ=>(zB n g b.1 bY).bind λpP=>(cE n g b.1 elt).bind λe'=>
    if vP sc.names Γ.names b.1.N Γ.N b.2&&decide b.1.N.Nodup&&(aS kJ).all (λi=> !(aS kI).contains i) then some (.i8 b.2 jk kI nU oQ kJ pP e') else none
   | _=>none) else none
  | _=>none
noncomputable def vS:Nat->G->Gm->List Expr->Option Cs
 | 0,_,_,_=>none
 | n + 1,g,Γ,es=>match es with
  | []=>some .nil
  | e::es=>(cE n g Γ e).bind λe'=>(vS n g Γ es).bind λdk=>some (.cons e' dk)
noncomputable def zB:Nat->G->Gm->List Expr->Option Cs
 | 0,_,_,_=>none
 | n + 1,g,Γ,es=>match es with
  | []=>some .nil
  | [e]=>(cE n g Γ e).bind λe'=>some (.cons e' .nil)
  | _=>none
noncomputable def cB:Nat->G->Gm->BoolOp->List Expr->Option C
 | 0,_,_,_,_=>none
 | n + 1,g,Γ,o,es=>match es with
  | [e]=>cE n g Γ e
  | e::es=>(cE n g Γ e).bind λe'=>(cB n g Γ o es).bind λdk=>some (match o with | .And=> .and e' dk | .Or=> .or e' dk)
  | []=>none
noncomputable def cI:Nat->G->Gm->Expr->Expr->Option ll
 | 0,_,_,_,_=>none
 | n + 1,g,Γ,tg,e=>match e with
  | .Call (.Name f p) [a] [] q=>if f==("range":Str) then(if uz (Γ.names.lookup f)&&g.bls.contains f then(cE n g Γ a).bind λa'=>some (.rng1 a') else none)
   else if f==("enumerate":Str) then(match tg with
    | .Tuple ..=>if uz (Γ.names.lookup f)&&g.bls.contains f then(cE n g Γ a).bind λa'=>some (.enum a') else none
    | _=>none)
   else(cE n g Γ (.Call (.Name f p) [a] [] q)).bind λc=>some (.seq c)
  | .Call (.Name f p) [a,b] [] q=>if f==("range":Str) then(if uz (Γ.names.lookup f)&&g.bls.contains f then none else none)
   else if f==("zip":Str) then(match tg with
    | .Tuple ..=>if uz (Γ.names.lookup f)&&g.bls.contains f then(cE n g Γ a).bind λa'=>(cE n g Γ b).bind λb'=>some (.zip a' b') else none
    | _=>none)
   else(cE n g Γ (.Call (.Name f p) [a,b] [] q)).bind λc=>some (.seq c)
  | e=>(cE n g Γ e).bind λc=>some (.seq c)
noncomputable def sf:Nat->G->Gm->Str->Expr->List Expr->Option C
 | 0,_,_,_,_,_=>none
 | n + 1,g,Γ,f,a,as=>if uz (Γ.names.lookup f)&&dD f then(match qz f g.fns with
  | some (k,np,eY,ba)=>if ba then(match a with
    | .Name x _=>match slot Γ x with
     | some i=>if Γ.δ==some i&&as.length + 1==np then none else none
     | none=>none
    | _=>none)
   else if as.length + 1<=np&&np - (as.length + 1)<=eY.length then(vS n g Γ (a::as)).bind λes=>some (.call k es (eY.drop (eY.length - (np - (as.length + 1))))) else none
  | none=>if g.bls.contains f then
    (if f==("len":Str)&&Kz Γ a&&as.isEmpty then none
    else if f==("isinstance":Str) then(match as with
     | [.Name t _]=>if uz (Γ.names.lookup t)&&g.bls.contains t then(rL t).bind λT=>(cE n g Γ a).bind λa'=>some (.bi (.isi T) (.cons a' .nil)) else none
     | _=>none)
    else match a,as with
     | .Call (.Name r _) [b] [] _,[]=>if r==("reversed":Str) then none
       else if r==("set":Str) then(if uz (Γ.names.lookup r)&&g.bls.contains r&&f==("sorted":Str) then(cE n g Γ b).bind λb'=>some (.bi .sset (.cons b' .nil)) else none)
       else(qh f (as.length + 1)).bind λi=>(vS n g Γ (a::as)).bind λes=>some (.bi i es)
     | .Call (.Name r _) [b,c] [] _,[]=>if r==("zip":Str) then none
       else(qh f (as.length + 1)).bind λi=>(vS n g Γ (a::as)).bind λes=>some (.bi i es)
     | _,_=>(qh f (as.length + 1)).bind λi=>(vS n g Γ (a::as)).bind λes=>some (.bi i es))
    else none)
  else none
end
section
variable {P:Program} {w:World} {K:Frag} {A B:Addr->Prop} {H:Hp} {s:Shared}
theorem elts (hok:d4 P w H s.heap) {zj gL:List V} {i1 i2:List Dt} {cV aK:List Value} {R:Around} {n:Nat} (g1:ao K A H zj i1) (g2:ao K B H gL i2) (r1:ar zj cV) (r2:ar gL aK) (l1:cV.toArray.size=i1.length) (l2:aK.toArray.size=i2.length)
  (p1:nC i1=true) (p2:nC i2=true) (hd:qr i1<=n) (hu:R.in1.units + n < cLine) (j:Nat) (h1:j < cV.toArray.size) (h2:j < aK.toArray.size):EqAt R.in1 s cV.toArray[j] aK.toArray[j] (tL i1 i2 j):=by
 have iG:j < zj.length:=by rw[g1.length,<-l1];exact h1
 have lK:j < gL.length:=by rw[g2.length,<-l2];exact h2
 obtain⟨d,c1,c2⟩:=g1.get (i:=j) (x:=zj[j]) (by simp[iG]);obtain⟨e,k1,k2⟩:=g2.get (i:=j) (x:=gL[j]) (by simp[lK]);obtain⟨u,vq,ru⟩:=r1.get (i:=j) (x:=zj[j]) (by simp[iG]);obtain⟨v,Aa,rv⟩:=r2.get (i:=j) (x:=gL[j]) (by simp[lK]);have eu:cV.toArray[j]=u:=by simp only[List.getElem_toArray];exact(Pa.mp vq).2
 have ev:aK.toArray[j]=v:=by simp only[List.getElem_toArray];exact(Pa.mp Aa).2
 rw[eu,ev,show tL i1 i2 j=bD d e by unfold tL;rw[c1,k1]];exact Ft hok n d e zj[j] gL[j] u v R.in1 (Pj (mJ c1) hd) (gE p1 c1) (gE p2 k1) hu c2 k2 ru rv
theorem G1 (hok:d4 P w H s.heap) (n:Nat) (d e:Dt) (x y:V) (u v:Value) (R:Around) (hd:dp d<=n + 1) (jy:pl d=true) (fq:pl e=true) (hu:R.units + n + 1 < cLine) (hx:RV K A H x d) (hy:RV K B H y e) (rx:RelV x u) (ry:RelV y v):RcAt R s u v (bD d e):=by
 cases d with
 | bg=>
  have:=hx.aC;subst this;cases rx;cases e with
  | bg=>have:=hy.aC;subst this;cases ry;exact RcAt.none_none
  | bl i2=>have:=hy.ay;subst this;cases ry;exact RcAt.none_bool i2
  | int i2=>have:=hy.int_inv;subst this;obtain⟨t2,rfl⟩:=ry;exact RcAt.none_int i2 t2
  | str i2=>have:=hy.str_inv;subst this;obtain⟨t2,rfl⟩:=ry;exact RcAt.none_str i2 t2
  | tup i2=>obtain⟨a2,gL,q2,f2,g2⟩:=hy.ag;subst q2;cases ry;obtain⟨aK,r2,bR⟩:=Mx.au hok f2;exact RcAt.none_tuple bR (by lia)
  | lst i2=>obtain⟨a2,gL,q2,f2,_,g2⟩:=hy.lst_inv;subst q2;cases ry;obtain⟨aK,r2,bR⟩:=aN hok f2;exact RcAt.none_list bR (by lia)
  | _=>simp[pl] at fq
 | bl i1=>
  have:=hx.ay;subst this;cases rx;cases e with
  | bg=>have:=hy.aC;subst this;cases ry;exact RcAt.bool_none i1
  | bl i2=>have:=hy.ay;subst this;cases ry;exact RcAt.bool_bool i1 i2
  | int i2=>have:=hy.int_inv;subst this;obtain⟨t2,rfl⟩:=ry;exact RcAt.bool_int i1 i2 t2
  | str i2=>have:=hy.str_inv;subst this;obtain⟨t2,rfl⟩:=ry;exact RcAt.bool_str i1 i2 t2
  | tup i2=>obtain⟨a2,gL,q2,f2,g2⟩:=hy.ag;subst q2;cases ry;obtain⟨aK,r2,bR⟩:=Mx.au hok f2;exact RcAt.bool_tuple i1 bR (by lia)
  | lst i2=>obtain⟨a2,gL,q2,f2,_,g2⟩:=hy.lst_inv;subst q2;cases ry;obtain⟨aK,r2,bR⟩:=aN hok f2;exact RcAt.bool_list i1 bR (by lia)
  | _=>simp[pl] at fq
 | int i1=>
  have:=hx.int_inv;subst this;obtain⟨t1,rfl⟩:=rx;cases e with
  | bg=>have:=hy.aC;subst this;cases ry;exact RcAt.int_none i1 t1
  | bl i2=>have:=hy.ay;subst this;cases ry;exact RcAt.int_bool i1 t1 i2
  | int i2=>have:=hy.int_inv;subst this;obtain⟨t2,rfl⟩:=ry;exact RcAt.int_int i1 t1 i2 t2
  | str i2=>have:=hy.str_inv;subst this;obtain⟨t2,rfl⟩:=ry;exact RcAt.int_str i1 t1 i2 t2
  | tup i2=>obtain⟨a2,gL,q2,f2,g2⟩:=hy.ag;subst q2;cases ry;obtain⟨aK,r2,bR⟩:=Mx.au hok f2;exact RcAt.int_tuple i1 t1 bR (by lia)
  | lst i2=>obtain⟨a2,gL,q2,f2,_,g2⟩:=hy.lst_inv;subst q2;cases ry;obtain⟨aK,r2,bR⟩:=aN hok f2;exact RcAt.int_list i1 t1 bR (by lia)
  | _=>simp[pl] at fq
 | str i1=>
  have:=hx.str_inv;subst this;obtain⟨t1,rfl⟩:=rx;cases e with
  | bg=>have:=hy.aC;subst this;cases ry;exact RcAt.str_none i1 t1
  | bl i2=>have:=hy.ay;subst this;cases ry;exact RcAt.str_bool i1 t1 i2
  | int i2=>have:=hy.int_inv;subst this;obtain⟨t2,rfl⟩:=ry;exact RcAt.str_int i1 t1 i2 t2
  | str i2=>have:=hy.str_inv;subst this;obtain⟨t2,rfl⟩:=ry;exact RcAt.str_str i1 t1 i2 t2
  | tup i2=>obtain⟨a2,gL,q2,f2,g2⟩:=hy.ag;subst q2;cases ry;obtain⟨aK,r2,bR⟩:=Mx.au hok f2;exact RcAt.str_tuple i1 t1 bR (by lia)
  | lst i2=>obtain⟨a2,gL,q2,f2,_,g2⟩:=hy.lst_inv;subst q2;cases ry;obtain⟨aK,r2,bR⟩:=aN hok f2;exact RcAt.str_list i1 t1 bR (by lia)
  | _=>simp[pl] at fq
 | tup i1=>
  obtain⟨a1,zj,q1,f1,g1⟩:=hx.ag;subst q1;cases rx;obtain⟨cV,r1,g6⟩:=Mx.au hok f1;cases e with
  | bg=>have:=hy.aC;subst this;cases ry;exact RcAt.tuple_none g6 (by lia)
  | bl i2=>have:=hy.ay;subst this;cases ry;exact RcAt.tuple_bool i2 g6 (by lia)
  | int i2=>have:=hy.int_inv;subst this;obtain⟨t2,rfl⟩:=ry;exact RcAt.tuple_int i2 t2 g6 (by lia)
  | str i2=>have:=hy.str_inv;subst this;obtain⟨t2,rfl⟩:=ry;exact RcAt.tuple_str i2 t2 g6 (by lia)
  | tup i2=>
   obtain⟨a2,gL,q2,f2,g2⟩:=hy.ag;subst q2;cases ry;obtain⟨aK,r2,bR⟩:=Mx.au hok f2;have l1:cV.toArray.size=i1.length:=by rw[O8,<-r1.length,g1.length]
   have l2:aK.toArray.size=i2.length:=by rw[O8,<-r2.length,g2.length]
   have key:=RcAt.tuples (A:=R) (e:=tL i1 i2) g6 bR (by lia) (elts hok g1 g2 r1 r2 l1 l2 (by simpa [pl] using jy) (by simpa [pl] using fq) (n:=n) (by unfold dp at hd;lia) (by show R.units + 1 + n < cLine;lia));have q:=cw i1 i2;rw[<-l1,<-l2] at q;rw[q] at key;exact key
  | lst i2=>obtain⟨a2,gL,q2,f2,_,g2⟩:=hy.lst_inv;subst q2;cases ry;obtain⟨aK,r2,bR⟩:=aN hok f2;exact RcAt.tuple_list g6 bR (by lia)
  | _=>simp[pl] at fq
 | lst i1=>
  obtain⟨a1,zj,q1,f1,_,g1⟩:=hx.lst_inv;subst q1;cases rx;obtain⟨cV,r1,g6⟩:=aN hok f1;cases e with
  | bg=>have:=hy.aC;subst this;cases ry;exact RcAt.list_none g6 (by lia)
  | bl i2=>have:=hy.ay;subst this;cases ry;exact RcAt.list_bool i2 g6 (by lia)
  | int i2=>have:=hy.int_inv;subst this;obtain⟨t2,rfl⟩:=ry;exact RcAt.list_int i2 t2 g6 (by lia)
  | str i2=>have:=hy.str_inv;subst this;obtain⟨t2,rfl⟩:=ry;exact RcAt.list_str i2 t2 g6 (by lia)
  | tup i2=>obtain⟨a2,gL,q2,f2,g2⟩:=hy.ag;subst q2;cases ry;obtain⟨aK,r2,bR⟩:=Mx.au hok f2;exact RcAt.list_tuple g6 bR (by lia)
  | lst i2=>
   obtain⟨a2,gL,q2,f2,_,g2⟩:=hy.lst_inv;subst q2;cases ry;obtain⟨aK,r2,bR⟩:=aN hok f2;have l1:cV.toArray.size=i1.length:=by rw[O8,<-r1.length,g1.length]
   have l2:aK.toArray.size=i2.length:=by rw[O8,<-r2.length,g2.length]
   have q:=cw i1 i2;by_cases hl:i1.length=i2.length
   ·have key:=RcAt.lists (A:=R) (e:=tL i1 i2) g6 bR (by lia) (by lia) (elts hok g1 g2 r1 r2 l1 l2 (by simpa [pl] using jy) (by simpa [pl] using fq) (n:=n) (by unfold dp at hd;lia) (by show R.units + 1 + n < cLine;lia));rw[hl,Nat.min_self,beq_self_eq_true,Bool.and_true] at q;rw[l1,hl,q] at key;exact key
   ·have key:=RcAt.lists_lengths (A:=R) g6 bR (by rw[l1,l2];simpa using hl) (by lia);have hb:(i1.length==i2.length)=false:=by simpa using hl
    rw[hb,Bool.and_false] at q;show RcAt R s _ _ (bI i1 i2);rw[<-q];exact key
  | _=>simp[pl] at fq
 | _=>simp[pl] at jy
theorem AY (hok:d4 P w H s.heap) (n:Nat) (d e:Dt) (x y:V) (u v:Value) (R:Around) (hd:dp d<=n + 1) (jy:pl d=true) (fq:pl e=true) (hu:R.units + n + 1 < cLine) (hx:RV K A H x d) (hy:RV K B H y e) (rx:RelV x u) (ry:RelV y v):RcNeAt R s u v (!bD d e):=by
 cases d with
 | bg=>
  have:=hx.aC;subst this;cases rx;cases e with
  | bg=>have:=hy.aC;subst this;cases ry;exact RcNeAt.none_none
  | bl i2=>have:=hy.ay;subst this;cases ry;exact RcNeAt.none_bool i2
  | int i2=>have:=hy.int_inv;subst this;obtain⟨t2,rfl⟩:=ry;exact RcNeAt.none_int i2 t2
  | str i2=>have:=hy.str_inv;subst this;obtain⟨t2,rfl⟩:=ry;exact RcNeAt.none_str i2 t2
  | tup i2=>obtain⟨a2,gL,q2,f2,g2⟩:=hy.ag;subst q2;cases ry;obtain⟨aK,r2,bR⟩:=Mx.au hok f2;exact RcNeAt.none_tuple bR (by lia)
  | lst i2=>obtain⟨a2,gL,q2,f2,_,g2⟩:=hy.lst_inv;subst q2;cases ry;obtain⟨aK,r2,bR⟩:=aN hok f2;exact RcNeAt.none_list bR (by lia)
  | _=>simp[pl] at fq
 | bl i1=>
  have:=hx.ay;subst this;cases rx;cases e with
  | bg=>have:=hy.aC;subst this;cases ry;exact RcNeAt.bool_none i1
  | bl i2=>have:=hy.ay;subst this;cases ry;exact RcNeAt.bool_bool i1 i2
  | int i2=>have:=hy.int_inv;subst this;obtain⟨t2,rfl⟩:=ry;exact RcNeAt.bool_int i1 i2 t2
  | str i2=>have:=hy.str_inv;subst this;obtain⟨t2,rfl⟩:=ry;exact RcNeAt.bool_str i1 i2 t2
  | tup i2=>obtain⟨a2,gL,q2,f2,g2⟩:=hy.ag;subst q2;cases ry;obtain⟨aK,r2,bR⟩:=Mx.au hok f2;exact RcNeAt.bool_tuple i1 bR (by lia)
  | lst i2=>obtain⟨a2,gL,q2,f2,_,g2⟩:=hy.lst_inv;subst q2;cases ry;obtain⟨aK,r2,bR⟩:=aN hok f2;exact RcNeAt.bool_list i1 bR (by lia)
  | _=>simp[pl] at fq
 | int i1=>
  have:=hx.int_inv;subst this;obtain⟨t1,rfl⟩:=rx;cases e with
  | bg=>have:=hy.aC;subst this;cases ry;exact RcNeAt.int_none i1 t1
  | bl i2=>have:=hy.ay;subst this;cases ry;exact RcNeAt.int_bool i1 t1 i2
  | int i2=>have:=hy.int_inv;subst this;obtain⟨t2,rfl⟩:=ry;exact RcNeAt.int_int i1 t1 i2 t2
  | str i2=>have:=hy.str_inv;subst this;obtain⟨t2,rfl⟩:=ry;exact RcNeAt.int_str i1 t1 i2 t2
  | tup i2=>obtain⟨a2,gL,q2,f2,g2⟩:=hy.ag;subst q2;cases ry;obtain⟨aK,r2,bR⟩:=Mx.au hok f2;exact RcNeAt.int_tuple i1 t1 bR (by lia)
  | lst i2=>obtain⟨a2,gL,q2,f2,_,g2⟩:=hy.lst_inv;subst q2;cases ry;obtain⟨aK,r2,bR⟩:=aN hok f2;exact RcNeAt.int_list i1 t1 bR (by lia)
  | _=>simp[pl] at fq
 | str i1=>
  have:=hx.str_inv;subst this;obtain⟨t1,rfl⟩:=rx;cases e with
  | bg=>have:=hy.aC;subst this;cases ry;exact RcNeAt.str_none i1 t1
  | bl i2=>have:=hy.ay;subst this;cases ry;exact RcNeAt.str_bool i1 t1 i2
  | int i2=>have:=hy.int_inv;subst this;obtain⟨t2,rfl⟩:=ry;exact RcNeAt.str_int i1 t1 i2 t2
  | str i2=>have:=hy.str_inv;subst this;obtain⟨t2,rfl⟩:=ry;exact RcNeAt.str_str i1 t1 i2 t2
  | tup i2=>obtain⟨a2,gL,q2,f2,g2⟩:=hy.ag;subst q2;cases ry;obtain⟨aK,r2,bR⟩:=Mx.au hok f2;exact RcNeAt.str_tuple i1 t1 bR (by lia)
  | lst i2=>obtain⟨a2,gL,q2,f2,_,g2⟩:=hy.lst_inv;subst q2;cases ry;obtain⟨aK,r2,bR⟩:=aN hok f2;exact RcNeAt.str_list i1 t1 bR (by lia)
  | _=>simp[pl] at fq
 | tup i1=>
  obtain⟨a1,zj,q1,f1,g1⟩:=hx.ag;subst q1;cases rx;obtain⟨cV,r1,g6⟩:=Mx.au hok f1;cases e with
  | bg=>have:=hy.aC;subst this;cases ry;exact RcNeAt.tuple_none g6 (by lia)
  | bl i2=>have:=hy.ay;subst this;cases ry;exact RcNeAt.tuple_bool i2 g6 (by lia)
  | int i2=>have:=hy.int_inv;subst this;obtain⟨t2,rfl⟩:=ry;exact RcNeAt.tuple_int i2 t2 g6 (by lia)
  | str i2=>have:=hy.str_inv;subst this;obtain⟨t2,rfl⟩:=ry;exact RcNeAt.tuple_str i2 t2 g6 (by lia)
  | tup i2=>
   obtain⟨a2,gL,q2,f2,g2⟩:=hy.ag;subst q2;cases ry;obtain⟨aK,r2,bR⟩:=Mx.au hok f2;have l1:cV.toArray.size=i1.length:=by rw[O8,<-r1.length,g1.length]
   have l2:aK.toArray.size=i2.length:=by rw[O8,<-r2.length,g2.length]
   have key:=RcNeAt.tuples (A:=R) (e:=tL i1 i2) g6 bR (by lia) (elts hok g1 g2 r1 r2 l1 l2 (by simpa [pl] using jy) (by simpa [pl] using fq) (n:=n) (by unfold dp at hd;lia) (by show R.units + 1 + n < cLine;lia));have q:=cw i1 i2;rw[<-l1,<-l2] at q;rw[q] at key;exact key
  | lst i2=>obtain⟨a2,gL,q2,f2,_,g2⟩:=hy.lst_inv;subst q2;cases ry;obtain⟨aK,r2,bR⟩:=aN hok f2;exact RcNeAt.tuple_list g6 bR (by lia)
  | _=>simp[pl] at fq
 | lst i1=>
  obtain⟨a1,zj,q1,f1,_,g1⟩:=hx.lst_inv;subst q1;cases rx;obtain⟨cV,r1,g6⟩:=aN hok f1;cases e with
  | bg=>have:=hy.aC;subst this;cases ry;exact RcNeAt.list_none g6 (by lia)
  | bl i2=>have:=hy.ay;subst this;cases ry;exact RcNeAt.list_bool i2 g6 (by lia)
  | int i2=>have:=hy.int_inv;subst this;obtain⟨t2,rfl⟩:=ry;exact RcNeAt.list_int i2 t2 g6 (by lia)
  | str i2=>have:=hy.str_inv;subst this;obtain⟨t2,rfl⟩:=ry;exact RcNeAt.list_str i2 t2 g6 (by lia)
  | tup i2=>obtain⟨a2,gL,q2,f2,g2⟩:=hy.ag;subst q2;cases ry;obtain⟨aK,r2,bR⟩:=Mx.au hok f2;exact RcNeAt.list_tuple g6 bR (by lia)
  | lst i2=>
   obtain⟨a2,gL,q2,f2,_,g2⟩:=hy.lst_inv;subst q2;cases ry;obtain⟨aK,r2,bR⟩:=aN hok f2;have l1:cV.toArray.size=i1.length:=by rw[O8,<-r1.length,g1.length]
   have l2:aK.toArray.size=i2.length:=by rw[O8,<-r2.length,g2.length]
   have q:=cw i1 i2;by_cases hl:i1.length=i2.length
   ·have key:=RcNeAt.lists (A:=R) (e:=tL i1 i2) g6 bR (by lia) (by lia) (elts hok g1 g2 r1 r2 l1 l2 (by simpa [pl] using jy) (by simpa [pl] using fq) (n:=n) (by unfold dp at hd;lia) (by show R.units + 1 + n < cLine;lia));rw[hl,Nat.min_self,beq_self_eq_true,Bool.and_true] at q;rw[l1,hl,q] at key;exact key
   ·have key:=RcNeAt.lists_lengths (A:=R) g6 bR (by rw[l1,l2];simpa using hl) (by lia);have hb:(i1.length==i2.length)=false:=by simpa using hl
    rw[hb,Bool.and_false] at q;show RcNeAt R s _ _ (!bI i1 i2);rw[<-q];exact key
  | _=>simp[pl] at fq
 | _=>simp[pl] at jy
end
end Rx
end
section
namespace HT
open PySem PyProof.Rows
section
variable {prog:Program} {w:World} {A:Around} {E:Value->Shared->Prop} {s:Shared}
theorem fX {t sl:Addr} {items:Array Value} {vl vu:Value} {lo hi:Option Int} {Q:Value->Shared->Prop} (ht:IsTup s.heap t items) (hs:s.heap.IsSliceOf sl vl vu .none) (pl:IsPart vl lo) (pu:IsPart vu hi)
  (hw:bA items.size 0 lo=0/\bA items.size items.size hi=items.size) (h:Q (.ref t) s) (g0:items.size<=sizeLine):wpAny (model prog w) A (getItem (.ref t) (.ref sl)) Q E s:=by
 obtain⟨os,CS,zR,CI⟩:=id hs;have J3:s.TypeIs (.ref sl) "slice":=⟨os,CS,zR⟩;unfold getItem
 try with_reducible refine wpAny_holding ?_
 first | refine O3 (O6 ?_) | skip
 refine O3 (wpAny_sequenceKey ht.typeIs (by decide) ?_);refine O3 (wpAny_callSpecial?_slot (name:=Str.ofString "__getitem__") ht.typeIs PyProof.Rows.slot_tuple_getitem
  (wpAny_call_entry PyProof.Rows.slot_tuple_getitem ht.typeIs entry_tuple_getitem ?_ (args_tuple_getitem _ _)))
 show wpAny _ _ (Builtin.Tuple.tupleItemsOf (.ref t) >>=_) _ _ s;refine O3 (tupleItemsOf_ ht ?_);refine O3 (wpAny_typeOf J3 ?_);rw[if_pos (by decide)];refine O3 (dY hs pl pu ?_);show wpAny _ _ (if (((bA items.size 0 lo:Nat):Int)==0&&(1:Int)==1&&(bA items.size items.size hi - bA items.size 0 lo)==items.size)=true then _ else _) _ _ s;rw[if_pos (by rw[hw.1,hw.2];simp)];refine O3 (O3 (wpAny_typeOf ht.typeIs (O6 ?_)));rw[if_pos (by decide)];refine O3 (wpAny_rule ?_);exact O6 ⟨_,rfl,O6 h⟩
end
end HT
namespace Rx
open PySem PySem.W PySem.Spec PyProof.Rows L2 PySem.SeqAt
noncomputable abbrev N0:Addr->Prop:=λ_=>False
noncomputable def eS (K:Frag) (A:Addr->Prop) (H:Hp) (v:V):Dt->Prop
 | .lst ds=>∃a xs,v= .ref a/\H a=some (.lst xs)/\ao K A H xs ds
 | d=>RV K A H v d
noncomputable def ml (K:Frag) (A:Addr->Prop) (H:Hp):List V->List Dt->Prop
 | [],[]=>True
 | x::xs,d::ds=>eS K A H x d/\ml K A H xs ds
 | _,_=>False
section
variable {K:Frag} {A B:Addr->Prop} {H H':Hp}
theorem RV.one {v d} (h:RV K A H v d):eS K A H v d:=by
 cases d with
 | lst ds=>obtain⟨a,xs,h1,h2,_,h3⟩:=h.lst_inv;exact⟨a,xs,h1,h2,h3⟩
 | _=>exact h
theorem eS.ext {X:Addr->Prop} {v d} (h:eS K A H v d) (e:aV X H H') (hX:∀b,X b->A b) (hv:∀ds a,d= .lst ds->v= .ref a->¬X a):eS K A H' v d:=by
 cases d with
 | lst ds=>obtain⟨a,xs,h1,h2,h3⟩:=h;exact⟨a,xs,h1,e.kp _ _ h2 (hv ds a rfl h1),h3.mono e hX λ_ z=>z⟩
 | _=>exact RV.mono e hX (λ_ z=>z) h
theorem ao.ones:∀{vs ds},ao K A H vs ds->ml K A H vs ds
 | [],[],_=>trivial
 | [],_::_,h=>by unfold ao at h;exact h.elim
 | _::_,[],h=>by unfold ao at h;exact h.elim
 | _::_,_::_,h=>by unfold ao at h;exact⟨h.1.one,h.2.ones⟩
end
structure PR (K:Frag) (fr:Bool) (xs:List V) (ds:List Dt) (H:Hp) (d:Dt) (v:V) (H':Hp):Prop where
 same:bB H H'
 val:∀A:Addr->Prop,(∀a,A a->∃o,H a=some o)->ml K A H xs ds->RV K A H' v d
 eI:fr=true->∀es,d= .lst es->∃a ys,v= .ref a/\H a=none/\H' a=some (.lst ys)/\∀A:Addr->Prop,(∀a,A a->∃o,H a=some o)->ml K A H xs ds->ao K (λb=>A b\/b=a) H' ys es
noncomputable def rP (K:Frag) (fr:Bool) (f:List Dt->R Dt):List V->Hp->VK->Prop:=λxs H Q=>∃ds d,ao K N0 H xs ds/\f ds= .ok d/\∀v H',PR K fr xs ds H d v H'->Q v H'
section
variable {K:Frag} {fr:Bool} {xs:List V} {ds:List Dt} {H H':Hp} {d:Dt} {v:V}
noncomputable def og:Dt->Bool
 | .bg | .bl _ | .int _ | .str _=>true
 | _=>false
noncomputable def p7:Dt->V
 | .bl b=> .bl b
 | .int b=> .int b
 | .str b=> .str b
 | _=> .bg
theorem pA {A:Addr->Prop} (h:og d=true):RV K A H (p7 d) d:=by
 cases d with
 | bg=>exact RV.gA
 | bl b=>exact RV.oX
 | int b=>exact RV.c7
 | str b=>exact RV.iT
 | _=>simp[og] at h
theorem PR.sc (h:og d=true):PR K fr xs ds H d (p7 d) H:=⟨bB.refl _,λA _ _=>pA h,λ_ es e=>by subst e;simp[og] at h⟩
theorem PR.o6 {p:Addr} {ys:List V} {es:List Dt} (hp:H p=none) (h:∀A:Addr->Prop,ml K A H xs ds->ao K A H ys es):PR K fr xs ds H (.lst es) (.ref p) (upd H p (.lst ys)):=by
 have s:=Mx.cM hp (.lst ys);refine⟨s,λA hA q=>RV.ez aI (λz=>?_) ((h A q).same s),λ_ dk e=>?_⟩
 ·obtain⟨o,e⟩:=hA p z;rw[hp] at e;cases e
 ·cases e;exact⟨p,ys,rfl,hp,aI,λA hA q=>((h A q).avoid hp).same s⟩
theorem PR.Dj {p:Addr} {ys:List V} {es:List Dt} (hp:H p=none) (h:∀A:Addr->Prop,ml K A H xs ds->ao K A H ys es):PR K fr xs ds H (.tup es) (.ref p) (upd H p (.tup ys)):=by have s:=Mx.cM hp (.tup ys);exact⟨s,λA hA q=>RV.c8 aI ((h A q).same s),λ_ dk e=>by cases e⟩
theorem PR.sZ {p:Addr} {ys:List V} {es:List Dt} (hp:H p=some (.tup ys)) (h:∀A:Addr->Prop,ml K A H xs ds->ao K A H ys es):PR K fr xs ds H (.tup es) (.ref p) H:=
 ⟨bB.refl _,λA hA q=>RV.c8 hp (h A q),λ_ dk e=>by cases e⟩
theorem bZ:lim<=sizeLine:=by rw[sizeLine_eq];decide
theorem aZ {b:Bool} {α:Type} {r:R α} {a:α} (h:af b r= .ok a):b=true/\r= .ok a:=by
 cases b with
 | true=>exact⟨rfl,h⟩
 | false=>cases h
theorem eS.aN {A:Addr->Prop} {a:Addr} {xs:List V} {es:List Dt} (h:eS K A H (.ref a) (.lst es)) (e:H a=some (.lst xs)):ao K A H xs es:=by obtain⟨b,ys,q,h1,h2⟩:=h;cases q;rw[e] at h1;cases h1;exact h2
theorem eS.au {A:Addr->Prop} {a:Addr} {xs:List V} {es:List Dt} (h:eS K A H (.ref a) (.tup es)) (e:H a=some (.tup xs)):ao K A H xs es:=by obtain⟨b,ys,q,h1,h2⟩:=RV.ag h;cases q;rw[e] at h1;cases h1;exact h2
end
section
variable {X:Cx}
noncomputable def r2 (K:Frag) (f:Dt->Dt->R Dt):R2:=λx y H Q=>∃d e z,RV K N0 H x d/\RV K N0 H y e/\f d e= .ok z/\∀v H',PR K true [x,y] [d,e] H z v H'->Q v H'
theorem lV {i:Int} (h:i.natAbs < 2 ^ 64): -(2 ^ 64) < i/\i < 2 ^ 64:=by lia
theorem Du:kS X (binaryOp .FloorDiv) (rI (λ_ j=>0 < j/\j.natAbs.log2 < 9000) λi j=> .int (i / j)):=GG λi j _ _ _ _ _ hc q=>by have h1:(0:Int) < j:=hc.1;exact floordiv_int (by lia) (by rw[Int.fdiv_eq_ediv_of_nonneg i (by lia)];exact q) (.inl (PyProof.noPylong_of_log2 hc.2))
theorem Dr (o:Operator):kS X (binaryOp o) (r2 X.K (pe o)):=by
 intro pins s σ H x y v u Q I rx ry h;obtain⟨d,e,z,hx,hy,he,q⟩:=h;have FW:=bZ;unfold pe at he;split at he
 ·split at he
  ·rename_i i j;cases he;exact Dq pins s σ H x y v u Q I rx ry ⟨i,j,hx.int_inv,hy.int_inv,q _ _ (PR.sc (d:= .int _) rfl)⟩
  ·rename_i i j;obtain⟨g,he⟩:=aZ he;cases he;exact qX pins s σ H x y v u Q I rx ry ⟨i,j,hx.str_inv,hy.str_inv,Pj (O9 g) FW,q _ _ (PR.sc (d:= .str _) rfl)⟩
  ·rename_i i j;obtain⟨g,he⟩:=aZ he;cases he;obtain⟨a,xs,rfl,h1,_,h2⟩:=hx.lst_inv;obtain⟨b,ys,rfl,k1,_,k2⟩:=hy.lst_inv;refine fy pins s σ H _ _ v u Q I rx ry ⟨a,b,xs,ys,rfl,rfl,h1,k1,?_,λp hp=>q _ _ (PR.o6 hp λA w=>?_)⟩
   ·rw[h2.length,k2.length];exact Pj (O9 g) FW
   ·exact(eS.aN w.1 h1).append (eS.aN w.2.1 k1)
  ·rename_i i j;obtain⟨g,he⟩:=aZ he;cases he;obtain⟨a,xs,rfl,h1,h2⟩:=hx.ag;obtain⟨b,ys,rfl,k1,k2⟩:=hy.ag;by_cases hd:xs=[]
   ·subst hd;cases h2.dS;cases rx;cases ry;obtain⟨its,r1,p1,_⟩:=I.tuple (d5.of h1);obtain⟨aK,r2,p2,_⟩:=I.tuple (d5.of k1);cases r1;obtain⟨⟨cls,dd,data,sl⟩,ho,hc,n,zV⟩:=p1;obtain⟨⟨Fk,yY,data2,vt⟩,sP,uB,n2,qE⟩:=p2;simp only at hc zV uB qE;subst hc zV uB qE;exact concat_meets ⟨_,ho,rfl⟩ ⟨_,sP,rfl⟩ noFill_tuple_add seq_tuple_add PySem.F.slot_tuple_add PySem.F.entry_tuple_add (PySem.F.args_tuple_add_2 _ _)
     (Mx.tuple_addW0 a b _ _ n n2 dd yY sl vt rfl) ⟨ho,sP,⟨.ref b,H,I,rfl,q _ _ (PR.sZ k1 λA w=>eS.au w.2.1 k1)⟩⟩
   ·refine AB pins s σ H (.ref a) (.ref b) v u Q I rx ry ⟨a,b,xs,ys,rfl,rfl,d5.of h1,d5.of k1,hd,?_,λe=>?_,λe p hp=>?_⟩
    ·rw[h2.length,k2.length];exact Pj (O9 g) FW
    ·subst e;cases k2.dS;rw[PX] at q;exact q _ _ (PR.sZ h1 λA w=>eS.au w.1 h1)
    ·exact q _ _ (PR.Dj hp λA w=>(eS.au w.1 h1).append (eS.au w.2.1 k1))
  ·cases he
 ·split at he
  ·rename_i i j;cases he;exact Dy pins s σ H x y v u Q I rx ry ⟨i,j,hx.int_inv,hy.int_inv,q _ _ (PR.sc (d:= .int _) rfl)⟩
  ·cases he
 ·split at he
  ·rename_i i j;obtain⟨g,he⟩:=aZ he;cases he;refine Dw pins s σ H x y v u Q I rx ry ⟨i,j,hx.int_inv,hy.int_inv,?_,q _ _ (PR.sc (d:= .int _) rfl)⟩;rw[PY] at g;rcases g with g | g
   ·exact .inl (lV (O9 g))
   ·exact .inr (lV (O9 g))
  ·cases he
 ·split at he
  ·rename_i i j;obtain⟨g,he⟩:=aZ he;cases he;rw[O7] at g;exact Du pins s σ H x y v u Q I rx ry ⟨i,j,hx.int_inv,hy.int_inv,⟨O9 g.1,O9 g.2⟩,q _ _ (PR.sc (d:= .int _) rfl)⟩
  ·cases he
 ·split at he
  ·rename_i i j;obtain⟨g,he⟩:=aZ he;cases he;exact Dv pins s σ H x y v u Q I rx ry ⟨i,j,hx.int_inv,hy.int_inv,O9 g,q _ _ (PR.sc (d:= .int _) rfl)⟩
  ·cases he
 ·split at he
  ·rename_i i j;obtain⟨g,he⟩:=aZ he;cases he;rw[O7,O7] at g;have g1:=O9 g.1.1;have g2:=O9 g.1.2;have g3:=O9 g.2;exact Dx pins s σ H x y v u Q I rx ry ⟨i,j,hx.int_inv,hy.int_inv,⟨g1,by lia,g3⟩,q _ _ (PR.sc (d:= .int _) rfl)⟩
  ·cases he
 ·cases he
noncomputable def rC (K:Frag) (o:CmpOp):R2:=λx y H Q=>∃d e z,RV K N0 H x d/\RV K N0 H y e/\cO o d e= .ok z/\Q (.bl z) H
theorem xR (o:CmpOp) (hu:X.A.units + 150 < cLine):kS X (compareOp o) (rC X.K o):=by
 intro pins s σ H x y v u Q I rx ry h;obtain⟨d,e,z,hx,hy,he,q⟩:=h;unfold cO at he;split at he
 ·obtain⟨g,he⟩:=aZ he;cases he;unfold fV at g;rw[O7,O7] at g;exact G1 I.hok 100 d e x y v u X.A (Nat.le_succ_of_le (O9 g.2)) g.1.1 g.1.2 (by lia) hx hy rx ry X.prog X.w X.xe (EP X pins σ Q) ⟨.bl _,H,I,rfl,q⟩
 ·obtain⟨g,he⟩:=aZ he;cases he;unfold fV at g;rw[O7,O7] at g;exact AY I.hok 100 d e x y v u X.A (Nat.le_succ_of_le (O9 g.2)) g.1.1 g.1.2 (by lia) hx hy rx ry X.prog X.w X.xe (EP X pins σ Q) ⟨.bl _,H,I,rfl,q⟩
 ·rename_i i j;cases he;exact GN pins s σ H x y v u Q I rx ry ⟨i,j,hx.int_inv,hy.int_inv,q⟩
 ·rename_i i j;cases he;exact GM pins s σ H x y v u Q I rx ry ⟨i,j,hx.int_inv,hy.int_inv,q⟩
 ·rename_i i j;cases he;exact GK pins s σ H x y v u Q I rx ry ⟨i,j,hx.int_inv,hy.int_inv,q⟩
 ·rename_i i j;cases he;exact GJ pins s σ H x y v u Q I rx ry ⟨i,j,hx.int_inv,hy.int_inv,q⟩
 ·cases he
theorem qd {ds:List Dt} {i:Int} {d:Dt} (h:uh ds i= .ok d):jM ds i=some d:=by
 unfold uh at h;split at h
 ·cases h;assumption
 ·cases h
theorem jo {K:Frag} {A:Addr->Prop} {H:Hp} {xs:List V} {ds:List Dt} {i:Int} {d:Dt} (g:ao K A H xs ds) (h:jM ds i=some d):∃v,jM xs i=some v/\RV K A H v d:=by
 unfold jM at h ⊢;rw[g.length];cases e:mY ds.length i with
 | none=>rw[e] at h;cases h
 | some j=>rw[e] at h;obtain⟨v,h1,h2⟩:=g.getD (i:=j) h;exact⟨v,h1,h2⟩
noncomputable def rX (K:Frag):R2:=λx y H Q=>∃d e z,RV K N0 H x d/\RV K N0 H y e/\cP d e= .ok z/\∀v,PR K false [x,y] [d,e] H z v H->Q v H
theorem C0:E1 X (rX X.K):=by
 intro value slice pins s σ H x y v u Q I rx ry h hs;obtain⟨d,e,z,hx,hy,he,q⟩:=h;unfold cP at he;split at he
 ·rename_i ds i;obtain⟨a,xs,rfl,h1,_,h2⟩:=hx.lst_inv;have kT:=qd he;obtain⟨w,k1,k2⟩:=jo h2 kT;refine sW value slice pins s σ H _ y v u Q I rx ry ⟨a,xs,i,w,rfl,hy.int_inv,cT.of h1,k1,q w ⟨bB.refl _,λA _ q'=>?_,λz=>by cases z⟩⟩ hs;obtain⟨w',m1,m2⟩:=jo (eS.aN q'.1 h1) kT;rw[k1] at m1;cases m1;exact m2
 ·rename_i ds i;obtain⟨a,xs,rfl,h1,h2⟩:=hx.ag;have kT:=qd he;obtain⟨w,k1,k2⟩:=jo h2 kT;refine C2 value slice pins s σ H _ y v u Q I rx ry ⟨a,xs,i,w,rfl,hy.int_inv,d5.of h1,k1,q w ⟨bB.refl _,λA _ q'=>?_,λz=>by cases z⟩⟩ hs;obtain⟨w',m1,m2⟩:=jo (eS.au q'.1 h1) kT;rw[k1] at m1;cases m1;exact m2
 ·rename_i ns i;obtain⟨a,rfl,h1⟩:=hx.iX;have kT:=qd he;have e1:jM ((ns.map V.int)) i=some (p7 z)/\og z=true:=by
   unfold jM at kT ⊢;rw[Ph] at kT ⊢;cases e:mY ns.length i with
   | none=>rw[e] at kT;cases kT
   | some j=>
    rw[e] at kT;simp only[Option.bind_some,Pr] at kT ⊢;cases en:ns[j]? with
    | none=>rw[en] at kT;cases kT
    | some k=>rw[en] at kT;simp at kT;subst kT;exact⟨rfl,rfl⟩
  exact sW value slice pins s σ H _ y v u Q I rx ry ⟨a,_,i,_,rfl,hy.int_inv,h1,e1.1,q _ (PR.sc e1.2)⟩ hs
 ·rename_i w i;obtain⟨g,he⟩:=aZ he;split at he
  ·rename_i c hc;cases he;exact C1 value slice pins s σ H _ y v u Q I rx ry ⟨w,i,c,hx.str_inv,hy.int_inv,Pj (O9 g) bZ,hc,q _ (PR.sc (d:= .str _) rfl)⟩ hs
  ·cases he
 ·cases he
noncomputable def rS (K:Frag):V->Option Int->Option Int->Hp->VK->Prop:=λx lo hi H Q=>∃d z,RV K N0 H x d/\iA d lo hi= .ok z/\∀v H',PR K true [x] [d] H z v H'->Q v H'
theorem ao.cut {K:Frag} {A:Addr->Prop} {H:Hp} {xs:List V} {ds:List Dt} {lo hi:Option Int} (g:ao K A H xs ds):ao K A H (kX xs lo hi) (cutD ds lo hi):=by unfold kX cutD;rw[g.length];exact(g.drop _).take _
theorem qp {xs:List V} {lo hi:Option Int} (h:HT.bA xs.length 0 lo=0/\HT.bA xs.length xs.length hi=xs.length):kX xs lo hi=xs:=by unfold kX;rw[h.1,h.2];simp
theorem nI:Ez X (λx lo hi H Q=>∃a xs,x= .ref a/\H a=some (.tup xs)/\(HT.bA xs.length 0 lo=0/\HT.bA xs.length xs.length hi=xs.length)/\Q (.ref a) H):=by
 intro pins s σ H x v vl vu lo hi sl Q I rx hs pl pu h;obtain⟨a,xs,rfl,hx,hw,q⟩:=h;cases rx;obtain⟨its,r,ht,hz⟩:=I.tuple (d5.of hx);have hlen:its.toArray.size=xs.length:=by rw[O8];exact r.length.symm
 refine⟨"tuple",_,PyProof.Rows.slot_tuple_getitem.lookup,ht.typeIs,?_⟩;refine HT.fX ht hs pl pu (by rw[hlen];exact hw) ⟨.ref a,H,I,rfl,q⟩ (by rw[hlen];exact hz)
theorem g9 {K:Frag} {A:Addr->Prop} {H:Hp}:∀{ns:List Int},ao K A H (ns.map V.int) (ns.map Dt.int)
 | []=>ao.nil
 | _::_=>ao.cons RV.c7 g9
theorem yq:Ez X (rS X.K):=by
 intro pins s σ H x v vl vu lo hi sl Q I rx hs pl pu h;obtain⟨d,z,hx,he,q⟩:=h;unfold iA at he;split at he
 ·cases he;obtain⟨a,xs,rfl,h1,_,h2⟩:=hx.lst_inv;exact tQ pins s σ H _ v vl vu lo hi sl Q I rx hs pl pu ⟨a,xs,rfl,cT.of h1,λp hp=>q _ _ (PR.o6 hp λA w=>(eS.aN w.1 h1).cut)⟩
 ·cases he;obtain⟨a,rfl,h1⟩:=hx.iX;exact tQ pins s σ H _ v vl vu lo hi sl Q I rx hs pl pu ⟨a,_,rfl,h1,λp hp=>q _ _ (PR.o6 hp λA w=>ao.cut g9)⟩
 ·cases he;obtain⟨a,xs,rfl,h1,h2⟩:=hx.ag;by_cases hw:HT.bA xs.length 0 lo=0/\HT.bA xs.length xs.length hi=xs.length
  ·refine nI pins s σ H _ v vl vu lo hi sl Q I rx hs pl pu ⟨a,xs,rfl,h1,hw,q _ _ (PR.sZ h1 λA w=>?_)⟩;have:=(eS.au w.1 h1).cut (lo:=lo) (hi:=hi);rw[qp hw] at this;exact this
  ·exact Ed pins s σ H _ v vl vu lo hi sl Q I rx hs pl pu ⟨a,xs,rfl,d5.of h1,hw,λp hp=>q _ _ (PR.Dj hp λA w=>(eS.au w.1 h1).cut)⟩
 ·obtain⟨g,he⟩:=aZ he;cases he;exact Mx.Ec pins s σ H _ v vl vu lo hi sl Q I rx hs pl pu ⟨_,hx.str_inv,Pj (O9 g) bZ,q _ _ (PR.sc (d:= .str _) rfl)⟩
 ·cases he
theorem hJ {K:Frag} {A:Addr->Prop} {H:Hp}:∀{xs:List V} {ds:List Dt} {ns:List Int},ao K A H xs ds->intsOf ds=some ns->xs=ns.map V.int
 | xs,[],ns,g,h=>by simp[intsOf] at h;subst h;exact g.nil_inv
 | xs,d::ds,ns,g,h=>by
  obtain⟨x,r,rfl,g1,g2⟩:=g.cons_inv;cases d with
  | int i=>simp only[intsOf,Pn] at h;obtain⟨ms,h1,rfl⟩:=h;rw[hJ g2 h1,g1.int_inv];rfl
  | _=>simp[intsOf] at h
theorem pH {K:Frag} {A:Addr->Prop} {H:Hp}:∀{xs:List V} {ds:List Dt} {ns:List Str},ao K A H xs ds->strsOf ds=some ns->xs=ns.map V.str
 | xs,[],ns,g,h=>by simp[strsOf] at h;subst h;exact g.nil_inv
 | xs,d::ds,ns,g,h=>by
  obtain⟨x,r,rfl,g1,g2⟩:=g.cons_inv;cases d with
  | str i=>simp only[strsOf,Pn] at h;obtain⟨ms,h1,rfl⟩:=h;rw[pH g2 h1,g1.str_inv];rfl
  | _=>simp[strsOf] at h
theorem xF:∀(ns:List Int),ns≠[]->qT ns∈ns/\∀a∈ns,qT ns<=a
 | [],h=>absurd rfl h
 | [a],_=>by simp[qT]
 | a::b::r,_=>by
  have ih:=xF (b::r) (by simp);have e:qT (a::b::r)=min a (qT (b::r)):=rfl;rw[e];constructor
  ·by_cases h:a<=qT (b::r)
   ·rw[Int.min_eq_left h];exact Pe
   ·rw[Int.min_eq_right (by lia)];exact Pb _ ih.1
  ·intro c hc;rcases Pk.mp hc with e | hc
   ·rw[e];exact Int.min_le_left _ _
   ·exact Int.le_trans (Int.min_le_right _ _) (ih.2 c hc)
theorem kb:∀(ns:List Int),ns≠[]->eL ns∈ns/\∀a∈ns,a<=eL ns
 | [],h=>absurd rfl h
 | [a],_=>by simp[eL]
 | a::b::r,_=>by
  have ih:=kb (b::r) (by simp);have e:eL (a::b::r)=max a (eL (b::r)):=rfl;rw[e];constructor
  ·by_cases h:a<=eL (b::r)
   ·rw[Int.max_eq_right h];exact Pb _ ih.1
   ·rw[Int.max_eq_left (by lia)];exact Pe
  ·intro c hc;rcases Pk.mp hc with e | hc
   ·rw[e];exact Int.le_max_left _ _
   ·exact Int.le_trans (ih.2 c hc) (Int.le_max_right _ _)
theorem gj:∀{l l':List Mx.D},l.Perm l'->(l.Pairwise λa b=>Mx.D.lt b a=false)->(l'.Pairwise λa b=>Mx.D.lt b a=false)->l=l'
 | [],l',p,_,_=>(List.nil_perm.mp p).symm
 | a::t,l',p,h1,h2=>by
  cases l' with
  | nil=>exact absurd p.length_eq (by simp)
  | cons b t'=>
   rw[List.pairwise_cons] at h1 h2;have gv:a=b:=by
    have ha:a∈b::t':=p.mem_iff.mp Pe;have hb:b∈a::t:=p.mem_iff.mpr Pe;rcases Pk.mp ha with e | ha
    ·exact e
    rcases Pk.mp hb with e | hb
    ·exact e.symm
    exact Mx.D.dR a b (h2.1 a ha) (h1.1 b hb)
   subst gv;rw[gj (List.perm_cons a |>.mp p) h1.2 h2.2]
theorem kD (ms:List Mx.D):(aJ ms).Perm ms/\(aJ ms).Pairwise λa b=>Mx.D.lt b a=false:=by
 unfold aJ;refine⟨List.mergeSort_perm ms n9,?_⟩;have h:=List.pairwise_mergeSort (le:=n9) (λa b c h1 h2=>by
  unfold n9 at *;simp only[Bool.not_eq_true'] at *;cases h3:Mx.D.lt c a with
  | false=>rfl
  | true=>
   rcases Mx.Fp.negTrans c b a h3 with h | h
   ·have h:Mx.D.lt c b=true:=h;rw[h2] at h;cases h
   ·have h:Mx.D.lt b a=true:=h;rw[h1] at h;cases h) (λa b=>by
  unfold n9;cases h:Mx.D.lt b a with
  | false=>rfl
  | true=>
   cases h':Mx.D.lt a b with
   | false=>rfl
   | true=>have:=Mx.D.lt_trans a b a h' h;rw[Mx.D.lt_irrefl] at this;cases this) ms
 exact h.imp λq=>by unfold n9 at q;simpa using q
theorem pE {ms es:List Mx.D} (h:Mx.gN ms es):es=aJ ms:=gj (h.1.trans (kD ms).1.symm) h.2 (kD ms).2
mutual
theorem tq:∀{d e:Mx.D},kW d e=true->Mx.D.ek d e
 | .int _,.int _,_=>by unfold Mx.D.ek;trivial
 | .str _,.str _,_=>by unfold Mx.D.ek;trivial
 | .tup a,.tup b,h=>by unfold Mx.D.ek;exact lQ (by simpa [kW] using h)
 | .int _,.str _,h=>by simp[kW] at h
 | .int _,.tup _,h=>by simp[kW] at h
 | .str _,.int _,h=>by simp[kW] at h
 | .str _,.tup _,h=>by simp[kW] at h
 | .tup _,.int _,h=>by simp[kW] at h
 | .tup _,.str _,h=>by simp[kW] at h
theorem lQ:∀{d e:List Mx.D},ib d e=true->Mx.D.gg d e
 | [],_,_=>by unfold Mx.D.gg;trivial
 | _::_,[],_=>by unfold Mx.D.gg;trivial
 | x::xs,y::ys,h=>by simp only[ib,O7] at h;unfold Mx.D.gg;exact⟨tq h.1,lQ h.2⟩
end
theorem C3 {k:Mx.SK} {d:Mx.D} (h:Gp k d=true):k.ok d:=by
 unfold Gp at h;split at h
 ·have e:=Pw h;subst e;exact⟨_,_,rfl⟩
 ·have e:=Pw h;subst e;exact⟨_,_,rfl⟩
 ·have e:=Pw h;subst e;exact⟨_,_,rfl⟩
 ·have e:=Pw h;subst e;exact⟨_,rfl⟩
 ·have e:=Pw h;subst e;exact⟨_,rfl⟩
 ·cases h
theorem zC {ms:List Mx.D} (h:gS ms=true):Mx.jK ms:=by
 unfold gS at h;rw[O7,PY] at h;obtain⟨h1,h2⟩:=h;refine⟨O9 h1,λh3=>?_⟩;rcases h2 with h2 | h2
 ·have:=O9 h2
  lia
 ·rw[O7,O7] at h2;obtain⟨⟨h4,h5⟩,h6⟩:=h2;refine⟨O9 h4,?_,λd hd e he=>tq (PQ.mp (PQ.mp h6 d hd) e he)⟩;obtain⟨k,_,hk⟩:=List.any_eq_true.mp h5;exact⟨k,λd hd=>C3 (PQ.mp hk d hd)⟩
theorem mG:∀(ys:List Str) (y:Str),y∈dd ys↔y∈ys
 | [],y=>by simp[dd]
 | x::r,y=>by
  unfold dd;by_cases h:x∈dd r
  ·rw[if_pos h,mG r y,Pk];constructor
   ·exact .inr
   ·rintro(rfl | q)
    ·exact(mG r y).mp h
    ·exact q
  ·rw[if_neg h,Pk,Pk,mG r y]
theorem jS:∀ys:List Str,(dd ys).Nodup
 | []=>List.nodup_nil
 | x::r=>by
  unfold dd;by_cases h:x∈dd r
  ·rw[if_pos h];exact jS r
  ·rw[if_neg h];exact List.nodup_cons.mpr ⟨h,jS r⟩
theorem k8 {α:Type} [DecidableEq α] {a b:List α} (ha:a.Nodup) (hb:b.Nodup) (h:∀x,x∈a↔x∈b):a.Perm b:=by rw[List.perm_iff_count];intro x;rw[ha.count,hb.count];simp[h x]
theorem wg:∀ys:List Str,(dd ys).length<=ys.length
 | []=>Pd _
 | x::r=>by
  have:=wg r;unfold dd;by_cases h:x∈dd r
  ·rw[if_pos h,Pq];lia
  ·rw[if_neg h,Pq,Pq];lia
end
end Rx
end
section
namespace Rx
open PySem PySem.W PySem.Spec PyProof.Rows L2 PySem.SeqAt
section
variable {X:Cx}
noncomputable def EB:BI->Value
 | .len=> .builtin "len" | .sum=> .builtin "sum"
 | .maxL=> .builtin "max" | .sorted=> .builtin "sorted" | .tuple=> .type "tuple" | .list=> .type "list" | _=> .none
noncomputable def DW:BI->Bool
 | .isi _=>false | .sset=>false | .maxD _=>false | _=>true
theorem bM {K:Frag} {A:Addr->Prop} {H:Hp} {xs:List V} {d:Dt} (h:ao K A H xs [d]):∃x,xs=[x]/\RV K A H x d:=by obtain⟨x,r,rfl,h1,h2⟩:=h.cons_inv;rw[h2.nil_inv];exact⟨x,rfl,h1⟩
theorem zv (b:BI) (hr:DW b=true) (hc:X.calm=true) (hu:X.A.units + 150 < cLine):eR X (EB b) (rP X.K true (dG b)):=by
 intro pins s σ H xs us Q I r h;obtain⟨ds,d,hx,he,q⟩:=h;have FW:=bZ;unfold dG at he;split at he
 ·split at he
  ·obtain⟨g,he⟩:=aZ he;cases he;obtain⟨x,rfl,h1⟩:=bM hx;exact gR pins s σ H _ us Q I r ⟨x,_,rfl,by rw[h1.str_inv];exact⟨Pj (O9 g) FW,rfl⟩,q _ _ (PR.sc (d:= .int _) rfl)⟩
  ·cases he;obtain⟨x,rfl,h1⟩:=bM hx;obtain⟨a,ys,rfl,h2,_,h3⟩:=h1.lst_inv;exact gR pins s σ H _ us Q I r ⟨_,_,rfl,.inl ⟨ys,cT.of h2,rfl⟩,by rw[h3.length];exact q _ _ (PR.sc (d:= .int _) rfl)⟩
  ·cases he;obtain⟨x,rfl,h1⟩:=bM hx;obtain⟨a,ys,rfl,h2,h3⟩:=h1.ag;exact gR pins s σ H _ us Q I r ⟨_,_,rfl,.inr ⟨ys,d5.of h2,rfl⟩,by rw[h3.length];exact q _ _ (PR.sc (d:= .int _) rfl)⟩
  ·cases he;obtain⟨x,rfl,h1⟩:=bM hx;obtain⟨a,rfl,h2⟩:=h1.iX;exact gR pins s σ H _ us Q I r ⟨_,_,rfl,.inl ⟨_,h2,rfl⟩,by rw[Ph];exact q _ _ (PR.sc (d:= .int _) rfl)⟩
  ·cases he
 ·split at he
  ·split at he
   ·rename_i ns BC;cases he;obtain⟨x,rfl,h1⟩:=bM hx;obtain⟨a,ys,rfl,h2,_,h3⟩:=h1.lst_inv;rw[hJ h3 BC] at h2;exact Mx.vW hc pins s σ H _ us Q I r ⟨a,ns,rfl,cT.of h2,q _ _ (PR.sc (d:= .int _) rfl)⟩
   ·cases he
  ·cases he
 ·split at he
  ·rename_i d0;split at he
   ·rename_i es hes;split at he
    ·rename_i ms FY;obtain⟨g,he⟩:=aZ he;cases he;have cs:=zC g;obtain⟨x,rfl,h1⟩:=bM hx;have JH:=nq FY;have go:∀{a:Addr} {ys:List V},x= .ref a->(cT X.K H a ys\/d5 X.K H a ys)->ao X.K N0 H ys es->wpAny (model X.prog X.w) X.A (call (EB .sorted) us) (EP X pins σ Q) X.xe s:=by intro a ys ex hs g;subst ex;rw[JH] at g;refine Mx.mz hu pins s σ H _ us Q I r ⟨a,ys,ms,rfl,hs,g.uw,cs,λm zs qs hm hz hso=>q _ _ ?_⟩;have e:=pE hso;subst e;exact PR.o6 hm λA _=>ao.nk hz
     unfold itemsOf at hes;split at hes
     ·cases hes;obtain⟨a,ys,e1,h2,_,h3⟩:=h1.lst_inv;exact go e1 (.inl (cT.of h2)) h3
     ·cases hes;obtain⟨a,ys,e1,h2,h3⟩:=h1.ag;exact go e1 (.inr (d5.of h2)) h3
     ·cases hes;obtain⟨a,e1,h2⟩:=h1.iX;exact go e1 (.inl h2) g9
     ·cases hes
    ·cases he
   ·cases he
  ·cases he
 ·split at he
  ·cases he;obtain⟨x,rfl,h1⟩:=bM hx;obtain⟨a,ys,rfl,h2,_,h3⟩:=h1.lst_inv;exact f6 pins s σ H _ us Q I r ⟨a,ys,rfl,.inl ⟨cT.of h2,λl hl=>q _ _ (PR.Dj hl λA w=>eS.aN w.1 h2)⟩⟩
  ·cases he;obtain⟨x,rfl,h1⟩:=bM hx;obtain⟨a,ys,rfl,h2,h3⟩:=h1.ag;exact f6 pins s σ H _ us Q I r ⟨a,ys,rfl,.inr ⟨d5.of h2,q _ _ (PR.sZ h2 λA w=>eS.au w.1 h2)⟩⟩
  ·cases he
 ·split at he
  ·cases he;obtain⟨x,rfl,h1⟩:=bM hx;obtain⟨a,ys,rfl,h2,_,h3⟩:=h1.lst_inv;exact d6 pins s σ H _ us Q I r ⟨a,ys,rfl,.inl (cT.of h2),λl hl=>q _ _ (PR.o6 hl λA w=>eS.aN w.1 h2)⟩
  ·cases he;obtain⟨x,rfl,h1⟩:=bM hx;obtain⟨a,ys,rfl,h2,h3⟩:=h1.ag;exact d6 pins s σ H _ us Q I r ⟨a,ys,rfl,.inr (d5.of h2),λl hl=>q _ _ (PR.o6 hl λA w=>eS.au w.1 h2)⟩
  ·cases he;obtain⟨x,rfl,h1⟩:=bM hx;obtain⟨a,rfl,h2⟩:=h1.iX;exact d6 pins s σ H _ us Q I r ⟨a,_,rfl,.inl h2,λl hl=>q _ _ (PR.o6 hl λA w=>g9)⟩
  ·cases he
 ·cases hr
 ·split at he
  ·split at he
   ·rename_i ns BC;obtain⟨g,he⟩:=aZ he;cases he;obtain⟨x,rfl,h1⟩:=bM hx;obtain⟨a,ys,rfl,h2,_,h3⟩:=h1.lst_inv;rw[hJ h3 BC] at h2;have iM:ns≠[]:=λe=>by rw[e] at g;cases g
    refine Mx.um hc pins s σ H _ us Q I r ⟨a,ns,rfl,cT.of h2,iM,λm m1 m2=>?_⟩;have:=kb ns iM;have e:m=eL ns:=Int.le_antisymm (this.2 _ m1) (m2 _ this.1);rw[e];exact q _ _ (PR.sc (d:= .int _) rfl)
   ·cases he
  ·cases he
 ·cases hr
 ·cases hr
end
structure Fm where
 K:Frag
 H0:Hp
 d0:Option Addr
 Ek:Nat->Prop
structure Ow where
 W:Addr->Prop
 A:Addr->Prop
 dr:Option Addr
noncomputable def Ow.wd (o:Ow):Addr->Prop:=λa=>o.W a\/o.dr=some a
noncomputable def Ow.d (o:Ow):Addr->Prop:=λa=>o.dr=some a
noncomputable def OV (K:Frag) (H0:Hp) (o:Ow) (H:Hp) (v:V):Dt->Prop
 | .lst ds=>∃a xs,v= .ref a/\H a=some (.lst xs)/\o.A a/\¬o.W a/\o.dr≠some a/\H0 a=none/\ao K o.A H xs ds
 | d=>RV K o.A H v d
structure ER (Φ:Fm) (Γ:Gm) (o:Ow) (ρ:ak) (S:Sx) (σ:L2.St) (H:Hp):Prop where
 len:σ.length=ρ.length
 wa:∀a,o.W a->o.A a
 da:∀a,o.dr=some a->o.A a
 al:∀a,o.A a->∃x,H a=some x
 val:∀(i:Nat) (d:Dt),ρ[i]?=some (some d)->∃v,σ[i]?=some (some v)/\(if eJ Γ i=true then OV Φ.K Φ.H0 o H v d else RV Φ.K o.A H v d)
 inj:∀(i j:Nat) (a:Addr) (d e:List Dt),eJ Γ i=true->eJ Γ j=true->ρ[i]?=some (some (.lst d))->ρ[j]?=some (some (.lst e))->σ[i]?=some (some (.ref a))->σ[j]?=some (some (.ref a))->i=j
 drw:∀a,o.dr=some a->∃ns:List Int,S=some ns/\H a=some (.lst (ns.map V.int))
 drn:o.dr=none->S=none
 drs:∀(i:Nat) (a:Addr),Γ.δ=some i->o.dr=some a->σ[i]?=some (some (.ref a))
 dr0:∀a,o.dr=some a->Φ.d0=some a\/Φ.H0 a=none
 ent:aV (λb=>Φ.d0=some b) Φ.H0 H
section
variable {Φ:Fm} {Γ:Gm} {o:Ow} {ρ:ak} {S S':Sx} {σ:L2.St} {H H':Hp}
theorem OV.val {K:Frag} {H0:Hp} {v:V} {d:Dt} (h:OV K H0 o H v d) (wa:∀a,o.W a->o.A a) (da:∀a,o.dr=some a->o.A a):RV K o.wd H v d:=by
 have hw:∀b,o.wd b->o.A b:=λb z=>z.elim (wa b) (da b)
 cases d with
 | lst ds=>obtain⟨a,xs,rfl,h1,h2,h3,h4,_,h5⟩:=h;exact RV.ez h1 (λz=>z.elim h3 h4) (h5.weak hw)
 | _=>exact RV.weak h hw
theorem OV.one {K:Frag} {H0:Hp} {v:V} {d:Dt} (h:OV K H0 o H v d):eS K o.A H v d:=by
 cases d with
 | lst ds=>obtain⟨a,xs,rfl,h1,h2,h3,h4,_,h5⟩:=h;exact⟨a,xs,rfl,h1,h5⟩
 | _=>exact h
theorem OV.ext {K:Frag} {H0:Hp} {v:V} {d:Dt} (h:OV K H0 o H v d) (da:∀a,o.dr=some a->o.A a) (e:aV o.d H H'):OV K H0 o H' v d:=by
 cases d with
 | lst ds=>obtain⟨a,xs,rfl,h1,h2,h3,h4,h6,h5⟩:=h;exact⟨a,xs,rfl,e.kp _ _ h1 h4,h2,h3,h4,h6,h5.mono e da λ_ z=>z⟩
 | _=>exact RV.mono e da (λ_ z=>z) h
theorem ER.gJ (er:ER Φ Γ o ρ S σ H):∀b,o.wd b->o.A b:=λb z=>z.elim (er.wa b) (er.da b)
theorem ER.vD (er:ER Φ Γ o ρ S σ H):∀b,o.wd b->∃x,H b=some x:=λb z=>er.al b (er.gJ b z)
theorem aV.al {X:Addr->Prop} (e:aV X H H') {b:Addr} {x:HO} (h:H b=some x) (hx:X b->∃y,H' b=some y):∃y,H' b=some y:=by
 by_cases z:X b
 ·exact hx z
 ·exact⟨x,e.kp _ _ h z⟩
theorem ER.step (er:ER Φ Γ o ρ S σ H) (e:aV o.d H H') (hd:∀a,o.dr=some a->∃ns:List Int,S'=some ns/\H' a=some (.lst (ns.map V.int))) (hn:o.dr=none->S'=none):ER Φ Γ o ρ S' σ H' where
 len:=er.len
 wa:=er.wa
 da:=er.da
 al:=λa ha=>by obtain⟨x,hx⟩:=er.al a ha;exact e.al hx λz=>by obtain⟨ns,_,h⟩:=hd a z;exact⟨_,h⟩
 val:=λi d h=>by
  obtain⟨v,h1,h2⟩:=er.val i d h;refine⟨v,h1,?_⟩;by_cases m:eJ Γ i=true
  ·rw[if_pos m] at h2 ⊢;exact h2.ext er.da e
  ·rw[if_neg m] at h2 ⊢;exact h2.mono e er.da λ_ z=>z
 inj:=er.inj
 drw:=hd
 drn:=hn
 drs:=er.drs
 dr0:=er.dr0
 ent:=⟨λb x h n=>by
   refine e.kp _ _ (er.ent.kp b x h n) λz=>?_
   rcases er.dr0 b z with q | q
   ·exact n q
   ·(rw[h] at q;cases q),λb xs h=>e.tp _ _ (er.ent.tp b xs h)⟩
theorem ER.grow (er:ER Φ Γ o ρ S σ H) (s:bB H H'):ER Φ Γ o ρ S σ H':=er.step (aV.of_same s) (λa h=>by
 obtain⟨ns,h1,h2⟩:=er.drw a h;exact⟨ns,h1,s _ _ h2⟩) er.drn
end
noncomputable def mR (Ek:Nat->Prop) {α:Type} (r:R α) (P:α->Prop):Prop:=match r with
 | .ok a=>P a
 | .ex k=>Ek k
 | .bad=>False
section
variable {Ek:Nat->Prop} {α β:Type}
theorem ab {r:R α} {f:α->R β} {P:β->Prop}:mR Ek (r.bind f) P↔mR Ek r λa=>mR Ek (f a) P:=by cases r <;> rfl
theorem ae {r:R α} {P Q:α->Prop} (h:mR Ek r P) (hq:∀a,r= .ok a->P a->Q a):mR Ek r Q:=by
 cases r with
 | ok a=>exact hq a rfl h
 | ex k=>exact h
 | bad=>exact h
theorem aM {b:Bool} {r:R α} {P:α->Prop} (h:mR Ek (af b r) P):b=true/\mR Ek r P:=by
 cases b with
 | true=>exact⟨rfl,h⟩
 | false=>exact h.elim
end
structure EO (K:Frag) (fr:Nat->Bool) (o:Ow) (c:C) (H:Hp) (d:Dt) (v:V) (H':Hp):Prop where
 ext:aV o.d H H'
 val:RV K o.wd H' v d
 cQ:lk c=0->RV K o.A H' v d
 oh:lk c<=1->eS K o.A H' v d
 eI:fresh fr c=true->∀ds,d= .lst ds->∃a xs,v= .ref a/\H a=none/\H' a=some (.lst xs)/\ao K (λb=>o.wd b\/b=a) H' xs ds/\(lk c=0->ao K (λb=>o.A b\/b=a) H' xs ds)
structure MU (K:Frag) (o:Ow) (cs:Cs) (H:Hp) (ds:List Dt) (vs:List V) (H':Hp):Prop where
 ext:aV o.d H H'
 val:ao K o.wd H' vs ds
 cQ:lP cs=0->ao K o.A H' vs ds
 oh:lP cs<=1->ml K o.A H' vs ds
section
variable (Φ:Fm) (Γ:Gm) (F:FT) (fr:Nat->Bool)
noncomputable def bz (c:C):TE:=λσ H Q=>∃o ρ S,ER Φ Γ o ρ S σ H/\mR Φ.Ek (ev F c ρ S) λp=>∀v H',EO Φ.K fr o c H p.1 v H'->ER Φ Γ o ρ p.2 σ H'->Q v H'
noncomputable def fD (c:C):TT:=λσ H Q=>∃o ρ S,ER Φ Γ o ρ S σ H/\mR Φ.Ek (cN F c ρ S) λp=>∀H',aV o.d H H'->ER Φ Γ o ρ p.2 σ H'->Q p.1 H'
noncomputable def nS (cs:Cs):TA:=λσ H Q=>∃o ρ S,ER Φ Γ o ρ S σ H/\mR Φ.Ek (eZ F cs ρ S) λp=>∀vs H',MU Φ.K o cs H p.1 vs H'->ER Φ Γ o ρ p.2 σ H'->Q vs H'
noncomputable def pN (cs:Cs):TT:=λσ H Q=>∃o ρ S,ER Φ Γ o ρ S σ H/\mR Φ.Ek (cq F cs ρ S) λp=>∀H',aV o.d H H'->ER Φ Γ o ρ p.2 σ H'->Q p.1 H'
end
structure Wk (K:Frag) (A X:Addr->Prop) (J:It) (H:Hp) (ds:List Dt):Prop where
 go:∀(i:Nat) (H1:Hp),i < ds.length->aV X H H1->J.go i H1
 stop:∀(H1:Hp),aV X H H1->J.stop ds.length H1
 yld:∀(i:Nat) (x:V) (H1 H2:Hp),i < ds.length->aV X H H1->J.yld i H1 x H2->bB H1 H2/\∃d,ds[i]?=some d/\∀B:Addr->Prop,(∀b,B b->A b\/H b=none)->RV K B H2 x d
structure IO (K:Frag) (o:Ow) (it:ll) (nl:Bool) (H:Hp) (ds:List Dt) (J:It) (H':Hp):Prop where
 ext:aV o.d H H'
 w1:p5 it<=1->Wk K o.A o.d J H' ds
 w0:p5 it=0->Wk K o.A o.A J H' ds
 w2:nl=true->Wk K o.A o.A J H' ds
noncomputable def nR (Φ:Fm) (Γ:Gm) (F:FT) (it:ll):TI:=λσ H Q=>∃o ρ S,ER Φ Γ o ρ S σ H/\mR Φ.Ek (dM F it ρ S) λp=>∀J H',IO Φ.K o it (jV F it ρ S) H p.1 J H'->ER Φ Γ o ρ p.2 σ H'->Q J H'
structure GX (g:G) (Γ:Gm) (X:Cx):Prop where
 N:X.N=Γ.N
 nd:Γ.N.Nodup
 vis:∀x,yK (Γ.names.lookup x)=true->E7 X.env.scope x
 loc:∀x,xE (Γ.names.lookup x)=true->Loc X.env.scope x/\(X.fn x=true\/X.env.scope.names.lookup x=some .local)
 gl:∀x,uz (Γ.names.lookup x)=true->Gl X x
 fre:∀x,(Γ.names.lookup x=some .cell\/Γ.names.lookup x=some .free)->(X.env.scope.names.lookup x=some .cell\/X.env.scope.names.lookup x=some .free)
 calm:X.calm=true
 un:X.A.units + 150 < cLine
 con:∀x d,g.cons.lookup x=some d->∃u,og d=true/\X.mg x=some u/\RelV (p7 d) u
 bl:∀x∈g.bls,X.mg x=none
structure FO (K:Frag) (W:Addr->Prop) (dr:Option Addr) (fr:Bool) (H:Hp) (d:Dt) (S':Sx) (v:V) (H':Hp):Prop where
 ext:aV (λb=>dr=some b) H H'
 val:RV K W H' v d
 drw:∀a,dr=some a->∃ns:List Int,S'=some ns/\H' a=some (.lst (ns.map V.int))
 eI:fr=true->∀ds,d= .lst ds->∃a xs,v= .ref a/\H a=none/\H' a=some (.lst xs)/\ao K (λb=>W b\/b=a) H' xs ds
noncomputable def MK (K:Frag) (xv:Nat->Value) (F:List Dt->Sx->R (Dt×Sx)) (np:Nat) (fr ba:Bool):Sp:=λvs H Q E=>
 vs.length=np/\∃(W:Addr->Prop) (dr:Option Addr) (args:List Dt) (S:Sx) (vv:List V),
  (if ba=true then∃(a:Addr) (ns:List Int),vs= .ref a::vv/\dr=some a/\W a/\S=some ns/\H a=some (.lst (ns.map V.int)) else vs=vv/\dr=none/\S=none)/\
  ao K W H vv args/\(∀a,W a->∃x,H a=some x)/\
  match F args S with
  | .ok p=>∀v H',FO K W dr fr H p.1 p.2 v H'->Q v H'
  | .ex k=>∀H',aV (λb=>dr=some b) H H'->E (xv k) none H'
  | .bad=>False
noncomputable def lj (Φ:Fm) (xv:Nat->Value):XK:=λv _ H'=>∃k,v=xv k/\Φ.Ek k/\aV (λb=>Φ.d0=some b) Φ.H0 H'
structure FX (g:G) (xv:Nat->Value) (CX:jm) (P:Program) (w:World) (K:Frag) (mg:Str->Option Value) (base:Heap) (n k:Nat) (F:FT):Prop where
 fn:∀x f np eY ba,qz x g.fns=some (f,np,eY,ba)->∃(fa:Addr) (fd:FuncData) (ps:List Str),ps.length=np/\mg x=some (.ref fa)/\PySem.W.keepIn K (.ref fa)=true/\
  iH P w K mg base CX k fa fd ps (MK K xv (F f) np (g.fr f) ba)/\(∀j,j<=eY.length->∃ds,ar ((eY.drop j).map p7) ds/\Binds K fd ps ds)/\eY.all og=true
end Rx
end
section
namespace L2
open PySem PySem.Spec PyProof.Rows
abbrev Fg:List Value:=[.type "ValueError",.type "Exception",.type "BaseException",.type "object"]
structure E9 (K:PySem.W.Frag) (D:Addr):Prop where
 ga:PySem.W.findIn K (.ref D) "__getattribute__"=some (some (.builtin "BaseException.__getattribute__"))
 na:PySem.W.findIn K (.ref D) "__getattr__"=some none
 sb:PySem.W.subIn K (.ref D) (.type "BaseException")=some true
 fi:PySem.W.findIn K (.ref D) "__class__"=some (some (.builtin "object.__class__"))
 sp:PySem.W.specialIn K (.builtin "object.__class__") "__get__"=some (some (.builtin "getset_descriptor.__get__"))
 tk:PySem.W.takesIn K (.builtin "object.__class__")=some true
 mr:PySem.W.mroIn K D (.type "object")=some true
noncomputable def Jk (X:Cx) (st:Stmt) (t:TS):Prop:=∀(s:Shared) (σ:St) (H:Hp) (D:Ends),Inv X [] σ H s->t D σ H->wpAny (model X.prog X.w) X.A (exec st X.env) (SP X [] D) X.xe s
noncomputable def mf (X:Cx) (st:List Stmt) (t:TS):Prop:=∀(s:Shared) (σ:St) (H:Hp) (D:Ends),Inv X [] σ H s->t D σ H->wpAny (model X.prog X.w) X.A (execs st X.env) (SP X [] D) X.xe s
theorem DN {X:Cx} {st:Stmt} {t:TS} (h:PS X st t):Jk X st t:=λs σ H D=>h [] s σ H D
theorem AR {X:Cx} {st:List Stmt} {t:TS} (h:uf X st t):mf X st t:=λs σ H D=>h [] s σ H D
theorem u4 {X:Cx} {st:Stmt} {rest:List Stmt} {t u:TS} (h1:Jk X st t) (h2:mf X rest u):mf X (st::rest) (Hz t u):=by
 intro s σ H D I hq;refine wpAny_execs_cons (bq (h1 s σ H {D with nx:=u D} I hq) λf s1 z=>?_);cases f with
 | next=>obtain⟨σ1,H1,I1,q1⟩:=z;exact h2 s1 σ1 H1 D I1 q1
 | brk=>exact z
 | cont=>exact z
 | ret v=>exact z
theorem Cv {CX:jm} {P:Program} {w:World} {K:PySem.W.Frag} {mg:Str->Option Value} {base:Heap} {k:Nat} {f:Addr} {name qual:Str} {params:Arguments} {body:List Stmt} {scope:Scope} {dV kV doc pm eN ct oc:Value} {an od:Option Addr}
  {tD:Array (Option Value)} {N ps:List Str} {sp:Sp} (lk:K.lookup f=some ⟨oc,od,.func (PySem.W.fnOf name qual params body scope dV kV doc pm an eN ct),tD⟩) (y9:PySem.W.codeIn K eN qual=true) (S:dZ N ps scope)
  (len:∀vs H Q E,sp vs H Q E->vs.length=ps.length)
  (FK:∀(A:Around) (outer:List Env) (s:Shared) (H:Hp) (vs:List V) (Q:VK) (E:XK),gM k (A.deeper (envOfC qual scope s.heap.objs.size f eN))->sp vs H Q E->
   ∃t,mf (jR CX P w K mg base N qual scope f eN A outer s H E) body t/\t {nx:=λ_ H'=>Q .bg H',rt:=Q} (start N vs) H):
  iH P w K mg base CX (k + 1) f (PySem.W.fnOf name qual params body scope dV kV doc pm an eN ct) ps sp:=by
 refine⟨len,λA outer s H args us vs Q E hr e0 hb r n0=>?_⟩;have KX:K.In s.heap:=e0.mod.KC.keeps λb o e=>(e0.bs b o e).1
 have FU:∀y∈ps.zip us,scope.names.lookup y.1=some .local\/(scope.names.lookup y.1=some .cell/\((cellsFrom (s.heap.objs.size + 1) scope.names []).lookup y.1).isSome=true):=λ⟨n,v⟩ hy=>by
  rcases S.par n (List.of_mem_zip hy).1 with q | q
  ·exact .inl q
  ·exact .inr ⟨q,PySem.W.cellsFrom_some _ _ _ (.inl q)⟩
 refine codeAny_call_function hr.depth (KX _ _ lk) rfl S.co S.gen rfl (PySem.W.codeRec_of KX y9) (hb _ _ _ _ (wpAny_newFunctionEnv_cells S.kind FU λenv he s1 x=>?_));subst he;refine⟨(e0.mod.nolimit.keeps λb o e=>(e0.bs b o e).1).keeps x.toInCall.keep,codeAny_func ?_⟩;obtain⟨t,ht,hq⟩:=FK A outer s H vs Q E (hr.deeper _) n0;have I:Inv (jR CX P w K mg base N qual scope f eN A outer s H E) [] (start N vs) H s1:=uJ S hr.hd e0 (len _ _ _ _ n0) r x;refine wpAny_mono (ht s1 (start N vs) H _ I hq) (λfl s' hs=>?_) λe s' hs=>hs
 have fin:∀{σ':St} {H':Hp} {v:V} {u:Value},Inv (jR CX P w K mg base N qual scope f eN A outer s H E) [] σ' H' s'->RelV v u->Q v H'->CE outer P w H s Q u s':=
  λ {σ' H' v u} J rv q=>⟨v,H',J.os,J.bare,J.base,J.hok,rv,q⟩
 cases fl with
 | ret u=>obtain⟨v,σ',H',J,rv,q⟩:=hs;exact fin J rv q
 | next=>obtain⟨σ',H',J,q⟩:=hs;exact fin (v:=V.bg) (u:=Value.none) J rfl q
 | brk=>obtain⟨_,_,_,q⟩:=hs;exact q.elim
 | cont=>obtain⟨_,_,_,q⟩:=hs;exact q.elim
end L2
end
section
namespace Rx
open PySem PySem.W PySem.Spec PyProof.Rows L2 PySem.SeqAt
noncomputable def Jo (K:Frag) (mg:Str->Option Value) (C:Addr) (ts:List (Str×Bool)):Prop:=excIn K C Fg "ValueError.__new__"=true/\E9 K C/\
 ∀t b,ts.lookup t=some b->∃c,(mg t=some c/\(∃D,c= .ref D)\/mg t=none/\t="ValueError"/\c= .type "ValueError")/\kitOne K (.ref C) c=some b/\(b=true->exmOne K (.ref C) c=some true)
structure HX (g:G) (xv:Nat->Value) (CX:jm) (k:Nat) (F:FT) (Φ:Fm) (X:Cx):Prop where
 K:Φ.K=X.K
 fx:∃n,FX g xv CX X.prog X.w X.K X.mg X.base n k F
 room:gM k X.A
 cx:CX=nX X.prog X.w
 st:eU X
 xgx:∀e s',jL X (lj Φ xv) e s'->X.xe e s'
 xk:∀k x ts,g.xs[k]?=some (x,ts)->∃C,xv k= .ref C/\X.mg x=some (.ref C)/\Jo X.K X.mg C ts
theorem HX.pass {g:G} {xv:Nat->Value} {CX:jm} {k:Nat} {F:FT} {Φ:Fm} {X:Cx} (h:HX g xv CX k F Φ X):p9 CX X (lj Φ xv):=λpins σ H s e s' I c=>by have hc:=h.cx;subst hc;exact h.xgx e s' (yO I h.st.pn c)
theorem bc {X:Cx} {e:Expr} {t t':TE} (h:PE X e t) (hi:∀σ H Q,t' σ H Q->t σ H Q):PE X e t':=λpins s σ H Q I q=>h pins s σ H Q I (hi σ H Q q)
theorem rb {X:Cx} {e:Expr} {t t':TT} (h:PT X e t) (hi:∀σ H Q,t' σ H Q->t σ H Q):PT X e t':=λpins s σ H Q I q=>h pins s σ H Q I (hi σ H Q q)
theorem yb {X:Cx} {e:Expr} {t t':TT} (h:PW X e t) (hi:∀σ H Q,t' σ H Q->t σ H Q):PW X e t':=λwh pins s σ H Q I q=>h wh pins s σ H Q I (hi σ H Q q)
theorem xS {X:Cx} {e:List Expr} {t t':TA} (h:PA X e t) (hi:∀σ H Q,t' σ H Q->t σ H Q):PA X e t':=λpos pins s σ H Q I q=>h pos pins s σ H Q I (hi σ H Q q)
theorem nz {X:Cx} {tg e:Expr} {t t':TI} (h:PI X tg e t) (hi:∀σ H Q,t' σ H Q->t σ H Q):PI X tg e t':=λpins s σ H Q I q=>h pins s σ H Q I (hi σ H Q q)
section
variable {Φ:Fm} {Γ:Gm} {F:FT} {fr:Nat->Bool} {o:Ow} {ρ:ak} {S:Sx} {σ:L2.St} {H H':Hp}
theorem EO.sc {c:C} {d:Dt} (h:og d=true):EO Φ.K fr o c H d (p7 d) H:=⟨aV.refl,pA h,λ_=>pA h,λ_=>(pA h).one,λ_ ds e=>by subst e;simp[og] at h⟩
theorem EO.qx {c:C} {d:Dt} {v:V} {H1:Hp} (e:aV o.d H H1) (h:EO Φ.K fr o c H1 d v H') (hf:fresh fr c=true->∀ds,d= .lst ds->∀a,H1 a=none->H a=none):EO Φ.K fr o c H d v H':=
 ⟨e.trans h.ext,h.val,h.cQ,h.oh,λf ds ed=>by
  obtain⟨a,xs,h1,h2,h3⟩:=h.eI f ds ed;exact⟨a,xs,h1,hf f ds ed a h2,h3⟩⟩
theorem wA {X:Addr->Prop} {H1:Hp} (e:aV X H H1) (hx:∀b,X b->∃y,H1 b=some y) {a:Addr} (h:H1 a=none):H a=none:=by
 cases q:H a with
 | none=>rfl
 | some x=>obtain⟨y,z⟩:=e.al q (hx a);rw[h] at z;cases z
theorem ER.dU {S1:Sx} {H1:Hp} (aA:ER Φ Γ o ρ S1 σ H1) (e:aV o.d H H1) {a:Addr} (h:H1 a=none):H a=none:=wA e (λb z=>aA.al b (aA.da b z)) h
theorem EO.keep {c:C} {d:Dt} {v:V} {H1 H2:Hp} (h:EO Φ.K fr o c H d v H1) (e:aV o.d H1 H2) (wa:∀b,o.wd b->o.A b):RV Φ.K o.wd H2 v d/\(lk c=0->RV Φ.K o.A H2 v d)/\(lk c<=1->eS Φ.K o.A H2 v d):=by
 have hd:∀b,o.d b->o.wd b:=λb z=> .inr z
 refine⟨h.val.mono e hd λ_ z=>z,λl=>(h.cQ l).mono e (λb z=>wa b (hd b z)) λ_ z=>z,λl=>?_⟩;refine(h.oh l).ext e (λb z=>wa b (hd b z)) λds a ed ev z=>?_
 subst ed ev;obtain⟨b,xs,q,_,n,_⟩:=h.val.lst_inv;cases q;exact n (.inr z)
theorem EO.pr {c:C} {xs:List V} {ds:List Dt} {d:Dt} {v:V} {H1 H2:Hp} {S1:Sx} {f:Bool} (aA:ER Φ Γ o ρ S1 σ H1) (e:aV o.d H H1) (hv:ao Φ.K o.wd H1 xs ds) (h1:lk c<=1->ml Φ.K o.A H1 xs ds) (hl:lk c=0\/lk c=2)
  (pr:PR Φ.K f xs ds H1 d v H2) (hf:fresh fr c=true->f=true):EO Φ.K fr o c H d v H2/\ER Φ Γ o ρ S1 σ H2:=by
 have q0:lk c=0->RV Φ.K o.A H2 v d:=λl=>pr.val o.A aA.al (h1 (by lia))
 refine⟨⟨e.trans (aV.of_same pr.same),pr.val o.wd aA.vD hv.ones,q0,λl=>(q0 (by lia)).one,λfc es ed=>?_⟩,aA.grow pr.same⟩;obtain⟨a,ys,k1,k2,k3,k4⟩:=pr.eI (hf fc) es ed;exact⟨a,ys,k1,aA.dU e k2,k3,k4 o.wd aA.vD hv.ones,λl=>k4 o.A aA.al (h1 (by lia))⟩
theorem ik {A:Addr->Prop} {K:Frag} {v:V} {d:Dt} (h:RV K A H v d):RV K N0 H v d:=h.weak λ_ z=>z.elim
theorem Di {A:Addr->Prop} {K:Frag} {v:List V} {d:List Dt} (h:ao K A H v d):ao K N0 H v d:=h.weak λ_ z=>z.elim
end
section
variable {X:Cx} {Φ:Fm} {Γ:Gm} {F:FT} {fr:Nat->Bool} {g:G}
theorem pB {e:Expr} {d:Dt} (hd:og d=true) (h:PE X e (tC (p7 d))):PE X e (bz Φ Γ F fr (.con d)):=bc h λσ H Q q=>by obtain⟨o,ρ,S,er,q⟩:=q;exact q _ _ (EO.sc hd) er
theorem mP {Ek:Nat->Prop} {ρ:ak} {i:Nat} {P:Dt->Prop} (h:mR Ek (fk ρ i) P):∃d,ρ[i]?=some (some d)/\P d:=by
 unfold fk at h;split at h
 ·exact⟨_,by assumption,h⟩
 ·exact h.elim
theorem Hf {e:Expr} {i:Nat} (h:PE X e (lg i)) (hm:eJ Γ i=false):PE X e (bz Φ Γ F fr (.var i)):=bc h λσ H Q q=>by obtain⟨o,ρ,S,er,q⟩:=q;unfold ev at q;rw[ab] at q;obtain⟨d,hd,q⟩:=mP q;obtain⟨v,h1,h2⟩:=er.val i d hd;rw[hm,if_neg (by simp)] at h2;exact⟨v,h1,q v H ⟨aV.refl,h2.weak er.gJ,λ_=>h2,λ_=>h2.one,λz=>by simp[fresh] at z⟩ er⟩
theorem G9 {e:Expr} {i:Nat} (h:PE X e (lg i)) (hm:eJ Γ i=true):PE X e (bz Φ Γ F fr (.mvr i)):=bc h λσ H Q q=>by obtain⟨o,ρ,S,er,q⟩:=q;unfold ev at q;rw[ab] at q;obtain⟨d,hd,q⟩:=mP q;obtain⟨v,h1,h2⟩:=er.val i d hd;rw[hm,if_pos rfl] at h2;exact⟨v,h1,q v H ⟨aV.refl,h2.val er.wa er.da,λz=>by simp[lk] at z,λ_=>h2.one,λz=>by simp[fresh] at z⟩ er⟩
theorem jC {Ek:Nat->Prop} {r:R Dt} {P:Dt->Prop} (iM:∀k,r≠ .ex k) (h:mR Ek r P):∃d,r= .ok d/\P d:=by
 cases r with
 | ok a=>exact⟨a,rfl,h⟩
 | ex k=>exact absurd rfl (iM k)
 | bad=>exact h.elim
theorem cL {b:Bool} {α:Type} {r:R α} (h:∀k,r≠ .ex k):∀k,af b r≠ .ex k:=by
 intro k;cases b
 ·intro z;cases z
 ·exact h k
theorem Dp (o:Operator) (d e:Dt):∀k,pe o d e≠ .ex k:=by intro k;unfold pe;split <;> first | (intro z;cases z;done) | (split <;> first | (intro z;cases z;done) | (exact cL (λk z=>by cases z) k))
theorem sr (o:CmpOp) (d e:Dt):∀k,cO o d e≠ .ex k:=by intro k;unfold cO;split <;> first | (intro z;cases z;done) | (exact cL (λk z=>by cases z) k)
theorem qc (ds:List Dt) (i:Int):∀k,uh ds i≠ .ex k:=by intro k;unfold uh;split <;> (intro z;cases z)
theorem Af (d e:Dt):∀k,cP d e≠ .ex k:=by
 intro k;unfold cP;split
 ·exact qc _ _ k
 ·exact qc _ _ k
 ·exact qc _ _ k
 ·exact cL (λk=>by split <;> (intro z;cases z)) k
 ·intro z;cases z
theorem A6 (d:Dt) (lo hi:Option Int):∀k,iA d lo hi≠ .ex k:=by intro k;unfold iA;split <;> first | (intro z;cases z;done) | (exact cL (λk z=>by cases z) k)
theorem Bc (d:Dt):∀k,du d≠ .ex k:=by intro k;unfold du;split <;> first | (intro z;cases z;done) | (exact cL (λk z=>by cases z) k)
theorem ij {Ek:Nat->Prop} {r:R Bool} {P:Bool->Prop} (iM:∀k,r≠ .ex k) (h:mR Ek r P):∃d,r= .ok d/\P d:=by
 cases r with
 | ok a=>exact⟨a,rfl,h⟩
 | ex k=>exact absurd rfl (iM k)
 | bad=>exact h.elim
theorem qO {op:Operator} {a b:C}:(lk (.bin op a b)=0\/lk (.bin op a b)=2)/\(lk (.bin op a b)<=1->lk a<=1/\lk b<=1):=by
 have e:lk (.bin op a b)=if lk a<=1/\lk b<=1 then 0 else 2:=by rw[lk]
 rw[e];split
 ·rename_i h;exact⟨.inl rfl,λ_=>h⟩
 ·exact⟨.inr rfl,λz=>by lia⟩
theorem G4 {a b:Expr} {a' b':C} {op:Operator} {pos:Pos} (hK:Φ.K=X.K) (ha:PE X a (bz Φ Γ F fr a')) (hb:PE X b (bz Φ Γ F fr b')):PE X (.BinOp a op b pos) (bz Φ Γ F fr (.bin op a' b')):=bc (GU (Dr op) ha hb) λσ H Q q=>by
 obtain⟨o,ρ,S,er,q⟩:=q;unfold ev at q;rw[ab] at q;refine⟨o,ρ,S,er,ae q λp _ q x H1 aY aA=>?_⟩;rw[ab] at q;refine⟨o,ρ,p.2,aA,ae q λp2 _ q y H2 eo2 fW=>?_⟩;rw[ab] at q;obtain⟨z,hz,q⟩:=jC (Dp _ _ _) q;obtain⟨k1,k2,k3⟩:=aY.keep eo2.ext er.gJ;refine⟨p.1,p2.1,z,hK▸ik k1,hK▸ik eo2.val,hz,λv H3 pr=>?_⟩;rw[<-hK] at pr;obtain⟨e1,e2⟩:=EO.pr (fr:=fr) (H:=H) (c:= .bin op a' b') fW (aY.ext.trans eo2.ext) (ao.cons k1 (ao.cons eo2.val ao.nil)) (λl=>⟨k3 (qO.2 l).1,eo2.oh (qO.2 l).2,trivial⟩) qO.1 pr λ_=>rfl
 exact q v H3 e1 e2
theorem G5 {a b:Expr} {a' b':C} {op:CmpOp} {pos:Pos} (hK:Φ.K=X.K) (hu:X.A.units + 150 < cLine) (hm:behindInMarks op b=false) (ha:PE X a (bz Φ Γ F fr a')) (hb:PE X b (bz Φ Γ F fr b')):PE X (.Compare a [op] [b] pos) (bz Φ Γ F fr (.cmp op a' b')):=bc (AG (xR op hu) ha hb hm) λσ H Q q=>by obtain⟨o,ρ,S,er,q⟩:=q;unfold ev at q;rw[ab] at q;refine⟨o,ρ,S,er,ae q λp _ q x H1 aY aA=>?_⟩;rw[ab] at q;refine⟨o,ρ,p.2,aA,ae q λp2 _ q y H2 eo2 fW=>?_⟩;rw[ab] at q;obtain⟨z,hz,q⟩:=ij (sr _ _ _) q;obtain⟨k1,k2,k3⟩:=aY.keep eo2.ext er.gJ;refine⟨p.1,p2.1,z,hK▸ik k1,hK▸ik eo2.val,hz,q _ _ ?_ fW⟩;have:=EO.sc (Φ:=Φ) (fr:=fr) (o:=o) (H:=H2) (c:= .cmp op a' b') (d:= .bl z) rfl;exact this.qx (aY.ext.trans eo2.ext) λf=>by simp[fresh] at f
theorem D3 {a b:Expr} {a' b':C} {op:CmpOp} {pos:Pos} (hK:Φ.K=X.K) (hu:X.A.units + 150 < cLine) (hm:behindInMarks op b=false) (ha:PE X a (bz Φ Γ F fr a')) (hb:PE X b (bz Φ Γ F fr b')):PT X (.Compare a [op] [b] pos) (fD Φ Γ F (.cmp op a' b')):=rb (AU (xR op hu) ha hb hm) λσ H Q q=>by obtain⟨o,ρ,S,er,q⟩:=q;unfold cN at q;rw[ab] at q;refine⟨o,ρ,S,er,ae q λp _ q x H1 aY aA=>?_⟩;rw[ab] at q;refine⟨o,ρ,p.2,aA,ae q λp2 _ q y H2 eo2 fW=>?_⟩;rw[ab] at q;obtain⟨z,hz,q⟩:=ij (sr _ _ _) q;obtain⟨k1,k2,k3⟩:=aY.keep eo2.ext er.gJ;exact⟨p.1,p2.1,z,hK▸ik k1,hK▸ik eo2.val,hz,z,rfl,q _ (aY.ext.trans eo2.ext) fW⟩
end
section
variable {X:Cx} {Φ:Fm} {Γ:Gm} {F:FT} {fr:Nat->Bool} {g:G}
theorem ao.emp {K:Frag} {A:Addr->Prop} {H:Hp} {xs:List V} {ds:List Dt} (h:ao K A H xs ds):ds.isEmpty=xs.isEmpty:=by
 have:=h.length;cases xs with
 | nil=>cases ds with
  | nil=>rfl
  | cons=>simp at this
 | cons=>cases ds with
  | nil=>simp at this
  | cons=>rfl
theorem Ha {a:Expr} {a':C} {pos:Pos} (ha:PE X a (bz Φ Γ F fr a')):PE X (.UnaryOp .USub a pos) (bz Φ Γ F fr (.neg a')):=bc (GW Ep ha) λσ H Q q=>by
 obtain⟨o,ρ,S,er,q⟩:=q;unfold ev at q;rw[ab] at q;refine⟨o,ρ,S,er,ae q λp _ q x H1 aY aA=>?_⟩;split at q
 ·rename_i i hi;have:=aY.val;rw[hi] at this;refine⟨i,this.int_inv,q _ _ ?_ aA⟩;exact(EO.sc (Φ:=Φ) (fr:=fr) (o:=o) (H:=H1) (c:= .neg a') (d:= .int (-i)) rfl).qx aY.ext λf=>by simp[fresh] at f
 ·exact q.elim
theorem Lm {a:Expr} {a':C} {pos:Pos} (ha:PE X a (bz Φ Γ F fr a')):PE X (.UnaryOp .Not a pos) (bz Φ Γ F fr (.nt a')):=bc (DF ha) λσ H Q q=>by
 obtain⟨o,ρ,S,er,q⟩:=q;unfold ev at q;rw[ab] at q;refine⟨o,ρ,S,er,ae q λp _ q x H1 aY aA=>?_⟩;split at q
 ·rename_i i hi;have:=aY.val;rw[hi] at this;refine⟨i,this.ay,q _ _ ?_ aA⟩;exact(EO.sc (Φ:=Φ) (fr:=fr) (o:=o) (H:=H1) (c:= .nt a') (d:= .bl (!i)) rfl).qx aY.ext λf=>by simp[fresh] at f
 ·exact q.elim
theorem Hc {a:Expr} {a':C} {pos:Pos} (ha:PT X a (fD Φ Γ F a')):PT X (.UnaryOp .Not a pos) (fD Φ Γ F (.nt a')):=rb (DQ ha) λσ H Q q=>by obtain⟨o,ρ,S,er,q⟩:=q;unfold cN at q;rw[ab] at q;exact⟨o,ρ,S,er,ae q λp _ q H1 e1 aA=>q _ e1 aA⟩
theorem G3 {a b:Expr} {rest:List Expr} {a' b':C} {pos:Pos} (ha:PE X a (bz Φ Γ F fr a')) (hb:PE X (.BoolOp .And (b::rest) pos) (bz Φ Γ F fr b')):PE X (.BoolOp .And (a::b::rest) pos) (bz Φ Γ F fr (.and a' b')):=bc (DB ha hb) λσ H Q q=>by
 obtain⟨o,ρ,S,er,q⟩:=q;unfold ev at q;rw[ab] at q;refine⟨o,ρ,S,er,ae q λp _ q x H1 aY aA=>?_⟩;have sc:∀(H3:Hp) (t:Bool),aV o.d H H3->EO Φ.K fr o (.and a' b') H (.bl t) (.bl t) H3:=λH3 t e3=>
  (EO.sc (Φ:=Φ) (fr:=fr) (o:=o) (H:=H3) (c:= .and a' b') (d:= .bl t) rfl).qx e3 λf=>by simp[fresh] at f
 split at q
 ·rename_i hi;have:=aY.val;rw[hi] at this;refine⟨true,this.ay,?_⟩;rw[ab] at q;refine⟨o,ρ,p.2,aA,ae q λp2 _ q y H2 eo2 fW=>?_⟩;split at q
  ·rename_i c hc;have h2:=eo2.val;rw[hc] at h2;rw[h2.ay];exact q _ _ (sc H2 c (aY.ext.trans eo2.ext)) fW
  ·exact q.elim
 ·rename_i hi;have:=aY.val;rw[hi] at this;exact⟨false,this.ay,q _ _ (sc H1 false aY.ext) aA⟩
 ·exact q.elim
theorem Ln {a b:Expr} {rest:List Expr} {a' b':C} {pos:Pos} (ha:PE X a (bz Φ Γ F fr a')) (hb:PE X (.BoolOp .Or (b::rest) pos) (bz Φ Γ F fr b')):PE X (.BoolOp .Or (a::b::rest) pos) (bz Φ Γ F fr (.or a' b')):=bc (GV ha hb) λσ H Q q=>by
 obtain⟨o,ρ,S,er,q⟩:=q;unfold ev at q;rw[ab] at q;refine⟨o,ρ,S,er,ae q λp _ q x H1 aY aA=>?_⟩;have sc:∀(H3:Hp) (t:Bool),aV o.d H H3->EO Φ.K fr o (.or a' b') H (.bl t) (.bl t) H3:=λH3 t e3=>
  (EO.sc (Φ:=Φ) (fr:=fr) (o:=o) (H:=H3) (c:= .or a' b') (d:= .bl t) rfl).qx e3 λf=>by simp[fresh] at f
 split at q
 ·rename_i hi;have:=aY.val;rw[hi] at this;refine⟨false,this.ay,?_⟩;rw[ab] at q;refine⟨o,ρ,p.2,aA,ae q λp2 _ q y H2 eo2 fW=>?_⟩;split at q
  ·rename_i c hc;have h2:=eo2.val;rw[hc] at h2;rw[h2.ay];exact q _ _ (sc H2 c (aY.ext.trans eo2.ext)) fW
  ·exact q.elim
 ·rename_i hi;have:=aY.val;rw[hi] at this;exact⟨true,this.ay,q _ _ (sc H1 true aY.ext) aA⟩
 ·exact q.elim
theorem D2 {a b:Expr} {rest:List Expr} {a' b':C} {pos:Pos} (ha:PT X a (fD Φ Γ F a')) (hb:PW X (.BoolOp .And (b::rest) pos) (fD Φ Γ F b')):PW X (.BoolOp .And (a::b::rest) pos) (fD Φ Γ F (.and a' b')):=yb (DR ha hb) λσ H Q q=>by
 obtain⟨o,ρ,S,er,q⟩:=q;unfold cN at q;rw[ab] at q;refine⟨o,ρ,S,er,ae q λp _ q H1 e1 aA=>?_⟩;cases hp:p.1 with
 | true=>rw[hp] at q;rw[if_pos rfl];exact⟨o,ρ,p.2,aA,ae q λp2 _ q H2 e2 fW=>q _ (e1.trans e2) fW⟩
 | false=>rw[hp] at q;rw[if_neg (by simp)];exact q _ e1 aA
theorem Hd {a b:Expr} {rest:List Expr} {a' b':C} {pos:Pos} (ha:PT X a (fD Φ Γ F a')) (hb:PW X (.BoolOp .Or (b::rest) pos) (fD Φ Γ F b')):PW X (.BoolOp .Or (a::b::rest) pos) (fD Φ Γ F (.or a' b')):=yb (GZ ha hb) λσ H Q q=>by
 obtain⟨o,ρ,S,er,q⟩:=q;unfold cN at q;rw[ab] at q;refine⟨o,ρ,S,er,ae q λp _ q H1 e1 aA=>?_⟩;cases hp:p.1 with
 | false=>rw[hp] at q;rw[if_neg (by simp)];exact⟨o,ρ,p.2,aA,ae q λp2 _ q H2 e2 fW=>q _ (e1.trans e2) fW⟩
 | true=>rw[hp] at q;rw[if_pos rfl];exact q _ e1 aA
theorem xD {a b:C}:(lk (.idx a b)=0\/lk (.idx a b)=2)/\(lk (.idx a b)<=1->lk a<=1):=by
 have e:lk (.idx a b)=if lk a<=1 then 0 else 2:=by rw[lk]
 rw[e];split
 ·rename_i h;exact⟨.inl rfl,λ_=>h⟩
 ·exact⟨.inr rfl,λz=>by lia⟩
theorem G6 {a b:Expr} {a' b':C} {pos:Pos} (hK:Φ.K=X.K) (hs:mh b) (ha:PE X a (bz Φ Γ F fr a')) (hb:PE X b (bz Φ Γ F fr b')):PE X (.Subscript a b pos) (bz Φ Γ F fr (.idx a' b')):=bc (GT C0 ha hb hs) λσ H Q q=>by
 obtain⟨o,ρ,S,er,q⟩:=q;unfold ev at q;rw[ab] at q;refine⟨o,ρ,S,er,ae q λp _ q x H1 aY aA=>?_⟩;rw[ab] at q;refine⟨o,ρ,p.2,aA,ae q λp2 _ q y H2 eo2 fW=>?_⟩;rw[ab] at q;obtain⟨z,hz,q⟩:=jC (Af _ _) q;obtain⟨k1,k2,k3⟩:=aY.keep eo2.ext er.gJ;refine⟨p.1,p2.1,z,hK▸ik k1,hK▸ik eo2.val,hz,λv pr=>?_⟩;rw[<-hK] at pr;have Nh:∃i,p2.1= .int i:=by
  cases hd:p2.1 with
  | int i=>exact⟨i,rfl⟩
  | _=>rw[hd] at hz;unfold cP at hz;split at hz <;> first | (rename_i h;cases h;done) | (cases hz;done) | contradiction
 obtain⟨i,hi⟩:=Nh;have v2:∀A:Addr->Prop,eS Φ.K A H2 y p2.1:=λA=>by have:=eo2.val;rw[hi] at this ⊢;rw[this.int_inv];exact(RV.c7 (K:=Φ.K) (A:=A)).one
 obtain⟨e1,e2⟩:=EO.pr (fr:=fr) (H:=H) (c:= .idx a' b') fW (aY.ext.trans eo2.ext) (ao.cons k1 (ao.cons eo2.val ao.nil)) (λl=>⟨k3 (xD.2 l),v2 _,trivial⟩) xD.1 pr λz=>by simp[fresh] at z
 exact q v H2 e1 e2
theorem iy {a:Expr} {a':C} (hK:Φ.K=X.K) (ha:PE X a (bz Φ Γ F fr a')) (he:∀whole,isTrue a X.env whole=(do let v<-whole;standAt a.pos;holding [v] (truthy v)))
  (Mb:∀ρ S,cN F a' ρ S=(ev F a' ρ S).bind λx=>(du x.1).bind λb=> .ok (b,x.2)):PT X a (fD Φ Γ F a'):=rb (ya ha he) λσ H Q q=>by
 obtain⟨o,ρ,S,er,q⟩:=q;rw[Mb,ab] at q;refine⟨o,ρ,S,er,ae q λp _ q x H1 aY aA=>?_⟩;rw[ab] at q;obtain⟨b,hb,q⟩:=ij (Bc _) q;refine⟨b,?_,q _ aY.ext aA⟩;have hv:=aY.val;rw[hK] at hv;unfold du at hb;split at hb
 ·rename_i hd;rw[hd] at hv;cases hb;rw[hv.aC];rfl
 ·rename_i hd;rw[hd] at hv;cases hb;rw[hv.ay];rfl
 ·rename_i hd;rw[hd] at hv;cases hb;rw[hv.int_inv];rfl
 ·rename_i hd;rw[hd] at hv;obtain⟨g1,hb⟩:=aZ hb;cases hb;rw[hv.str_inv];exact⟨Pj (O9 g1) bZ,rfl⟩
 ·rename_i hd;rw[hd] at hv;cases hb;obtain⟨a,xs,rfl,h1,_,h2⟩:=hv.lst_inv;refine .inl ⟨xs,cT.of h1,?_⟩;rw[h2.emp]
 ·rename_i hd;rw[hd] at hv;cases hb;obtain⟨a,xs,rfl,h1,h2⟩:=hv.ag;refine .inr (.inl ⟨xs,d5.of h1,?_⟩);rw[h2.emp]
 ·rename_i hd;rw[hd] at hv;cases hb;obtain⟨a,rfl,h1⟩:=hv.iX;refine .inl ⟨_,h1,?_⟩;simp
 ·cases hb
end
section
variable {X:Cx} {Φ:Fm} {Γ:Gm} {F:FT} {fr:Nat->Bool} {g:G}
theorem Da {a b:C} {c:C} (hc:lk c=if lk a<=1 then 0 else 2):(lk c=0\/lk c=2)/\(lk c<=1->lk a<=1):=by
 rw[hc];split
 ·rename_i h;exact⟨.inl rfl,λ_=>h⟩
 ·exact⟨.inr rfl,λz=>by lia⟩
theorem sH {o:Ow} {ρ:ak} {S:Sx} {σ:L2.St} {H H1 H2:Hp} {a' c:C} {d:Dt} {x:V} {lo hi:Option Int} {Q:VK} (hK:Φ.K=X.K) (hc:lk c=if lk a'<=1 then 0 else 2) (hf:fresh fr c=true->True) (er:ER Φ Γ o ρ S σ H2) (aY:EO Φ.K fr o a' H d x H1) (e:aV o.d H1 H2)
  (q:mR Φ.Ek (iA d lo hi) λz=>∀v H3,EO Φ.K fr o c H z v H3->ER Φ Γ o ρ S σ H3->Q v H3):rS X.K x lo hi H2 Q:=by
 obtain⟨z,hz,q⟩:=jC (A6 _ _ _) q;obtain⟨k1,k2,k3⟩:=aY.keep e er.gJ;refine⟨d,z,hK▸ik k1,hz,λv H3 pr=>?_⟩;rw[<-hK] at pr;have hl:=Da (b:=c) hc;obtain⟨e1,e2⟩:=EO.pr (fr:=fr) (H:=H) (c:=c) er (aY.ext.trans e) (ao.cons k1 ao.nil) (λl=>⟨k3 (hl.2 l),trivial⟩) hl.1 pr λ_=>rfl
 exact q v H3 e1 e2
theorem D9 {a l:Expr} {a' l':C} {p2 pos:Pos} (hK:Φ.K=X.K) (ha:PE X a (bz Φ Γ F fr a')) (hl:PE X l (bz Φ Γ F fr l')):PE X (.Subscript a (.Slice (some l) none none p2) pos) (bz Φ Γ F fr (.sliL a' l')):=bc (pj yq ha (tI hl) tH) λσ H Q q=>by
 obtain⟨o,ρ,S,er,q⟩:=q;unfold ev at q;rw[ab] at q;refine⟨o,ρ,S,er,ae q λp _ q x H1 aY aA=>?_⟩;rw[ab] at q;refine⟨o,ρ,p.2,aA,ae q λp2 _ q y H2 eo2 fW=>?_⟩;split at q
 ·rename_i i hi;have hv:=eo2.val;rw[hi] at hv;refine⟨i,hv.int_inv,?_⟩;rw[ab] at q;exact sH hK (by rw[lk]) (λ_=>trivial) fW aY eo2.ext (ae q λz _ q v H3 e1 e2=>q v H3 e1 e2)
 ·exact q.elim
theorem D8 {a l:Expr} {a' l':C} {p2 pos:Pos} (hK:Φ.K=X.K) (ha:PE X a (bz Φ Γ F fr a')) (hl:PE X l (bz Φ Γ F fr l')):PE X (.Subscript a (.Slice none (some l) none p2) pos) (bz Φ Γ F fr (.sliH a' l')):=bc (pj yq ha tH (tI hl)) λσ H Q q=>by
 obtain⟨o,ρ,S,er,q⟩:=q;unfold ev at q;rw[ab] at q;refine⟨o,ρ,S,er,ae q λp _ q x H1 aY aA=>?_⟩;rw[ab] at q;refine⟨o,ρ,p.2,aA,ae q λp2 _ q y H2 eo2 fW=>?_⟩;split at q
 ·rename_i i hi;have hv:=eo2.val;rw[hi] at hv;refine⟨i,hv.int_inv,?_⟩;rw[ab] at q;exact sH hK (by rw[lk]) (λ_=>trivial) fW aY eo2.ext (ae q λz _ q v H3 e1 e2=>q v H3 e1 e2)
 ·exact q.elim
theorem Hb:PA X [] (nS Φ Γ F .nil):=xS fz λσ H Q q=>by obtain⟨o,ρ,S,er,q⟩:=q;exact q _ _ ⟨aV.refl,ao.nil,λ_=>ao.nil,λ_=>trivial⟩ er
theorem D4 {e:Expr} {es:List Expr} {c:C} {cs:Cs} (hs:starEach (e::es) X.env=(false,eval e X.env)::starEach es X.env) (h:PE X e (bz Φ Γ F fr c)) (hr:PA X es (nS Φ Γ F cs)):PA X (e::es) (nS Φ Γ F (.cons c cs)):=xS (cG h hr hs) λσ H Q q=>by
 obtain⟨o,ρ,S,er,q⟩:=q;unfold eZ at q;rw[ab] at q;refine⟨o,ρ,S,er,ae q λp _ q x H1 aY aA=>?_⟩;rw[ab] at q;refine⟨o,ρ,p.2,aA,ae q λp2 _ q xs H2 eo2 fW=>?_⟩;obtain⟨k1,k2,k3⟩:=aY.keep eo2.ext er.gJ;have el:lP (.cons c cs)=max (lk c) (lP cs):=by rw[lP]
 exact q _ _ ⟨aY.ext.trans eo2.ext,ao.cons k1 eo2.val,λl=>ao.cons (k2 (by lia)) (eo2.cQ (by lia)),λl=>⟨k3 (by lia),eo2.oh (by lia)⟩⟩ fW
theorem BF {cs:Cs} {c:C} (hc:lk c=if lP cs=0 then 0 else 2):(lk c<=1->lk c=0)/\(lk c=0->lP cs=0):=by
 rw[hc];split
 ·rename_i h;exact⟨λ_=>rfl,λ_=>h⟩
 ·exact⟨λz=>by lia,λz=>by lia⟩
theorem He {es:List Expr} {cs:Cs} {x1:Nat} {pos:Pos} (h:PA X es (nS Φ Γ F cs)):PE X (.Tuple es x1 pos) (bz Φ Γ F fr (.tup cs)):=bc (DI h) λσ H Q q=>by
 obtain⟨o,ρ,S,er,q⟩:=q;unfold ev at q;rw[ab] at q;refine⟨o,ρ,S,er,ae q λp _ q xs H1 aY aA=>?_⟩;obtain⟨g1,q⟩:=aM q;refine⟨by rw[aY.val.length];exact Pj (O9 g1) bZ,λa ha=>?_⟩;have s:=Mx.cM ha (.tup xs);have hl:=BF (cs:=cs) (c:= .tup cs) (by rw[lk]);have q0:lk (.tup cs)=0->RV Φ.K o.A (upd H1 a (.tup xs)) (.ref a) (.tup p.1):=λl=>RV.c8 aI ((aY.cQ (hl.2 l)).same s)
 exact q _ _ ⟨aY.ext.trans (aV.of_same s),RV.c8 aI (aY.val.same s),q0,λl=>(q0 (hl.1 l)).one,λz=>by simp[fresh] at z⟩ (aA.grow s)
theorem G8 {es:List Expr} {cs:Cs} {pos:Pos} (h:PA X es (nS Φ Γ F cs)):PE X (.List es pos) (bz Φ Γ F fr (.lst cs)):=bc (DD h) λσ H Q q=>by
 obtain⟨o,ρ,S,er,q⟩:=q;unfold ev at q;rw[ab] at q;refine⟨o,ρ,S,er,ae q λp _ q xs H1 aY aA=>?_⟩;obtain⟨g1,q⟩:=aM q;refine⟨by rw[aY.val.length];exact Pj (O9 g1) bZ,λa ha=>?_⟩;have s:=Mx.cM ha (.lst xs);have hl:=BF (cs:=cs) (c:= .lst cs) (by rw[lk]);have na:¬o.A a:=λz=>by obtain⟨y,hy⟩:=aA.al a z;rw[ha] at hy;cases hy
 have q0:lk (.lst cs)=0->RV Φ.K o.A (upd H1 a (.lst xs)) (.ref a) (.lst p.1):=λl=>RV.ez aI na ((aY.cQ (hl.2 l)).same s)
 refine q _ _ ⟨aY.ext.trans (aV.of_same s),RV.ez aI (λz=>na (aA.gJ a z)) (aY.val.same s),q0,λl=>(q0 (hl.1 l)).one,λ_ ds e=>?_⟩ (aA.grow s);cases e;exact⟨a,xs,rfl,aA.dU aY.ext ha,aI,(aY.val.avoid ha).same s,λl=>((aY.cQ (hl.2 l)).avoid ha).same s⟩
theorem Cb (b:BI) (ds:List Dt):∀k,dG b ds≠ .ex k:=by
 intro k;unfold dG;split <;> split
 all_goals first
  | (intro z;cases z;done)
  | (exact cL (λk z=>by cases z) k)
  | (split <;> first | (intro z;cases z;done) | (exact cL (λk z=>by cases z) k) | (split <;> first | (intro z;cases z;done) | (exact cL (λk z=>by cases z) k)))
  | (rename_i T d;unfold uK;split <;> (intro z;cases z))
theorem xC {b:BI} {cs:Cs}:(lk (.bi b cs)=0\/lk (.bi b cs)=2)/\(lk (.bi b cs)<=1->lP cs<=1):=by
 have e:lk (.bi b cs)=if lP cs<=1 then 0 else 2:=by rw[lk]
 rw[e];split
 ·rename_i h;exact⟨.inl rfl,λ_=>h⟩
 ·exact⟨.inr rfl,λz=>by lia⟩
theorem wC {b:BI} {cs:Cs} {σ:L2.St} {H:Hp} {Q:VK} (hK:Φ.K=X.K) (q:bz Φ Γ F fr (.bi b cs) σ H Q):Hs (rP X.K true (dG b)) (nS Φ Γ F cs) σ H Q:=by
 obtain⟨o,ρ,S,er,q⟩:=q;unfold ev at q;rw[ab] at q;refine⟨o,ρ,S,er,ae q λp _ q xs H1 aY aA=>?_⟩;rw[ab] at q;obtain⟨z,hz,q⟩:=jC (Cb _ _) q;refine⟨p.1,z,hK▸Di aY.val,hz,λv H3 pr=>?_⟩;rw[<-hK] at pr;obtain⟨e1,e2⟩:=EO.pr (fr:=fr) (H:=H) (c:= .bi b cs) aA aY.ext aY.val (λl=>aY.oh (xC.2 l)) xC.1 pr λ_=>rfl
 exact q v H3 e1 e2
end
end Rx
end
section
namespace Mx
open PySem PySem.W PySem.Spec PyProof.Rows L2
theorem ug (a v:Value):argsOk "max" ⟨[a],[("default",v)]⟩:=by unfold argsOk;kernel_rfl
section
variable {prog:Program} {w:World} {A:Around} {R:Result->Shared->Prop} {I:Addr} {fp wr:List Addr} {n:Nat} {P:Nat->Value->Prop} {St:Nat->Heap->Prop} {kw:List (Str×Value)} {bt:Nat->Nat->Bool} {S:Addr}
theorem tw:(toString "max"++toString ".loop":String)="max.loop":=by decide
theorem uR (W:Walks prog w A.in1 I fp wr n P St) (CH:CmpOf prog w A.in1 .Gt P bt) (sN:S∉fp):
  ∀(k j:Nat) (s:Shared) (vb:Value) (c:Nat),n=j + 1 + k->St (j + 1) s.heap->P (argBest bt j) vb->
  s.heap.get? S=some {cls:= .type "list",dict:=none,data:= .seq #[vb,vb] c,slots:=#[]}->
  (∀v h' tk,P (argBest bt (n - 1)) v->(∀b o,b∉wr->b≠S->s.heap.get? b=some o->h'.get? b=some o)->R (.ok (.ret v)) {s with heap:=h',toks:=tk})->
  codeAny (model prog w) A (.builtin "max.loop" ⟨[.ref I,.none,.ref S],kw⟩) R s:=by
 have CF:S∉wr:=λh=>sN (W.sub _ h)
 intro k
 induction k with
 | zero=>intro j s vb c hk gZ hPb hS hR;subst hk;refine codeAny_builtin PySem.F.entry_max_loop ?_;rw[Around.under_plainId PySem.F.plain_max_loop _];show wpAny _ A.in1 (seqItems? (.ref S) >>=_) _ _ s;refine O3 (wpAny_seqItems hS rfl ?_);show wpAny _ A.in1 (tryCatch (pyNext (.ref I)) _ >>=_) _ _ s;refine O3 (wpAny_tryCatch (W.done s _ _ gZ λh' tk jw=>?_));show wpAny _ A.in1 (updateSeq S (λ_=>#[]) >>=_) _ _ _;exact O3 (wpAny_updateSeq (jw S _ CF hS) rfl (O3 (wpAny_letGo (O6 (hR vb _ tk hPb λb o hbw hbS e=>(PD _ _ (Ne.symm hbS)).trans (jw b o hbw e))))))
 | succ k ih=>
  intro j s vb c hk gZ hPb hS hR;refine codeAny_builtin PySem.F.entry_max_loop ?_;rw[Around.under_plainId PySem.F.plain_max_loop _];show wpAny _ A.in1 (seqItems? (.ref S) >>=_) _ _ s;refine O3 (wpAny_seqItems hS rfl ?_);show wpAny _ A.in1 (tryCatch (pyNext (.ref I)) _ >>=_) _ _ s;refine O3 (wpAny_tryCatch (W.item (j + 1) s _ _ (by lia) gZ λv h' tk hP hst' jw=>?_));have nY:=jw S _ CF hS;show wpAny _ A.in1 (tryCatch (holding [v,v] (richCompare .Gt v vb >>=_)) _ >>=_) _ _ _;refine O3 (wpAny_tryCatch (wpAny_holding (O3 (CH (j + 1) (argBest bt j) v vb _ _ _ hP hPb (O3 (wpAny_holding (wpAny_truthy_bool (O3 (wpAny_letGo (O6 ?_))))))))));cases hb:bt (j + 1) (argBest bt j) with
  | true=>simp only[if_true];refine O3 (wpAny_updateSeq nY rfl (O3 (wpAny_letGo ?_)));rw[tw];refine O6 ⟨plainId_quiet PySem.F.plain_max_loop _,ih (j + 1) _ v _ (by lia) (W.frame _ _ _ hst' λb hbf o e=>(PD _ _ (λh:S=b=>sN (by rw[h];exact hbf))).trans e) (by simp only[argBest,hb,if_true];exact hP) (Heap.get?_update_self _ nY rfl) λv' h'' tk'' FD hk''=>?_⟩;exact hR v' h'' tk'' FD λb o hbw hbS e=>hk'' b o hbw hbS ((PD _ _ (Ne.symm hbS)).trans (jw b o hbw e))
  | false=>
   simp only[Bool.false_eq_true,if_false];refine O3 (wpAny_letGo ?_);rw[tw];exact O6 ⟨plainId_quiet PySem.F.plain_max_loop _,ih (j + 1) _ vb c (by lia) hst' (by simp only[argBest,hb,Bool.false_eq_true,if_false];exact hPb) nY λv' h'' tk'' FD hk''=>
    hR v' h'' tk'' FD λb o hbw hbS e=>hk'' b o hbw hbS (jw b o hbw e)⟩
theorem qS {x:Str} {dv:Value} (W:Walks prog w A.in1 I fp wr n P St) (CH:CmpOf prog w A.in1 .Gt P bt) (sN:S∉fp) {s:Shared} {c:Nat} (gZ:St 0 s.heap)
  (hS:s.heap.get? S=some {cls:= .type "list",dict:=none,data:= .seq #[] c,slots:=#[]})
  (hR:∀v h' tk,(n=0/\v=dv\/0 < n/\P (argBest bt (n - 1)) v)->(∀b o,b∉wr->b≠S->s.heap.get? b=some o->h'.get? b=some o)->R (.ok (.ret v)) {s with heap:=h',toks:=tk}):
  codeAny (model prog w) A (.builtin "max.loop" ⟨[.ref I,.none,.ref S],[(x,dv)]⟩) R s:=by
 have CF:S∉wr:=λh=>sN (W.sub _ h)
 refine codeAny_builtin PySem.F.entry_max_loop ?_;rw[Around.under_plainId PySem.F.plain_max_loop _];show wpAny _ A.in1 (seqItems? (.ref S) >>=_) _ _ s;refine O3 (wpAny_seqItems hS rfl ?_);show wpAny _ A.in1 (tryCatch (pyNext (.ref I)) _ >>=_) _ _ s;rcases Nat.eq_zero_or_pos n with h0 | hn
 ·subst h0;refine O3 (wpAny_tryCatch (W.done s _ _ gZ λh' tk jw=>?_));show wpAny _ A.in1 (rule _ >>=_) _ _ _;exact O3 (wpAny_rule (O6 (hR dv h' tk (.inl ⟨rfl,rfl⟩) λb o hbw _ e=>jw b o hbw e)))
 ·refine O3 (wpAny_tryCatch (W.item 0 s _ _ hn gZ λv h' tk hP hst' jw=>?_));have nY:=jw S _ CF hS;show wpAny _ A.in1 (updateSeq S (λ_=>#[v,v]) >>=_) _ _ _;refine O3 (wpAny_updateSeq nY rfl ?_);rw[tw];refine O6 ⟨plainId_quiet PySem.F.plain_max_loop _,uR W CH sN (n - 1) 0 _ v _ (by lia) (W.frame _ _ _ hst' λb hbf o e=>(PD _ _ (λh:S=b=>sN (by rw[h];exact hbf))).trans e) hP (Heap.get?_update_self _ nY rfl) λv' h'' tk'' FD hk''=>?_⟩;exact hR v' h'' tk'' (.inr ⟨hn,FD⟩) λb o hbw hbS e=>hk'' b o hbw hbS ((PD _ _ (Ne.symm hbS)).trans (jw b o hbw e))
theorem Bb {E:Value->Shared->Prop} {s:Shared} {id:String} {b:Builtin} {args:List Value} {Q:Value->Shared->Prop} (hk:builtinKind id=none) (hp:plainId id=true)
  (hb:entryFor table id=some b) (ha:argsOk id ⟨args,kw⟩)
  (hc:wpAny (model prog w) A.in1 (b ⟨args,kw⟩) (λfin s'=>match fin with
   | .done f=>(match (Except.ok f:Result) with | .ok (.ret v)=>Q v s' | .ok _=>False | .error e=>E e s')
   | .again c'=>c'.quiet=true/\codeAny (model prog w) A c' (λr s'=>match r with | .ok (.ret v)=>Q v s' | .ok _=>False | .error e=>E e s') s') E s):
  wpAny (model prog w) A (call (.builtin id) args kw) Q E s:=by
 refine wpAny_call (codeAny_call_builtin hp hb ?_);simp only[checkBuiltinCall,hk];cases hsig:Manifest.signature? id with
 | none=>exact O6 hc
 | some sig=>simp only[argsOk,hsig] at ha;show wpAny _ A.in1 (Bind.checkArgs id sig ⟨args,kw⟩) _ _ s;rw[show Bind.checkArgs id sig ⟨args,kw⟩=pure () from ha];exact O6 hc
theorem uP {E:Value->Shared->Prop} {s:Shared} {l:Addr} {xs:Array (Int×Tok)} {dv:Value} {Q:Value->Shared->Prop} (hh:A.handled=none) (hl:s.heap.IsList l (intItems xs))
  (h:∀v h' tk,(xs.size=0/\v=dv\/0 < xs.size/\(intItems xs)[argBest (λi j=>decide (numAt xs i > numAt xs j)) (xs.size - 1)]?=some v)->(∀b o,s.heap.get? b=some o->h'.get? b=some o)->Q v {s with heap:=h',toks:=tk}):
  wpAny (model prog w) A (call (.builtin "max") [.ref l] [("default",dv)]) Q E s:=by
 refine Bb PySem.F.kind_max PySem.F.plain_max PySem.F.entry_max (ug _ _) ?_;show wpAny _ A.in1 (Builtin.Builtins.bindParams "max" ["key","default"] 0 ⟨[],[("default",dv)]⟩ >>=_) _ _ s;refine O3 (wpAny_of_eq (show Builtin.Builtins.bindParams "max" ["key","default"] 0 ⟨[],[("default",dv)]⟩=pure [none,some dv] from rfl) ?_);refine O3 (O6 (O3 (iter_intList hl λs₂ e st hfp hlI=>?_)));have hz:(intItems xs).size=xs.size:=by simp[intItems]
 refine O3 (wpAny_newObj_type ?_);have W:=Walks.list (prog:=prog) (w:=w) (A:=A.in1) hh s.heap.objs.size l hlI (intItems xs);have sN:s₂.heap.objs.size∉[s.heap.objs.size,l]:=λhm=>Nat.lt_irrefl _ (hfp _ hm)
 rw[tw];refine O6 ⟨plainId_quiet PySem.F.plain_max_loop _,qS W (CmpOf.ints_gt (numAt xs) (λ_ _=>intItems_at)) sN (W.frame _ _ _ st λb _ o e=>O5 _ e) (Pf _ rfl) λv h' tk hP hk=>?_⟩;rw[hz] at hP;subst e;exact h v h' tk hP (old_kept λb o hb e=>hk b o hb (PJ (Pi e)) (O5 _ e))
end
noncomputable def BS (K:PySem.W.Frag) (i:Int) (ta:TE):TE:=Hs (λxs H1 Q=>∃(l:Addr) (ns:List Int),xs=[.ref l]/\cT K H1 l (ns.map V.int)/\∀m,(ns=[]->m=i)->(ns≠[]->m∈ns/\∀a∈ns,a<=m)->Q (.int m) H1) (pK ta yA)
theorem Ap {X:Cx} (hc:X.calm=true) {pins:List (Addr×Obj)} {s:Shared} {σ:L2.St} {H:Hp} {l:Addr} {ns:List Int} {i:Int} {t:Tok} {Q:VK} (I:Inv X pins σ H s) (hq:cT X.K H l (ns.map V.int))
  (q:∀m,(ns=[]->m=i)->(ns≠[]->m∈ns/\∀a∈ns,a<=m)->Q (.int m) H):wpAny (model X.prog X.w) X.A (call (.builtin "max") [.ref l] [("default",.int i t)]) (EP X pins σ Q) X.xe s:=by
 obtain⟨its,rv,pl,hz⟩:=I.list hq;have i1:IntsAre its ns:=intsAre_of rv;have xi:=i1.numsOf;have hl:=pl.isList;obtain⟨xs,Ae⟩:=i1.allInts.items;have kU:numsOf (intItems xs).toList=ns:=by rw[<-Ae];exact xi
 rw[nums_intItems] at kU;rw[Ae] at hl;have hlen:ns.length=xs.size:=by rw[<-kU,Ph,Pt]
 refine uP (I.ok.hd hc) hl λv h' tk hv hk=>?_
 rcases hv with ⟨h0,rfl⟩ | ⟨zZ,hv⟩
 ·exact⟨.int i,H,I.kept hk,⟨t,rfl⟩,q _ (λ_=>rfl) λz=>absurd (List.length_eq_zero_iff.mp (by lia)) z⟩
 ·obtain⟨t,rfl⟩:=intItems_at hv;obtain⟨h1,h2⟩:=argBest_gt (numAt xs) (xs.size - 1);refine⟨.int _,H,I.kept hk,⟨t,rfl⟩,q _ (λz=>by subst z;simp at hlen;lia) λ_=>⟨?_,λa ha=>?_⟩⟩
  ·rw[numAt_eq,kU];exact getD_mem (by lia)
  ·obtain⟨j,hj,rfl⟩:=mem_getD ha;rw[<-kU,<-numAt_eq];exact h2 j (by lia)
theorem AI {X:Cx} (hc:X.calm=true) {p cp kp pos:Pos} {kk:Nat} {i:Int} {e:Expr} {te:TE} (hg:Gl X "max") (hm:X.mg "max"=none) (he:starEach [e] X.env=[(false,eval e X.env)]) (ha:PE X e te):
  PE X (.Call (.Name "max" p) [e] [⟨some "default",.Constant (.int i) kk cp,kp⟩] pos) (BS X.K i te):=by
 intro pins s σ H Q I h;refine wpAny_Call_Name_kw (ej I hg hm PyProof.Rows.boot_max ?_ (by decide) (by decide));unfold BS Hs at h;refine PyProof.Rows.callWith_kw (bq (cG ha fz he pos pins s σ H _ I h) λus s1 ⟨vs,H1,I1,r1,l,ns,e1,hq,q⟩=>?_) (by rw[he];rfl) (by rw[he];rfl);subst e1;obtain⟨u,rfl,ru⟩:=r1.one;cases ru;refine bq (AN (X:=X) xT DM pos pins s1 σ H1 (λws H2=>H2=H1/\ws=[.int i]) I1 ⟨rfl,rfl⟩) λws s2 ⟨zs,H2,I2,rz,e2,e3⟩=>?_
 subst e2 e3;obtain⟨u,rfl,t,rfl⟩:=rz.one;exact Ap hc I2 hq q
end Mx
end
section
namespace Rx
open PySem PySem.W PySem.Spec PyProof.Rows L2 PySem.SeqAt
noncomputable def Cs.len:Cs->Nat
 | .nil=>0
 | .cons _ cs=>cs.len + 1
theorem sF {F:FT}:∀{cs:Cs} {ρ:ak} {S:Sx} {p:List Dt×Sx},eZ F cs ρ S= .ok p->p.1.length=cs.len
 | .nil,ρ,S,p,h=>by unfold eZ at h;cases h;rfl
 | .cons c cs,ρ,S,p,h=>by
  unfold eZ at h;cases h1:ev F c ρ S with
  | ok x=>
   rw[h1] at h;simp only[R.ai] at h;cases h2:eZ F cs ρ x.2 with
   | ok y=>rw[h2] at h;cases h;simp[Cs.len,sF h2]
   | ex k=>rw[h2] at h;cases h
   | bad=>rw[h2] at h;cases h
  | ex k=>rw[h1] at h;cases h
  | bad=>rw[h1] at h;cases h
section
variable {X:Cx} {Φ:Fm} {Γ:Gm} {F:FT} {g:G} {xv:Nat->Value} {CX:jm} {k:Nat}
theorem oJ {H H':Hp} (e:aV (λb=>(none:Option Addr)=some b) H H'):bB H H':=λb o h=>e.kp b o h (by simp)
theorem rg {K:Frag} {A:Addr->Prop} {H:Hp}:∀{ds:List Dt},ds.all og=true->ao K A H (ds.map p7) ds
 | [],_=>ao.nil
 | d::ds,h=>by rw[List.all_cons,O7] at h;exact ao.cons (pA h.1) (rg h.2)
theorem s_call {x:Str} {f np j:Nat} {eY:List Dt} {e:Expr} {es:List Expr} {cs:Cs} {p pos:Pos} (hX:HX g xv CX k F Φ X) (hG:Gl X x) (zT:(x==("__debug__":Str))=false) (wY:qz x g.fns=some (f,np,eY,false)) (hj:j<=eY.length) (hn:cs.len + (eY.drop j).length=np)
  (hs:starEach (e::es) X.env=(false,eval e X.env)::starEach es X.env) (gz:(backTo pos (starEach es X.env)).any (·.1)=false) (ha:PA X (e::es) (nS Φ Γ F cs)):PE X (.Call (.Name x p) (e::es) [] pos) (bz Φ Γ F g.fr (.call f cs (eY.drop j))):=by
 obtain⟨n,fx⟩:=hX.fx;obtain⟨fa,fd,ps,EM,hmg,NN,hok,hb,zf⟩:=fx.fn x f np eY false wY;obtain⟨uw,nZ,L7⟩:=hb j hj;refine bc (AF hok hX.room hG hmg NN L7 nZ hX.pass ha zT hs gz) λσ H Q q=>?_
 obtain⟨o,ρ,S,er,q⟩:=q;unfold ev at q;rw[ab] at q;refine⟨o,ρ,S,er,ae q λp hp q vs H1 aY aA=>?_⟩;have Mr:(eY.drop j).all og=true:=PQ.mpr λd hd=>PQ.mp zf d (List.mem_of_mem_drop hd)
 rw[ab] at q;have el:lk (.call f cs (eY.drop j))=if lP cs=0 then 0 else 2:=by rw[lk]
 refine⟨?_,?_⟩
 ·rw[Po,aY.val.length,Ph,sF hp];exact hn
 by_cases hl:lP cs=0
 ·rw[if_pos hl] at el;refine⟨o.A,none,p.1++eY.drop j,none,vs++(eY.drop j).map p7,⟨rfl,rfl,rfl⟩,?_,aA.al,?_⟩
  ·rw[<-hX.K];exact(aY.cQ hl).append (rg Mr)
  ·cases hr:F f (p.1++eY.drop j) none with
   | ok y=>rw[hr] at q;intro v H' fo;rw[<-hX.K] at fo;have sm:=oJ fo.ext;refine q v H' ⟨aY.ext.trans (aV.of_same sm),fo.val.weak aA.gJ,λ_=>fo.val,λ_=>fo.val.one,λfc ds ed=>?_⟩ (aA.grow sm);obtain⟨a,xs,h1,h2,h3,h4⟩:=fo.eI fc ds ed;exact⟨a,xs,h1,aA.dU aY.ext h2,h3,h4.weak λb z=>z.elim (λz=> .inl (aA.gJ b z)) .inr,λ_=>h4⟩
   | ex kk=>rw[hr] at q;intro H' e';exact⟨kk,rfl,q,aA.ent.trans (e'.mono λb z=>by cases z)⟩
   | bad=>rw[hr] at q;exact q.elim
 ·rw[if_neg hl] at el;refine⟨o.wd,none,p.1++eY.drop j,none,vs++(eY.drop j).map p7,⟨rfl,rfl,rfl⟩,?_,aA.vD,?_⟩
  ·rw[<-hX.K];exact aY.val.append (rg Mr)
  ·cases hr:F f (p.1++eY.drop j) none with
   | ok y=>rw[hr] at q;intro v H' fo;rw[<-hX.K] at fo;have sm:=oJ fo.ext;refine q v H' ⟨aY.ext.trans (aV.of_same sm),fo.val,λz=>by rw[el] at z;lia,λz=>by rw[el] at z;lia,λfc ds ed=>?_⟩ (aA.grow sm);obtain⟨a,xs,h1,h2,h3,h4⟩:=fo.eI fc ds ed;exact⟨a,xs,h1,aA.dU aY.ext h2,h3,h4,λz=>by rw[el] at z;lia⟩
   | ex kk=>rw[hr] at q;intro H' e';exact⟨kk,rfl,q,aA.ent.trans (e'.mono λb z=>by cases z)⟩
   | bad=>rw[hr] at q;exact q.elim
theorem zy {t:Str} {T:String} (h:rL t=some T):bootBuiltins t=some (.type T):=by
 unfold rL at h;split at h
 ·rename_i e;cases h;rw[Pw e];exact PyProof.Rows.boot_str
 split at h
 ·rename_i e;cases h;rw[Pw e];exact PyProof.Rows.boot_int
 split at h
 ·rename_i e;cases h;rw[Pw e];exact PyProof.Rows.boot_bool
 split at h
 ·rename_i e;cases h;rw[Pw e];exact PyProof.Rows.boot_list
 split at h
 ·rename_i e;cases h;rw[Pw e];exact PyProof.Rows.boot_tuple
 ·cases h
theorem Bf {t:Str} {T:String} (h:rL t=some T):T="str"\/T="int"\/T="bool"\/T="list"\/T="tuple":=by
 unfold rL at h;split at h
 ·cases h;simp
 split at h
 ·cases h;simp
 split at h
 ·cases h;simp
 split at h
 ·cases h;simp
 split at h
 ·cases h;simp
 ·cases h
theorem CY {K:Frag} {A:Addr->Prop} {H:Hp} {x:V} {d:Dt} {T:String} {b:Bool} (hT:T="str"\/T="int"\/T="bool"\/T="list"\/T="tuple") (hx:RV K A H x d) (h:uK T d= .ok b):∃t,gP K H x t/\PySem.W.kitOne K t (.type T)=some b:=by
 unfold uK at h;split at h
 ·cases h;rw[hx.str_inv];refine⟨_,.str _,?_⟩;rcases hT with rfl | rfl | rfl | rfl | rfl <;> rfl
 ·cases h;rw[hx.int_inv];refine⟨_,.int _,?_⟩;rcases hT with rfl | rfl | rfl | rfl | rfl <;> rfl
 ·cases h;rw[hx.ay];refine⟨_,.bl _,?_⟩;rcases hT with rfl | rfl | rfl | rfl | rfl <;> rfl
 ·cases h;obtain⟨a,xs,rfl,h1,_⟩:=hx.lst_inv;refine⟨_,.lst h1,?_⟩;rcases hT with rfl | rfl | rfl | rfl | rfl <;> rfl
 ·cases h;obtain⟨a,xs,rfl,h1,_⟩:=hx.ag;refine⟨_,.tup h1,?_⟩;rcases hT with rfl | rfl | rfl | rfl | rfl <;> rfl
 ·cases h;rw[hx.aC];refine⟨_,.bg,?_⟩;rcases hT with rfl | rfl | rfl | rfl | rfl <;> rfl
 ·cases h
theorem Ah (T:String) (d:Dt):∀k,uK T d≠ .ex k:=by intro k;unfold uK;split <;> (intro z;cases z)
theorem G7 {a:Expr} {a':C} {t:Str} {T:String} {p tp pos:Pos} (hK:Φ.K=X.K) (hG:Gl X "isinstance") (hm:X.mg "isinstance"=none) (Nq:Gl X t) (NQ:X.mg t=none) (hT:rL t=some T) (hn:t≠"__name__") (zT:(t==("__debug__":Str))=false)
  (hs:starEach (a::[.Name t tp]) X.env=(false,eval a X.env)::starEach [.Name t tp] X.env) (ha:PE X a (bz Φ Γ F g.fr a')):PE X (.Call (.Name "isinstance" p) [a,.Name t tp] [] pos) (bz Φ Γ F g.fr (.bi (.isi T) (.cons a' .nil))):=by
 refine bc (pf Mx.vV hG hm PyProof.Rows.boot_isinstance (cG ha (cG (AE (v:= .ty T) Nq NQ (zy hT) rfl hn zT) fz) hs) (by decide) (by decide) hs) λσ H Q q=>?_
 obtain⟨o,ρ,S,er,q⟩:=q;unfold ev eZ eZ at q;rw[ab,ab] at q;refine⟨o,ρ,S,er,ae q λp hp q x H1 aY aA=>?_⟩;simp only[R.ai] at q;have q:mR Φ.Ek ((dG (.isi T) [p.1]).bind λd=>R.ok (d,p.2)) _:=q;unfold dG at q;simp only at q;rw[ab,ab] at q;obtain⟨b,hb,q⟩:=ij (Ah _ _) q;obtain⟨ty,k1,k2⟩:=CY (Bf hT) (hK▸aY.val) hb;refine⟨x,T,ty,b,rfl,k1,k2,q _ _ ?_ aA⟩;exact(EO.sc (Φ:=Φ) (fr:=g.fr) (o:=o) (H:=H1) (c:= .bi (.isi T) (.cons a' .nil)) (d:= .bl b) rfl).qx aY.ext λf=>by simp[fresh] at f
theorem D6 {a:Expr} {a':C} {i:Int} {kk:Nat} {p cp kp pos:Pos} (hK:Φ.K=X.K) (hc:X.calm=true) (hG:Gl X "max") (hm:X.mg "max"=none) (hs:starEach [a] X.env=[(false,eval a X.env)]) (ha:PE X a (bz Φ Γ F g.fr a')):
  PE X (.Call (.Name "max" p) [a] [⟨some "default",.Constant (.int i) kk cp,kp⟩] pos) (bz Φ Γ F g.fr (.bi (.maxD i) (.cons a' .nil))):=by
 refine bc (Mx.AI hc hG hm hs ha) λσ H Q q=>?_
 obtain⟨o,ρ,S,er,q⟩:=q;unfold ev eZ eZ at q;rw[ab,ab] at q;refine⟨o,ρ,S,er,ae q λp hp q x H1 aY aA=>?_⟩;simp only[R.ai] at q;have q:mR Φ.Ek ((dG (.maxD i) [p.1]).bind λd=>R.ok (d,p.2)) _:=q;cases hd:p.1 with
 | lst ds=>
  rw[hd] at q;have hv:=aY.val;rw[hd] at hv;obtain⟨b,xs,rfl,f1,_,f2⟩:=hv.lst_inv;unfold dG at q;simp only at q;cases hi:intsOf ds with
  | none=>rw[hi] at q;exact q.elim
  | some ns=>
   rw[hi] at q;rw[hJ f2 hi] at f1;refine⟨b,ns,rfl,cT.of f1,λm m1 m2=>?_⟩;have e:m=if ns.isEmpty then i else eL ns:=by
    cases ns with
    | nil=>exact m1 rfl
    | cons n ns=>have k:=kb (n::ns) (by simp);exact Int.le_antisymm (k.2 _ (m2 (by simp)).1) ((m2 (by simp)).2 _ k.1)
   rw[e];exact q _ _ ((EO.sc (Φ:=Φ) (fr:=g.fr) (o:=o) (H:=H1) (c:= .bi (.maxD i) (.cons a' .nil)) (d:= .int _) rfl).qx aY.ext λf=>by simp[fresh] at f) aA
 | _=>rw[hd] at q;exact q.elim
theorem boot_set:bootBuiltins "set"=some (.type "set"):=by decide +kernel
noncomputable def HA (te:TE):TE:=λσ H Q=>te σ H λv H1=>∃b l ys,v= .ref l/\H1 l=some (Mx.jx b (ys.map V.str))/\ys.length < 4000/\∀n zs es,H1 n=none->Mx.aX H1 zs es->es=aJ ((dd ys).map Mx.D.str)->Q (.ref n) (upd H1 n (.lst zs))
theorem AJ {e:Expr} {te:TE} {p p2 pos q9:Pos} (hc:X.calm=true) (hu:X.A.units + 150 < cLine) (hg:Gl X "sorted") (hm:X.mg "sorted"=none) (zc:Gl X "set") (EJ:X.mg "set"=none) (he:PE X e te)
  (hs:starEach [e] X.env=[(false,eval e X.env)]) (vo:starEach [.Call (.Name "set" p2) [e] [] q9] X.env=[(false,eval (.Call (.Name "set" p2) [e] [] q9) X.env)]:=by rfl):
  PE X (.Call (.Name "sorted" p) [.Call (.Name "set" p2) [e] [] q9] [] pos) (HA te):=by
 intro pins s σ H Q I h;refine wpAny_Call_Name_kw (ej I hg hm PyProof.Rows.boot_sorted ?_ (by decide) (by decide));refine PyProof.Rows.callWith_builtin1 ?_ (by rw[vo];rfl) (by rfl);rw[vo];show wpAny _ _ (spliced ((false,eval (.Call (.Name "set" p2) [e] [] q9) X.env)::backTo pos [])) _ _ s;refine Calls.spliced_cons ?_;refine wpAny_Call_Name_kw (ej I zc EJ boot_set ?_ (by decide) (by decide));refine PyProof.Rows.callWith_type1 ?_ (by rw[hs];rfl) (by rfl);rw[hs];show wpAny _ _ (spliced ((false,eval e X.env)::backTo q9 [])) _ _ s;refine Calls.spliced_cons (bq (he pins s σ H _ I h) λu s1 ⟨v,H1,I1,r1,b,l,ys,e1,hl,hlen,q⟩=>?_);subst e1;cases r1;refine Calls.spliced_nil ?_;obtain⟨its,r',pl⟩:=Mx.cH I1 hl;have Mg:its.toArray.size=ys.length:=by have:=r'.length;rw[Ph] at this;simp[this]
 refine Mx.my (I1.ok.hd hc) pl (by simpa using r') (by rw[Mg];unfold scanBound;lia) λh' tk ks hS hmem kk=>?_
 refine Calls.spliced_nil ?_;have I2:Inv X pins σ H1 {s1 with heap:=h',toks:=tk}:=I1.kept kk;have eQ:ks.Nodup:=by obtain⟨_,_,_,_,z,_⟩:=hS;exact z
 have pm:ks.Perm (dd ys):=k8 eQ (jS ys) λx=>(hmem x).trans (mG ys x).symm
 refine Mx.rm hu hc I2 hS (by rw[pm.length_eq];exact Nat.lt_of_le_of_lt (wg ys) (Nat.lt_trans hlen (by decide))) λn zs es hn hz hso=>q n zs es hn hz ?_
 exact pE ⟨hso.1.trans (pm.map _),hso.2⟩
theorem qG {K:Frag} {A:Addr->Prop} {H:Hp} {x:V} {d:Dt} {ds:List Dt} (h:bJ d=some ds) (hv:RV K A H x d):∃b l xs,x= .ref l/\H l=some (Mx.jx b xs)/\ao K A H xs ds:=by
 unfold bJ at h;split at h
 ·cases h;obtain⟨a,xs,rfl,f1,fn,f2⟩:=hv.lst_inv;exact⟨false,a,xs,rfl,f1,f2⟩
 ·cases h;obtain⟨a,xs,rfl,f1,f2⟩:=hv.ag;exact⟨true,a,xs,rfl,f1,f2⟩
 ·cases h
theorem Ea {a:Expr} {a':C} {p p2 pos q9:Pos} (hK:Φ.K=X.K) (hc:X.calm=true) (hu:X.A.units + 150 < cLine) (hG:Gl X "sorted") (hm:X.mg "sorted"=none) (Np:Gl X "set") (EJ:X.mg "set"=none) (hs:starEach [a] X.env=[(false,eval a X.env)]) (ha:PE X a (bz Φ Γ F g.fr a')):
  PE X (.Call (.Name "sorted" p) [.Call (.Name "set" p2) [a] [] q9] [] pos) (bz Φ Γ F g.fr (.bi .sset (.cons a' .nil))):=by
 refine bc (AJ hc hu hG hm Np EJ ha hs) λσ H Q q=>?_
 obtain⟨o,ρ,S,er,q⟩:=q;unfold ev eZ eZ at q;rw[ab,ab] at q;refine⟨o,ρ,S,er,ae q λp hp q x H1 aY aA=>?_⟩;simp only[R.ai] at q;have q:mR Φ.Ek ((dG .sset [p.1]).bind λd=>R.ok (d,p.2)) _:=q;unfold dG at q;simp only at q;split at q
 ·rename_i ds CI;split at q
  ·rename_i ys hys;rw[ab] at q;obtain⟨gl,q⟩:=aM q;obtain⟨b,l,xs,rfl,f1,f2⟩:=qG CI aY.val;rw[pH f2 hys] at f1;refine⟨b,l,ys,rfl,f1,O9 gl,λn zs es hn hz JH=>?_⟩;have pr:PR Φ.K true [.ref l] [p.1] H1 (.lst (aa es)) (.ref n) (upd H1 n (.lst zs)):=PR.o6 hn λA w=>ao.nk hz
   have hl:=xC (b:= .sset) (cs:= .cons a' .nil);have el:lP (.cons a' .nil)=max (lk a') 0:=by rw[lP,lP]
   obtain⟨e1,e2⟩:=EO.pr (fr:=g.fr) (H:=H) (c:= .bi .sset (.cons a' .nil)) aA aY.ext (ao.cons aY.val ao.nil) (λl=>⟨aY.oh (by have:=hl.2 l;lia),trivial⟩) hl.1 pr λ_=>rfl
   rw[JH] at e1;exact q _ _ e1 e2
  ·exact q.elim
 ·exact q.elim
end
noncomputable def Ky (K:Frag) (tl:TE):TI:=λσ H R=>tl σ H λx H1=>(∃a xs,x= .ref a/\cT K H1 a xs/\R (HW K a) H1)\/(∃a xs,x= .ref a/\d5 K H1 a xs/\R (Jh K a) H1)
theorem DL {X:Cx} {tg l:Expr} {tl:TE} (hl:PE X l tl):PI X tg l (Ky X.K tl):=by
 intro pins s σ H R I h;refine bq (hl pins s σ H _ I h) λv s1 ⟨x,H1,I1,r1,q1⟩=>?_
 rcases q1 with ⟨a,xs,e,hq,q⟩ | ⟨a,xs,e,hq,q⟩
 ·subst e;cases r1;obtain⟨its,rv,p,hz⟩:=I1.list hq;refine wpAny_pyIter_list p.isList ?_;refine⟨s1.heap.objs.size,[s1.heap.objs.size],_,_,H1,rfl,I1.kept (t':=s1.toks) λb o e=>O5 _ e,ve a _,⟨_,Pf _ rfl,rfl,rfl⟩,λb hb=>?_,q⟩;have e:b=s1.heap.objs.size:=by simpa using hb
  subst e;exact I1.qA (Pd _) (I1.hok.fresh (Pd _))
 ·subst e;cases r1;obtain⟨its,rv,p,hz⟩:=I1.tuple hq;refine wpAny_pyIter_tuple (show s1.heap.IsTuple a its.toArray from p) ?_;refine⟨s1.heap.objs.size,[s1.heap.objs.size],_,_,H1,rfl,I1.kept (t':=s1.toks) λb o e=>O5 _ e,rJ a _,⟨_,Pf _ rfl,rfl,rfl⟩,λb hb=>?_,q⟩;have e:b=s1.heap.objs.size:=by simpa using hb
  subst e;exact I1.qA (Pd _) (I1.hok.fresh (Pd _))
section
variable {X:Cx} {Φ:Fm} {Γ:Gm} {F:FT} {g:G} {xv:Nat->Value} {CX:jm} {k:Nat} {K:Frag}
theorem ud {A Y:Addr->Prop} {a:Addr} {xs:List V} {ds:List Dt} {H:Hp} (ha:H a=some (.lst xs)) (hn:¬Y a) (hY:∀b,Y b->A b) (h:ao K A H xs ds):Wk K A Y (HW K a) H ds where
 go:=λi H1 hi e=>⟨xs,xs[i]'(by rw[h.length];exact hi),cT.of (e.kp _ _ ha hn),by simp⟩
 stop:=λH1 e=>⟨xs,cT.of (e.kp _ _ ha hn),by rw[h.length];exact Pd _⟩
 yld:=λi x H1 H2 hi e y=>by obtain⟨rfl,y⟩:=y;obtain⟨d,h1,h2⟩:=h.get (y xs (cT.of (e.kp _ _ ha hn)));exact⟨bB.refl _,d,h1,λB hB=>(h2.bN (B:=λb=>A b\/B b) λb z=>z.elim .inl (hB b)).mono e (λb z=> .inl (hY b z)) λ_ z=> .inr z⟩
theorem rQ {A Y:Addr->Prop} {a:Addr} {xs:List V} {ds:List Dt} {H:Hp} (ha:H a=some (.tup xs)) (hY:∀b,Y b->A b) (h:ao K A H xs ds):Wk K A Y (Jh K a) H ds where
 go:=λi H1 hi e=>⟨xs,xs[i]'(by rw[h.length];exact hi),d5.of (e.tp _ _ ha),by simp⟩
 stop:=λH1 e=>⟨xs,d5.of (e.tp _ _ ha),by rw[h.length];exact Pd _⟩
 yld:=λi x H1 H2 hi e y=>by obtain⟨rfl,y⟩:=y;obtain⟨d,h1,h2⟩:=h.get (y xs (d5.of (e.tp _ _ ha)));exact⟨bB.refl _,d,h1,λB hB=>(h2.bN (B:=λb=>A b\/B b) λb z=>z.elim .inl (hB b)).mono e (λb z=> .inl (hY b z)) λ_ z=> .inr z⟩
theorem yL {A Y:Addr->Prop} {a:Addr} {ns:List Int} {H:Hp} (ha:(Rd H a (.lst (ns.map V.int))/\¬Y a)\/KL K a (ns.map V.int)):Wk K A Y (HW K a) H (ns.map Dt.int):=by
 have sq:∀H1,aV Y H H1->cT K H1 a (ns.map V.int):=λH1 e=>by
  rcases ha with ⟨h,n⟩ | h
  ·exact .inl (ye e n h)
  ·exact .inr h
 refine⟨λi H1 hi e=>?_,λH1 e=>⟨_,sq H1 e,by simp⟩,λi x H1 H2 hi e y=>?_⟩
 ·rw[Ph] at hi;exact⟨_,.int ns[i],sq H1 e,by simp[hi]⟩
 ·obtain⟨rfl,y⟩:=y;have:=y _ (sq _ e);rw[Pr] at this;obtain⟨m,h1,rfl⟩:=Pn.mp this;exact⟨bB.refl _,.int m,by simp[h1],λ_ _=>RV.c7⟩
theorem rO {A Y:Addr->Prop} {lo:Int} {n:Nat} {H:Hp}:Wk K A Y (HY lo n) H (bO lo n) where
 go:=λi H1 hi e=>by unfold bO at hi;simp at hi;exact hi
 stop:=λH1 e=>by unfold bO;simp only[Ph,List.length_range];exact Pd _
 yld:=λi x H1 H2 hi e y=>by obtain⟨rfl,rfl⟩:=y;unfold bO at hi;simp at hi;exact⟨bB.refl _,.int (lo + i),by unfold bO;simp[hi],λ_ _=>RV.c7⟩
theorem yh {tg a:Expr} {a':C} (hK:Φ.K=X.K) (ha:PE X a (bz Φ Γ F g.fr a')):PI X tg a (nR Φ Γ F (.seq a')):=nz (DL ha) λσ H Q q=>by
 obtain⟨o,ρ,S,er,q⟩:=q;unfold dM at q;rw[ab] at q;refine⟨o,ρ,S,er,ae q λp he q x H1 aY aA=>?_⟩;have uH:p5 (.seq a')=lk a':=rfl;cases hd:p.1 with
 | lst ds=>
  rw[hd] at q;have hv:=aY.val;have h0:=aY.cQ;have h1:=aY.oh;rw[hd] at hv h0 h1;obtain⟨b,xs,rfl,f1,fn,f2⟩:=hv.lst_inv;refine .inl ⟨b,xs,rfl,cT.of f1,q _ _ ⟨aY.ext,λl=>?_,λl=>?_,λl=>by unfold jV at l;rw[he] at l;simp only[hd,gh] at l;cases l⟩ aA⟩
  ·rw[<-hK];exact ud f1 (λz=>fn (.inr z)) aA.da (eS.aN (h1 (by rw[uH] at l;exact l)) f1)
  ·rw[<-hK];have:=h0 (by rw[uH] at l;exact l);obtain⟨b',pY,e',g1,gn,g2⟩:=this.lst_inv;cases e';exact ud g1 gn (λ_ z=>z) g2
 | tup ds=>
  rw[hd] at q;have hv:=aY.val;have h0:=aY.cQ;have h1:=aY.oh;rw[hd] at hv h0 h1;obtain⟨b,xs,rfl,f1,f2⟩:=hv.ag;refine .inr ⟨b,xs,rfl,d5.of f1,q _ _ ⟨aY.ext,λl=>?_,λl=>?_,λl=>?_⟩ aA⟩
  ·rw[<-hK];exact rQ f1 aA.da (eS.au (h1 (by rw[uH] at l;exact l)) f1)
  ·rw[<-hK];exact rQ f1 (λ_ z=>z) (eS.au (h0 (by rw[uH] at l;exact l)).one f1)
  ·rw[<-hK];unfold jV at l;rw[he] at l;simp only[hd] at l;exact rQ f1 (λ_ z=>z) (eS.au (hv.gh l:RV Φ.K o.A H1 (.ref b) (.tup ds)).one f1)
 | bE ns=>
  rw[hd] at q;have hv:=aY.val;have h0:=aY.cQ;rw[hd] at hv h0;obtain⟨b,rfl,hb⟩:=hv.fR;have Iz:cT X.K H1 b (ns.map V.int):=by
   rw[<-hK];rcases hb with hb | hb
   ·exact .inl hb.1
   ·exact .inr hb
  refine .inl ⟨b,_,rfl,Iz,q _ _ ⟨aY.ext,λl=>?_,λl=>?_,λl=>by unfold jV at l;rw[he] at l;simp only[hd,gh] at l;cases l⟩ aA⟩
  ·rw[<-hK];exact yL (hb.imp (λz=>⟨z.1,λw=>z.2 (.inr w)⟩) id)
  ·rw[<-hK];obtain⟨b',e',lL⟩:=(h0 (by rw[uH] at l;exact l)).fR;cases e';exact yL lL
 | _=>rw[hd] at q;exact q.elim
theorem D7 {tg a:Expr} {a':C} {p pos:Pos} (hG:Gl X "range") (hm:X.mg "range"=none) (hs:starEach [a] X.env=[(false,eval a X.env)]) (ha:PE X a (bz Φ Γ F g.fr a')):PI X tg (.Call (.Name "range" p) [a] [] pos) (nR Φ Γ F (.rng1 a')):=
 nz (uZ hG hm (cG ha fz (by rw[hs];rfl)) hs) λσ H Q q=>by
 obtain⟨o,ρ,S,er,q⟩:=q;unfold dM at q;rw[ab] at q;refine⟨o,ρ,S,er,ae q λp _ q x H1 aY aA=>?_⟩;cases hd:p.1 with
 | int j=>rw[hd] at q;obtain⟨g1,q⟩:=aM q;rw[O7] at g1;have a1:=O9 g1.1;have a2:=O9 g1.2;have hl:lim=1000000:=rfl;have hv:=aY.val;rw[hd] at hv;exact⟨j,by rw[hv.int_inv],by lia,by lia,q _ _ ⟨aY.ext,λ_=>rO,λ_=>rO,λ_=>rO⟩ aA⟩
 | _=>rw[hd] at q;exact q.elim
theorem yM {A Y:Addr->Prop} {b1 b2:Bool} {l1 l2:Addr} {xs ys:List V} {ds es:List Dt} {H:Hp} (h1:H l1=some (Mx.jx b1 xs)) (h2:H l2=some (Mx.jx b2 ys)) (n1:b1=false->¬Y l1) (n2:b2=false->¬Y l2) (hY:∀b,Y b->A b) (g1:ao K A H xs ds) (g2:ao K A H ys es):Wk K A Y (Mx.Jg b1 b2 l1 l2) H (i5 ds es):=by
 have k1:∀H1,aV Y H H1->H1 l1=some (Mx.jx b1 xs):=λH1 e=>by
  cases b1 with
  | false=>exact e.kp _ _ h1 (n1 rfl)
  | true=>exact e.tp _ _ h1
 have k2:∀H1,aV Y H H1->H1 l2=some (Mx.jx b2 ys):=λH1 e=>by
  cases b2 with
  | false=>exact e.kp _ _ h2 (n2 rfl)
  | true=>exact e.tp _ _ h2
 have hz:(i5 ds es).length=min xs.length ys.length:=by unfold i5;rw[List.length_zipWith,g1.length,g2.length]
 refine⟨λi H1 hi e=>?_,λH1 e=>?_,λi x H1 H2 hi e y=>?_⟩
 ·rw[hz] at hi;exact⟨xs,ys,xs[i]'(by lia),ys[i]'(by lia),k1 H1 e,k2 H1 e,by simp,by simp⟩
 ·exact⟨xs,ys,k1 H1 e,k2 H1 e,by lia⟩
 ·obtain⟨p,x1,y1,rfl,hp,rfl,q⟩:=y;obtain⟨q1,q2⟩:=q xs ys (k1 H1 e) (k2 H1 e);obtain⟨d,a1,a2⟩:=g1.get q1;obtain⟨c,c1,c2⟩:=g2.get q2;have s:=Mx.cM hp (.tup [x1,y1]);refine⟨s,.tup [d,c],by unfold i5;rw[List.getElem?_zipWith,a1,c1],λB hB=>RV.c8 aI ?_⟩;have av:∀{v:V} {dd:Dt},RV K A H v dd->RV K B (upd H1 p (.tup [x1,y1])) v dd:=λh=>((h.bN (B:=λb=>A b\/B b) λb z=>z.elim .inl (hB b)).mono e (λb z=> .inl (hY b z)) λ_ z=> .inr z).same s
  exact ao.cons (av a2) (ao.cons (av c2) ao.nil)
theorem cc {A B:Addr->Prop} {H:Hp} {x:V} {d:Dt} {ds:List Dt} (h:bJ d=some ds) (hv:RV K A H x d) (h1:eS K B H x d):∃b l xs,x= .ref l/\H l=some (Mx.jx b xs)/\(b=false->¬A l)/\ao K B H xs ds:=by
 unfold bJ at h;split at h
 ·cases h;obtain⟨a,xs,rfl,f1,fn,f2⟩:=hv.lst_inv;exact⟨false,a,xs,rfl,f1,λ_=>fn,eS.aN h1 f1⟩
 ·cases h;obtain⟨a,xs,rfl,f1,f2⟩:=hv.ag;exact⟨true,a,xs,rfl,f1,λz=>(by cases z),eS.au h1 f1⟩
 ·cases h
theorem Hg {es:List Expr} {kk:Nat} {tp:Pos} {a b:Expr} {a' b':C} {p pos:Pos} (hK:Φ.K=X.K) (hG:Gl X "zip") (hm:X.mg "zip"=none) (hs:starEach [a,b] X.env=[(false,eval a X.env),(false,eval b X.env)]) (vo:starEach [b] X.env=[(false,eval b X.env)]) (ha:PE X a (bz Φ Γ F g.fr a')) (hb:PE X b (bz Φ Γ F g.fr b')):
  PI X (.Tuple es kk tp) (.Call (.Name "zip" p) [a,b] [] pos) (nR Φ Γ F (.zip a' b')):=
 nz (Mx.AM hG hm (cG ha (cG hb fz (by rw[vo];rfl)) (by rw[hs,vo])) hs vo) λσ H Q q=>by
 obtain⟨o,ρ,S,er,q⟩:=q;unfold dM at q;rw[ab] at q;refine⟨o,ρ,S,er,ae q λp _ q x H1 aY aA=>?_⟩;rw[ab] at q;refine⟨o,ρ,p.2,aA,ae q λp2 _ q y H2 eo2 fW=>?_⟩;have uH:p5 (.zip a' b')=max (lk a') (lk b'):=rfl;split at q
 ·rename_i ds es e1 e2;obtain⟨k1,k2,k3⟩:=aY.keep eo2.ext er.gJ;obtain⟨c1,l1,xs,rfl,f1,JK,f2⟩:=cc e1 k1 k1.one;obtain⟨c2,l2,ys,rfl,g1,Nd,g2⟩:=cc e2 eo2.val eo2.val.one;refine⟨c1,c2,l1,l2,xs,ys,rfl,f1,g1,q _ _ ⟨aY.ext.trans eo2.ext,λl=>?_,λl=>?_,λl=>by unfold jV at l;cases l⟩ fW⟩
  ·rw[uH] at l;obtain⟨vR,KG,pY,e',qy,_,Cu⟩:=cc e1 k1 (k3 (by lia));obtain⟨Fh,Oh,IV,ED,Cz,_,JN⟩:=cc e2 eo2.val (eo2.oh (by lia));cases e';cases ED;have i1:c1=vR/\xs=pY:=by rw[f1] at qy;cases c1 <;> cases vR <;> first | (cases qy;exact⟨rfl,rfl⟩) | cases qy
   have i2:c2=Fh/\ys=IV:=by rw[g1] at Cz;cases c2 <;> cases Fh <;> first | (cases Cz;exact⟨rfl,rfl⟩) | cases Cz
   obtain⟨rfl,rfl⟩:=i1;obtain⟨rfl,rfl⟩:=i2;exact yM f1 g1 (λz w=>JK z (.inr w)) (λz w=>Nd z (.inr w)) fW.da Cu JN
  ·rw[uH] at l;obtain⟨vR,KG,pY,e',qy,Gz,Cu⟩:=cc e1 (k2 (by lia)) (k2 (by lia)).one;obtain⟨Fh,Oh,IV,ED,Cz,IH,JN⟩:=cc e2 (eo2.cQ (by lia)) (eo2.cQ (by lia)).one;cases e';cases ED;have i1:c1=vR/\xs=pY:=by rw[f1] at qy;cases c1 <;> cases vR <;> first | (cases qy;exact⟨rfl,rfl⟩) | cases qy
   have i2:c2=Fh/\ys=IV:=by rw[g1] at Cz;cases c2 <;> cases Fh <;> first | (cases Cz;exact⟨rfl,rfl⟩) | cases Cz
   obtain⟨rfl,rfl⟩:=i1;obtain⟨rfl,rfl⟩:=i2;exact yM f1 g1 Gz IH (λ_ z=>z) Cu JN
 ·exact q.elim
theorem lG:∀(ds:List Dt) (k i:Nat) (d:Dt),ds[i]?=some d->(cY k ds)[i]?=some (.tup [.int ((k + i:Nat):Int),d])
 | [],k,i,d,h=>by simp at h
 | x::ds,k,0,d,h=>by simp at h;subst h;rfl
 | x::ds,k,i + 1,d,h=>by have:=lG ds (k + 1) i d (by simpa using h);show (cY (k + 1) ds)[i]?=_;rw[this,show k + 1 + i=k + (i + 1) by lia]
theorem lH:∀(ds:List Dt) (k:Nat),(cY k ds).length=ds.length
 | [],_=>rfl
 | x::ds,k=>by show (cY (k + 1) ds).length + 1=_;rw[lH ds (k + 1)];rfl
theorem uc {A Y:Addr->Prop} {b:Bool} {l:Addr} {xs:List V} {ds:List Dt} {H:Hp} (h1:H l=some (Mx.jx b xs)) (n1:b=false->¬Y l) (hY:∀b,Y b->A b) (g1:ao K A H xs ds):Wk K A Y (Mx.Jf b l) H (cY 0 ds):=by
 have k1:∀H1,aV Y H H1->H1 l=some (Mx.jx b xs):=λH1 e=>by
  cases b with
  | false=>exact e.kp _ _ h1 (n1 rfl)
  | true=>exact e.tp _ _ h1
 have hl:=g1.length;have hz:=lH ds 0;refine⟨λi H1 hi e=>?_,λH1 e=>?_,λi x H1 H2 hi e y=>?_⟩
 ·exact⟨xs,xs[i]'(by lia),k1 H1 e,by simp⟩
 ·exact⟨xs,k1 H1 e,by lia⟩
 ·obtain⟨p,x1,rfl,hp,rfl,q⟩:=y;have q1:=q xs (k1 H1 e);obtain⟨d,a1,a2⟩:=g1.get q1;have s:=Mx.cM hp (.tup [.int i,x1]);refine⟨s,.tup [.int i,d],by rw[lG ds 0 i d a1,Nat.zero_add],λB hB=>RV.c8 aI ?_⟩;exact ao.cons RV.c7 (ao.cons (((a2.bN (B:=λb=>A b\/B b) λb z=>z.elim .inl (hB b)).mono e (λb z=> .inl (hY b z)) λ_ z=> .inr z).same s) ao.nil)
theorem D5 {es:List Expr} {kk:Nat} {tp:Pos} {a:Expr} {a':C} {p pos:Pos} (hK:Φ.K=X.K) (hG:Gl X "enumerate") (hm:X.mg "enumerate"=none) (hs:starEach [a] X.env=[(false,eval a X.env)]) (ha:PE X a (bz Φ Γ F g.fr a')):
  PI X (.Tuple es kk tp) (.Call (.Name "enumerate" p) [a] [] pos) (nR Φ Γ F (.enum a')):=
 nz (Mx.xW hG hm (cG ha fz (by rw[hs];rfl)) hs) λσ H Q q=>by
 obtain⟨o,ρ,S,er,q⟩:=q;unfold dM at q;rw[ab] at q;refine⟨o,ρ,S,er,ae q λp _ q x H1 aY aA=>?_⟩;have uH:p5 (.enum a')=lk a':=rfl;split at q
 ·rename_i ds e1;obtain⟨c1,l1,xs,rfl,f1,JK,f2⟩:=cc e1 aY.val aY.val.one;refine⟨c1,l1,xs,rfl,f1,q _ _ ⟨aY.ext,λl=>?_,λl=>?_,λl=>by unfold jV at l;cases l⟩ aA⟩
  ·rw[uH] at l;obtain⟨vR,KG,pY,e',qy,_,Cu⟩:=cc e1 aY.val (aY.oh l);cases e';have i1:c1=vR/\xs=pY:=by rw[f1] at qy;cases c1 <;> cases vR <;> first | (cases qy;exact⟨rfl,rfl⟩) | cases qy
   obtain⟨rfl,rfl⟩:=i1;exact uc f1 (λz w=>JK z (.inr w)) aA.da Cu
  ·rw[uH] at l;obtain⟨vR,KG,pY,e',qy,Gz,Cu⟩:=cc e1 (aY.cQ l) (aY.cQ l).one;cases e';have i1:c1=vR/\xs=pY:=by rw[f1] at qy;cases c1 <;> cases vR <;> first | (cases qy;exact⟨rfl,rfl⟩) | cases qy
   obtain⟨rfl,rfl⟩:=i1;exact uc f1 Gz (λ_ z=>z) Cu
 ·exact q.elim
end
noncomputable def yD:List Nat->vA
 | []=>CA
 | i::is=>wH (dQ i) (yD is)
noncomputable def BV (K:Frag):Tg->TG
 | .nm i=>dQ i
 | .tp is=>CB K is.length (yD is)
section
variable {X:Cx} {Φ:Fm} {Γ:Gm} {F:FT} {g:G} {xv:Nat->Value} {CX:jm} {k:Nat} {K:Frag}
theorem kC {x:Str} {i:Nat} (h:fB Γ x=some i):xE (Γ.names.lookup x)=true/\dD x=true/\Γ.N[i]?=some x:=by
 unfold fB at h;split at h
 ·rename_i c;rw[O7] at c;exact⟨c.1,c.2,mZ h⟩
 ·cases h
theorem tR {x:Str} {i:Nat} (h:slot Γ x=some i):yK (Γ.names.lookup x)=true/\dD x=true/\Γ.N[i]?=some x:=by
 unfold slot at h;split at h
 ·rename_i c;rw[O7] at c;exact⟨c.1,c.2,mZ h⟩
 ·cases h
theorem il {e:Expr} {i:Nat} (h:pd Γ e=some i):∃x p,e= .Name x p/\fB Γ x=some i/\plainS Γ i=true:=by
 unfold pd at h;split at h
 ·rename_i x p;obtain⟨j,h1,h2⟩:=O4.mp h;split at h2
  ·cases h2;exact⟨x,p,rfl,h1,by assumption⟩
  ·cases h2
 ·cases h
theorem BN {e:Expr} {i:Nat} (gx:GX g Γ X) (h:pd Γ e=some i):PG X e (dQ i):=by obtain⟨x,p,rfl,h1,_⟩:=il h;obtain⟨a,b,c⟩:=kC h1;obtain⟨l1,l2⟩:=gx.loc x a;exact AK (gx.N▸gx.nd) (by rw[gx.N];exact c) l1 l2
theorem BO (gx:GX g Γ X):∀{es:List Expr} {is:List Nat},iS Γ es=some is->E4 X es (yD is)/\es.length=is.length/\∀e∈es,∃x p,e= .Name x p
 | [],is,h=>by cases h;exact⟨AL,rfl,λe z=>by cases z⟩
 | e::es,is,h=>by
  unfold iS at h;obtain⟨i,h1,h2⟩:=O4.mp h;obtain⟨js,h3,rfl⟩:=Pn.mp h2;obtain⟨k1,k2,k3⟩:=BO gx h3;obtain⟨x,p,ex,_⟩:=il h1;refine⟨xV (BN gx h1) k1 (by subst ex;rfl),by simp[k2],λe' z=>?_⟩;rcases Pk.mp z with rfl | z
  ·exact⟨x,p,ex⟩
  ·exact k3 e' z
theorem kf {env:Env}:∀{es:List Expr},(∀e∈es,∃x p,e=Expr.Name x p)->(assignEach es env).length=es.length/\(assignEach es env).findIdx? (·.1)=none
 | [],_=>⟨rfl,rfl⟩
 | e::es,h=>by
  obtain⟨x,p,rfl⟩:=h e Pe;obtain⟨h1,h2⟩:=kf (es:=es) (env:=env) λe' z=>h e' (Pb _ z)
  have q:assignEach (Expr.Name x p::es) env=(false,assign (.Name x p) env)::assignEach es env:=rfl;rw[q];refine⟨by simp[h1],?_⟩;rw[List.findIdx?_cons];simp[h2]
theorem rh {e:Expr} {t:Tg} (gx:GX g Γ X) (h:qk Γ e=some t):PG X e (BV X.K t):=by
 unfold qk at h;split at h
 ·obtain⟨i,h1,rfl⟩:=Pn.mp h;exact BN gx h1
 ·obtain⟨is,h1,rfl⟩:=Pn.mp h;obtain⟨k1,k2,k3⟩:=BO gx h1;obtain⟨n1,n2⟩:=kf (env:=X.env) k3;exact DK gx.calm k1 (by rw[n1,k2]) n2
 ·cases h
theorem fE {e:Expr} {t:Tg} (h:qk Γ e=some t):∀i∈aS t,plainS Γ i=true/\∃x,fB Γ x=some i:=by
 have many:∀{es:List Expr} {is:List Nat},iS Γ es=some is->∀i∈is,plainS Γ i=true/\∃x,fB Γ x=some i:=by
  intro es
  induction es with
  | nil=>intro is h i hi;cases h;cases hi
  | cons e es ih=>
   intro is h i hi;unfold iS at h;obtain⟨j,h1,h2⟩:=O4.mp h;obtain⟨js,h3,rfl⟩:=Pn.mp h2;rcases Pk.mp hi with rfl | hi
   ·obtain⟨x,p,_,k1,k2⟩:=il h1;exact⟨k2,x,k1⟩
   ·exact ih h3 i hi
 unfold qk at h;split at h
 ·obtain⟨j,h1,rfl⟩:=Pn.mp h;intro i hi;have:i=j:=by simpa [aS] using hi
  subst this;obtain⟨x,p,_,k1,k2⟩:=il h1;exact⟨k2,x,k1⟩
 ·obtain⟨is,h1,rfl⟩:=Pn.mp h;exact many h1
 ·cases h
theorem iq {i:Nat} (h:plainS Γ i=true):eJ Γ i=false/\Γ.δ≠some i:=by unfold plainS at h;rw[O7] at h;refine⟨by simpa using h.1,λe=>?_⟩;rw[e] at h;simp at h
theorem ER.set {o:Ow} {ρ:ak} {S:Sx} {σ:L2.St} {H:Hp} {i:Nat} {v:V} {d:Dt} (er:ER Φ Γ o ρ S σ H) (hp:plainS Γ i=true) (h:RV Φ.K o.A H v d):ER Φ Γ o (ρ.set i (some d)) S (σ.set i (some v)) H where
 len:=by rw[List.length_set,List.length_set];exact er.len
 wa:=er.wa
 da:=er.da
 al:=er.al
 val:=λj e he=>by
  by_cases hj:j=i
  ·subst hj;rw[List.getElem?_set] at he;simp only[if_true] at he;split at he
   ·rename_i bX;cases he;refine⟨v,by rw[P4 (by rw[er.len];exact bX)],?_⟩;rw[(iq hp).1,if_neg (by simp)];exact h
   ·cases he
  ·rw[Pp (Ne.symm hj)] at he;obtain⟨w,h1,h2⟩:=er.val j e he;exact⟨w,by rw[Pp (Ne.symm hj)];exact h1,h2⟩
 inj:=λa b c e f ha hb h1 h2 h3 h4=>by
  have na:a≠i:=λz=>by rw[z,(iq hp).1] at ha;cases ha
  have nb:b≠i:=λz=>by rw[z,(iq hp).1] at hb;cases hb
  rw[Pp (Ne.symm na)] at h1 h3;rw[Pp (Ne.symm nb)] at h2 h4;exact er.inj a b c e f ha hb h1 h2 h3 h4
 drw:=er.drw
 drn:=er.drn
 drs:=λj a hj ha=>by rw[Pp (λz=>(iq hp).2 (by rw[z];exact hj))];exact er.drs j a hj ha
 dr0:=er.dr0
 ent:=er.ent
theorem tY {o:Ow} {S:Sx} {H:Hp} {Q:L2.St->Hp->Prop}:∀{is:List Nat} {ds:List Dt} {xs:List V} {ρ ρ1:ak} {σ:L2.St},ER Φ Γ o ρ S σ H->(∀i∈is,plainS Γ i=true)->ao Φ.K o.A H xs ds->df is ds ρ= .ok ρ1->(∀σ1,ER Φ Γ o ρ1 S σ1 H->(∀k,k∉is->σ1[k]?=σ[k]?/\ρ1[k]?=ρ[k]?)->Q σ1 H)->yD is xs σ H Q/\xs.length=is.length
 | [],ds,xs,ρ,ρ1,σ,er,_,hx,h,q=>by
  cases ds with
  | nil=>cases h;rw[hx.nil_inv];exact⟨⟨rfl,q σ er λ_ _=>⟨rfl,rfl⟩⟩,rfl⟩
  | cons=>cases h
 | i::is,ds,xs,ρ,ρ1,σ,er,hp,hx,h,q=>by
  cases ds with
  | nil=>cases h
  | cons d ds=>
   obtain⟨x,r,rfl,h1,h2⟩:=hx.cons_inv;obtain⟨k1,k2⟩:=tY (er.set (hp i Pe) h1) (λj hj=>hp j (Pb _ hj)) h2 h λσ1 aA hk=>q σ1 aA λk jw=>by
    have n1:k≠i:=λz=>jw (by rw[z];exact Pe)
    obtain⟨a1,a2⟩:=hk k λz=>jw (Pb _ z)
    rw[Pp (Ne.symm n1)] at a1 a2;exact⟨a1,a2⟩
   exact⟨⟨x,r,rfl,k1⟩,by simp[k2]⟩
theorem yC {o:Ow} {S:Sx} {H:Hp} {Q:L2.St->Hp->Prop} {t:Tg} {d:Dt} {x:V} {ρ ρ1:ak} {σ:L2.St} (er:ER Φ Γ o ρ S σ H) (hp:∀i∈aS t,plainS Γ i=true) (hx:RV Φ.K o.A H x d) (h:bU t d ρ= .ok ρ1) (q:∀σ1,ER Φ Γ o ρ1 S σ1 H->(∀k,k∉aS t->σ1[k]?=σ[k]?/\ρ1[k]?=ρ[k]?)->Q σ1 H):BV Φ.K t x σ H Q:=by
 cases t with
 | nm i=>
  cases h;exact q _ (er.set (hp i (by simp[aS])) hx) λk hk=>by
   have n1:k≠i:=λz=>hk (by simp[aS,z])
   rw[Pp (Ne.symm n1),Pp (Ne.symm n1)];exact⟨rfl,rfl⟩
 | tp is=>
  unfold bU at h;cases d with
  | tup ds=>obtain⟨a,xs,rfl,h1,h2⟩:=hx.ag;obtain⟨k1,k2⟩:=tY er hp h2 h q;exact⟨a,xs,rfl,d5.of h1,k2,k1⟩
  | _=>cases h
theorem pD:∀(is:List Nat) (ds:List Dt) (ρ:ak) (k:Nat),df is ds ρ≠ .ex k
 | [],[],_,_=>λz=>by cases z
 | [],_::_,_,_=>λz=>by cases z
 | _::_,[],_,_=>λz=>by cases z
 | _::is,_::ds,ρ,k=>pD is ds _ k
theorem pC (t:Tg) (d:Dt) (ρ:ak):∀k,bU t d ρ≠ .ex k:=by
 intro k;cases t with
 | nm i=>intro z;cases z
 | tp is=>
  cases d with
  | tup ds=>exact pD is ds ρ k
  | _=>intro z;cases z
theorem oW {Ek:Nat->Prop} {α:Type} {r:R α} {P:α->Prop} (iM:∀k,r≠ .ex k) (h:mR Ek r P):∃d,r= .ok d/\P d:=by
 cases r with
 | ok a=>exact⟨a,rfl,h⟩
 | ex k=>exact absurd rfl (iM k)
 | bad=>exact h.elim
theorem qj {sc:Scope} (gx:GX g Γ X) (hk:sc.kind= .function) (hb:vP sc.names Γ.names (aW Γ sc).1.N Γ.N (aW Γ sc).2=true):eE X sc (aW Γ sc).1.N (aW Γ sc).2:=by
 unfold vP at hb;rw[O7,O7] at hb;obtain⟨⟨h1,h2⟩,h3⟩:=hb;rw[PQ] at h1 h3;refine⟨hk,λy hy=>?_,λy hy e=>?_,λj i hj=>?_,by simpa using h2⟩
 ·have:=h1 y hy;rw[O7] at this;exact Pw this.1
 ·have:=h1 y hy;rw[O7,e] at this;have h:=this.2;simp at h;exact gx.fre y.1 h
 ·have bX:j < (aW Γ sc).2.length:=(Pa.mp hj).1;have:=h3 j (P5.mpr bX);rw[hj] at this;simp only at this;cases hx:(aW Γ sc).1.N[j]? with
  | none=>rw[hx] at this;cases this
  | some x=>rw[hx] at this;simp only[O7] at this;exact⟨x,rfl,by rw[gx.N];exact Pw this.1,Pw this.2⟩
theorem d9 {sc:Scope} {C:Addr} {s:Shared} {H:Hp} {fp:List Addr} {xe:Value->Shared->Prop} (gx:GX g Γ X) (B:eE X sc (aW Γ sc).1.N (aW Γ sc).2) (eQ:(aW Γ sc).1.N.Nodup):GX g (aW Γ sc).1 (eO X sc (aW Γ sc).1.N C s H fp xe) where
 N:=rfl
 nd:=eQ
 vis:=λx h=>by
  have hn:(aW Γ sc).1.names=sc.names:=rfl;rw[hn] at h;cases hl:sc.names.lookup x with
  | none=>rw[hl] at h;cases h
  | some kk=>
   have q:=aT (env:=X.env) hl;have q':(eO X sc (aW Γ sc).1.N C s H fp xe).env.scope.names.lookup x=_:=q;by_cases hc:(kk==NameKind.free&&X.env.scope.kind== .function&&X.env.kindOf x==some .cell)=true
   ·rw[if_pos hc] at q';exact .inr (.inl q')
   ·rw[if_neg hc] at q';rw[hl] at h;cases kk with
    | «local»=>exact .inl q'
    | cell=>exact .inr (.inl q')
    | free=>exact .inr (.inr q')
    | globalExplicit=>cases h
    | globalImplicit=>cases h
 loc:=λx h=>by
  have hn:(aW Γ sc).1.names=sc.names:=rfl;rw[hn] at h;cases hl:sc.names.lookup x with
  | none=>rw[hl] at h;cases h
  | some kk=>
   have q:=aT (env:=X.env) hl;have q':(eO X sc (aW Γ sc).1.N C s H fp xe).env.scope.names.lookup x=_:=q;rw[hl] at h;cases kk with
   | «local»=>rw[if_neg (by simp)] at q';exact⟨.inl q',.inr q'⟩
   | cell=>rw[if_neg (by simp)] at q';exact⟨.inr q',.inl (by show (sc.names.lookup x==some .cell)=true;rw[hl];rfl)⟩
   | free=>cases h
   | globalExplicit=>cases h
   | globalImplicit=>cases h
 gl:=λx h=>by
  have hn:(aW Γ sc).1.names=sc.names:=rfl;rw[hn] at h;cases hl:sc.names.lookup x with
  | none=>rw[hl] at h;cases h
  | some kk=>
   have q:=aT (env:=X.env) hl;have q':(eO X sc (aW Γ sc).1.N C s H fp xe).env.scope.names.lookup x=_:=q;rw[hl] at h;cases kk with
   | globalImplicit=>rw[if_neg (by simp)] at q';exact q'
   | «local»=>cases h
   | cell=>cases h
   | free=>cases h
   | globalExplicit=>cases h
 fre:=λx h=>by
  have hn:(aW Γ sc).1.names=sc.names:=rfl;rw[hn] at h;rcases h with hl | hl
  ·have q:=aT (env:=X.env) hl;have q':(eO X sc (aW Γ sc).1.N C s H fp xe).env.scope.names.lookup x=_:=q;rw[if_neg (by simp)] at q';exact .inl q'
  ·have q:=aT (env:=X.env) hl;have q':(eO X sc (aW Γ sc).1.N C s H fp xe).env.scope.names.lookup x=_:=q;by_cases hc:(NameKind.free==NameKind.free&&X.env.scope.kind== .function&&X.env.kindOf x==some .cell)=true
   ·rw[if_pos hc] at q';exact .inl q'
   ·rw[if_neg hc] at q';exact .inr q'
 calm:=gx.calm
 un:=gx.un
 con:=gx.con
 bl:=gx.bl
end
theorem join_some {α:Type} {o:Option (Option α)} {a:α} (h:o.join=some a):o=some (some a):=by
 cases o with
 | none=>cases h
 | some x=>cases x with
  | none=>cases h
  | some y=>simp at h;rw[h]
theorem gT {cap:List (Option Nat)} {ρ:ak} {j:Nat} {d:Dt} (h:(fT cap ρ)[j]?=some (some d)):∃i,cap[j]?=some (some i)/\ρ[i]?=some (some d):=by
 unfold fT at h;rw[Pr] at h;cases hc:cap[j]? with
 | none=>rw[hc] at h;cases h
 | some o=>
  rw[hc] at h;cases o with
  | none=>cases h
  | some i=>refine⟨i,rfl,join_some ?_⟩;simpa using h
theorem dI {cap:List (Option Nat)} {σ:L2.St} {i j:Nat} {v:V} (hc:cap[j]?=some (some i)) (h:σ[i]?=some (some v)):(cK cap σ)[j]?=some (some v):=by unfold cK;rw[Pr,hc];simp[h]
theorem sV {δ:Option Nat}:∀{cap:List (Option Nat)} {j:Nat},ET δ cap=some j->∃i,δ=some i/\cap[j]?=some (some i)
 | [],j,h=>by simp[ET] at h
 | o::r,j,h=>by
  unfold ET at h;split at h
  ·rename_i c;rw[O7] at c;cases h;cases δ with
   | none=>simp at c
   | some i=>exact⟨i,rfl,by simp[Pw c.2]⟩
  ·obtain⟨k,h1,rfl⟩:=Pn.mp h;obtain⟨i,h2,h3⟩:=sV h1;exact⟨i,h2,by simpa using h3⟩
section
variable {X:Cx} {Φ:Fm} {Γ:Gm} {F:FT} {g:G} {xv:Nat->Value} {CX:jm} {k:Nat} {K:Frag}
noncomputable def Ow.plus (o:Ow) (D:Addr):Ow:=⟨o.W,λb=>o.A b\/b=D,o.dr⟩
theorem jz {sc:Scope} {i j:Nat} (hc:(aW Γ sc).2[j]?=some (some i)):eJ (aW Γ sc).1 j=eJ Γ i:=by have e:(aW Γ sc).1.M=Cf (aW Γ sc).2 Γ.M:=rfl;unfold eJ;rw[e];unfold Cf;rw[Pr,hc];simp
theorem ER.aW {sc:Scope} {o:Ow} {ρ:ak} {S:Sx} {σ:L2.St} {H:Hp} {D:Addr} (er:ER Φ Γ o ρ S σ H) (B:eE X sc (aW Γ sc).1.N (aW Γ sc).2) (eQ:(Rx.aW Γ sc).1.N.Nodup) (hD:H D=none):
  ER Φ (Rx.aW Γ sc).1 (o.plus D) (fT (Rx.aW Γ sc).2 ρ) S (cK (Rx.aW Γ sc).2 σ) (upd H D (.lst [])):=by
 have s:=Mx.cM hD (.lst []);have av:∀b,(o.A b\/b=D)->o.A b\/H b=none:=λb z=>z.elim .inl λe=> .inr (by rw[e];exact hD)
 refine⟨?_,λa h=> .inl (er.wa a h),λa h=> .inl (er.da a h),λa h=>?_,λj d h=>?_,λj j' a d e hm hm' h1 h2 h3 h4=>?_,λa h=>?_,er.drn,λj a hj ha=>?_,er.dr0,er.ent.trans (aV.of_same s)⟩
 ·unfold cK fT;rw[Ph,Ph]
 ·rcases h with h | h
  ·obtain⟨x,hx⟩:=er.al a h;exact⟨x,s _ _ hx⟩
  ·subst h;exact⟨_,aI⟩
 ·obtain⟨i,hc,hr⟩:=gT h;obtain⟨v,h1,h2⟩:=er.val i d hr;refine⟨v,dI hc h1,?_⟩;rw[jz hc];by_cases hm:eJ Γ i=true
  ·rw[if_pos hm] at h2 ⊢;cases d with
   | lst ds=>obtain⟨a,xs,e1,e2,e3,e4,e5,e6,e7⟩:=h2;exact⟨a,xs,e1,s _ _ e2,.inl e3,e4,e5,e6,(e7.bN av).same s⟩
   | _=>exact RV.same (RV.bN av h2) s
  ·rw[if_neg hm] at h2 ⊢;exact(h2.bN av).same s
 ·obtain⟨i,hc,hr⟩:=gT h1;obtain⟨i',mQ,gK⟩:=gT h2;rw[jz hc] at hm;rw[jz mQ] at hm';obtain⟨v,k1,_⟩:=er.val i _ hr;obtain⟨v',Mw,_⟩:=er.val i' _ gK;rw[dI hc k1] at h3;rw[dI mQ Mw] at h4;cases h3;cases h4;have:=er.inj i i' a d e hm hm' hr gK k1 Mw;subst this;obtain⟨x,n1,n2,_⟩:=B.zD j i hc;obtain⟨x',Gz,IH,_⟩:=B.zD j' i mQ;rw[n2] at IH;cases IH;exact kg eQ n1 Gz
 ·obtain⟨ns,e1,e2⟩:=er.drw a h;exact⟨ns,e1,s _ _ e2⟩
 ·obtain⟨i,h1,h2⟩:=sV (show ET Γ.δ (Rx.aW Γ sc).2=some j from hj);exact dI h2 (er.drs i a h1 ha)
theorem vZ {sc:Scope} {x:Str} {i:Nat} (B:eE X sc (aW Γ sc).1.N (aW Γ sc).2) (h:fB (aW Γ sc).1 x=some i):(aW Γ sc).2[i]?=some none:=by
 obtain⟨a,b,c⟩:=kC h;have bX:i < (aW Γ sc).2.length:=by rw[B.len];exact(Pa.mp c).1
 cases hc:(aW Γ sc).2[i]? with
 | none=>rw[List.getElem?_eq_none_iff] at hc;lia
 | some o=>
  cases o with
  | none=>rfl
  | some j=>obtain⟨y,n1,_,n3⟩:=B.zD i j hc;rw[c] at n1;cases n1;have hn:(aW Γ sc).1.names=sc.names:=rfl;rw[hn,n3] at a;cases a
theorem qm {cap:List (Option Nat)} {σ:L2.St} {i:Nat} (h:cap[i]?=some none):(cK cap σ)[i]?=some none:=by unfold cK;rw[Pr,h];rfl
theorem jZ {σ0:L2.St} {t:Tg} {K:Frag} (h:∀i∈aS t,σ0[i]?=some none):GL σ0 (BV K t):=by
 have many:∀{is:List Nat},(∀i∈is,σ0[i]?=some none)->E0 σ0 (yD is):=by
  intro is
  induction is with
  | nil=>intro _;exact zO
  | cons i is ih=>intro hs;exact wO (hs i Pe) (ih λj hj=>hs j (Pb _ hj))
 cases t with
 | nm i=>exact zN (h i (by simp[aS]))
 | tp is=>exact CD (many h)
theorem nT {sc:Scope} {e:Expr} {t:Tg} {σ:L2.St} (B:eE X sc (aW Γ sc).1.N (aW Γ sc).2) (h:qk (aW Γ sc).1 e=some t):∀i∈aS t,(cK (aW Γ sc).2 σ)[i]?=some none:=λi hi=>by obtain⟨_,x,hx⟩:=fE h i hi;exact qm (vZ B hx)
noncomputable def B1 (Γ:Gm) (ρ:ak) (σ:L2.St) (D:Addr):Prop:=∀(j:Nat) (d:List Dt),eJ Γ j=true->ρ[j]?=some (some (.lst d))->σ[j]?≠some (some (.ref D))
theorem ua {H:Hp} {D:Addr} {acc dB:List V} (hD:H D=some (.lst acc)):aV (λb=>b=D) H (upd H D (.lst dB)):=⟨λb o h n=>by rw[ax n];exact h,Mx.kN hD⟩
theorem ER.emit {o:Ow} {ρ:ak} {S:Sx} {σ:L2.St} {H:Hp} {D:Addr} {acc dB:List V} (er:ER Φ Γ o ρ S σ H) (hD:H D=some (.lst acc)) (hn:B1 Γ ρ σ D) (oD:o.A D) (nd:o.dr≠some D) (h0:∀x,Φ.H0 D=some x->Φ.d0=some D):ER Φ Γ o ρ S σ (upd H D (.lst dB)):=by
 have up:aV (λb=>b=D) H (upd H D (.lst dB)):=ua hD;have uA:∀b,b=D->o.A b:=λb z=>by rw[z];exact oD
 refine⟨er.len,er.wa,er.da,λa ha=>?_,λj dd h=>?_,er.inj,λa ha=>?_,er.drn,er.drs,er.dr0,?_⟩
 ·obtain⟨x,hx⟩:=er.al a ha;exact up.al hx λz=>⟨_,by rw[z];exact aI⟩
 ·obtain⟨w,h1,h2⟩:=er.val j dd h;refine⟨w,h1,?_⟩;by_cases hm:eJ Γ j=true
  ·rw[if_pos hm] at h2 ⊢;cases dd with
   | lst ds=>
    obtain⟨a,xs,e1,e2,e3,e4,e5,e6,e7⟩:=h2;have aD:a≠D:=λz=>hn j ds hm h (by rw[h1,e1,z])
    exact⟨a,xs,e1,up.kp _ _ e2 aD,e3,e4,e5,e6,e7.mono up uA λ_ z=>z⟩
   | _=>exact RV.mono up uA (λ_ z=>z) h2
  ·rw[if_neg hm] at h2 ⊢;exact h2.mono up uA λ_ z=>z
 ·obtain⟨ns,e1,e2⟩:=er.drw a ha;exact⟨ns,e1,up.kp _ _ e2 (λz=>nd (by rw[<-z];exact ha))⟩
 ·refine⟨λb x h n=>up.kp _ _ (er.ent.kp b x h n) λz=>?_,λb xs h=>up.tp _ _ (er.ent.tp b xs h)⟩;subst z;exact n (h0 x h)
theorem Wk.less {A Y Y':Addr->Prop} {J:It} {H:Hp} {ds:List Dt} (w:Wk K A Y J H ds) (h:∀b,Y' b->Y b):Wk K A Y' J H ds:=⟨λi H1 hi e=>w.go i H1 hi (e.mono h),λH1 e=>w.stop H1 (e.mono h),λi x H1 H2 hi e y=>w.yld i x H1 H2 hi (e.mono h) y⟩
theorem IO.MR {Φ:Fm} {Γ:Gm} {o:Ow} {ρ:ak} {S:Sx} {σ:L2.St} {it:ll} {nl:Bool} {H H1:Hp} {ds:List Dt} {J:It} (io:IO Φ.K o it nl H ds J H1) (er:ER Φ Γ o ρ S σ H1) (h:(decide (p5 it<=1)||nl)=true):Wk Φ.K o.A o.d J H1 ds:=by
 rcases Bool.or_eq_true_iff.mp h with h | h
 ·exact io.w1 (O9 h)
 ·exact(io.w2 h).less er.da
theorem Wk.plus {A Y:Addr->Prop} {J:It} {H:Hp} {ds:List Dt} {D:Addr} (w:Wk K A Y J H ds) (hD:H D=none):Wk K (λb=>A b\/b=D) (λb=>Y b\/b=D) J (upd H D (.lst [])) ds:=by
 have ex:∀H1,aV (λb=>Y b\/b=D) (upd H D (.lst [])) H1->aV Y H H1:=λH1 e=>⟨λb o h n=>by
   have nb:b≠D:=λz=>by rw[z,hD] at h;cases h
   exact e.kp b o (by rw[ax nb];exact h) λz=>z.elim n nb,λb xs h=>by
   have nb:b≠D:=λz=>by rw[z,hD] at h;cases h
   exact e.tp b xs (by rw[ax nb];exact h)⟩
 refine⟨λi H1 hi e=>w.go i H1 hi (ex H1 e),λH1 e=>w.stop H1 (ex H1 e),λi x H1 H2 hi e y=>?_⟩;obtain⟨s,d,hd,hv⟩:=w.yld i x H1 H2 hi (ex H1 e) y;refine⟨s,d,hd,λB hB=>hv B λb hb=>?_⟩;rcases hB b hb with (z | z) | z
 ·exact .inl z
 ·exact .inr (by rw[z];exact hD)
 ·by_cases nb:b=D
  ·exact .inr (by rw[nb];exact hD)
  ·rw[ax nb] at z;exact .inr z
structure zk (Φ:Fm) (Γ:Gm) (o:Ow) (D:Addr) (ρ:ak) (σ:L2.St) (S:Sx) (acc:List V) (es:List Dt) (H:Hp):Prop where
 at':H D=some (.lst acc)
 rv:ao Φ.K o.A H acc es
 er:ER Φ Γ o ρ S σ H
structure HU (Φ:Fm) (o:Ow) (D:Addr):Prop where
 oD:o.A D
 nd:o.dr≠some D
 h0:∀x,Φ.H0 D=some x->Φ.d0=some D
noncomputable def Yd (o:Ow) (D:Addr):Addr->Prop:=λb=>o.d b\/b=D
theorem ER.back {o:Ow} {ρ ρ':ak} {S S':Sx} {σ σ':L2.St} {H H':Hp} {D:Addr} (fx:HU Φ o D) (hn:B1 Γ ρ σ D) (er:ER Φ Γ o ρ S σ H) (Cq:ER Φ Γ o ρ' S' σ' H') (e:aV (Yd o D) H H'):ER Φ Γ o ρ S' σ H':=by
 have uA:∀b,Yd o D b->o.A b:=λb z=>z.elim (er.da b) λq=>by rw[q];exact fx.oD
 refine⟨er.len,er.wa,er.da,Cq.al,λj dd h=>?_,er.inj,Cq.drw,Cq.drn,er.drs,er.dr0,Cq.ent⟩;obtain⟨w,h1,h2⟩:=er.val j dd h;refine⟨w,h1,?_⟩;by_cases hm:eJ Γ j=true
 ·rw[if_pos hm] at h2 ⊢;cases dd with
  | lst ds=>
   obtain⟨a,xs,e1,e2,e3,e4,e5,e6,e7⟩:=h2;have aD:a≠D:=λz=>hn j ds hm h (by rw[h1,e1,z])
   exact⟨a,xs,e1,e.kp _ _ e2 (λz=>z.elim e5 aD),e3,e4,e5,e6,e7.mono e uA λ_ z=>z⟩
  | _=>exact RV.mono e uA (λ_ z=>z) h2
 ·rw[if_neg hm] at h2 ⊢;exact h2.mono e uA λ_ z=>z
theorem rN {tg:Tg} {ts:Cs} {o:Ow} {D:Addr} {ρ:ak} {σ:L2.St} {J:It} {ds:List Dt} {H1:Hp} {tb:TB} {fb:ak->Sx->R (List Dt×Sx)} {m a0:Nat} (fx:HU Φ o D) (hp:∀i∈aS tg,plainS Γ i=true) (wk:Wk Φ.K o.A (Yd o D) J H1 ds) (hn:B1 Γ ρ σ D)
  (hb:∀(ρ1:ak) (σ1:L2.St) (S:Sx) (acc:List V) (es:List Dt) (H2:Hp) (P:List Dt×Sx->Prop),B1 Γ ρ1 σ1 D->(∀k,k∉aS tg->σ1[k]?=σ[k]?/\ρ1[k]?=ρ[k]?)->zk Φ Γ o D ρ1 σ1 S acc es H2->aV (Yd o D) H1 H2->acc.length + m<=a0 + ds.length * m->0 < ds.length->mR Φ.Ek (fb ρ1 S) P->
   ∀Q:Hp->Prop,(∀H5 r gQ,P r->zk Φ Γ o D ρ1 σ1 r.2 gQ (es++r.1) H5->aV (Yd o D) H2 H5->gQ.length<=acc.length + m->Q H5)->tb σ1 H2 Q)
  {S:Sx} {acc:List V} {es:List Dt} {P:List Dt×Sx->Prop} (c:zk Φ Γ o D ρ σ S acc es H1) (ha:acc.length<=a0) (q:mR Φ.Ek (bb (bp tg (cq F ts) fb ρ) ds S) P) {Fn:Hp->Prop}
  (fin:∀H5 r gQ,P r->zk Φ Γ o D ρ σ r.2 gQ (es++r.1) H5->aV (Yd o D) H1 H5->gQ.length<=a0 + ds.length * m->Fn H5):oq J (BV Φ.K tg) (pN Φ Γ F ts) tb σ Fn H1:=by
 refine⟨λi mm H2=>mm=ds.length - i/\i<=ds.length/\∃S2 mn qv,zk Φ Γ o D ρ σ S2 mn (es++qv) H2/\aV (Yd o D) H1 H2/\mn.length<=a0 + i * m/\mR Φ.Ek (bb (bp tg (cq F ts) fb ρ) (ds.drop i) S2) λr=>P (qv++r.1,r.2),
  ⟨_,rfl,Nat.zero_le _,S,acc,[],by rw[PX];exact c,aV.refl,by lia,q⟩,?_⟩
 rintro i mm H2 ⟨rfl,hi,S2,mn,qv,c2,yZ,eB,q⟩;by_cases bX:i < ds.length
 ·refine .inr ⟨wk.go i H2 bX yZ,λx H3 y=>?_⟩;obtain⟨s3,d,hd,hx⟩:=wk.yld i x H2 H3 bX yZ y;have qH:=hx o.A λb z=> .inl z
  have Fu:=c2.er.grow s3;have JF:ds.drop i=d::ds.drop (i + 1):=by rw[List.drop_eq_getElem_cons bX];congr 1;exact(Pa.mp hd).2
  rw[JF] at q;unfold bb at q;rw[ab] at q;unfold bp at q;rw[ab] at q;obtain⟨ρ1,hρ,q⟩:=oW (pC _ _ _) q;refine yC Fu hp qH hρ λσ1 JJ hk=>?_
  rw[ab] at q;refine⟨o,ρ1,S2,JJ,ae q λb _ q H4 e4 Ij=>?_⟩;have LU:aV (Yd o D) H3 H4:=e4.mono λb z=> .inl z
  have Ol:B1 Γ ρ1 σ1 D:=λj dd hm h1 h2=>by
   have nj:j∉aS tg:=λz=>by rw[(iq (hp j z)).1] at hm;cases hm
   obtain⟨k1,k2⟩:=hk j nj;rw[k1] at h2;rw[k2] at h1;exact hn j dd hm h1 h2
  have uA:∀b,Yd o D b->o.A b:=λb z=>z.elim (Fu.da b) λq=>by rw[q];exact fx.oD
  have FA:H4 D=some (.lst mn):=e4.kp _ _ (s3 _ _ c2.at') fx.nd;have Mp:ao Φ.K o.A H4 mn (es++qv):=(c2.rv.same s3).mono LU uA λ_ z=>z
  have Fv:aV (Yd o D) H2 H4:=(aV.of_same s3).trans LU;have hmul:ds.length * m=(ds.length - (i + 1)) * m + (i * m + m):=by
   rw[<-Nat.succ_mul i m,<-Nat.add_mul];congr 1
   lia
  have Mj:(i + 1) * m=i * m + m:=Nat.succ_mul i m;have hz:0<=(ds.length - (i + 1)) * m:=Nat.zero_le _;cases lL:b.1 with
  | false=>rw[lL] at q;refine Gj ?_;refine⟨ds.length - (i + 1),by lia,rfl,bX,b.2,mn,qv,⟨FA,Mp,c2.er.back fx hn Ij Fv⟩,yZ.trans Fv,by lia,?_⟩;simp only[Bool.false_eq_true,if_false] at q;have q:mR Φ.Ek ((bb (bp tg (cq F ts) fb ρ) (ds.drop (i + 1)) b.2).bind λq=>R.ok (([]:List Dt)++q.1,q.2)) _:=q;rw[ab] at q;exact ae q λr _ q=>q
  | true=>
   rw[lL] at q;refine Gk ?_;simp only[if_true] at q;refine hb ρ1 σ1 b.2 mn (es++qv) H4 _ Ol hk ⟨FA,Mp,Ij⟩ (yZ.trans Fv) (by lia) (by lia) q _ λH5 r gQ q c5 e5 l5=>?_
   rw[ab] at q;refine⟨ds.length - (i + 1),by lia,rfl,bX,r.2,gQ,qv++r.1,⟨c5.at',by rw[<-Pm];exact c5.rv,c2.er.back fx hn c5.er (Fv.trans e5)⟩,(yZ.trans Fv).trans e5,by lia,ae q λr' _ q=>?_⟩;have q:P (qv++(r.1++r'.1),r'.2):=q;rw[Pm];exact q
 ·have e:i=ds.length:=by lia
  subst e;refine .inl ⟨wk.stop H2 yZ,?_⟩;rw[List.drop_length] at q;have q:P (qv++[],S2):=q;rw[PX] at q;exact fin H2 (qv,S2) mn q c2 yZ eB
theorem wq {o:Ow} {D:Addr} {c:C} {ρ:ak} {σ:L2.St} {S:Sx} {acc:List V} {es:List Dt} {H:Hp} {P:List Dt×Sx->Prop} (fx:HU Φ o D) (hn:B1 Γ ρ σ D) (cs:zk Φ Γ o D ρ σ S acc es H) (hl:acc.length < sizeLine)
  (q:mR Φ.Ek ((ev F c ρ S).bind λy=>af (bx c y.1) (.ok ([y.1],y.2))) P) (Q:Hp->Prop) (fin:∀H5 r gQ,P r->zk Φ Γ o D ρ σ r.2 gQ (es++r.1) H5->aV (Yd o D) H H5->gQ.length<=acc.length + 1->Q H5):tW D (bz Φ Γ F g.fr c) σ H Q:=by
 rw[ab] at q;refine⟨o,ρ,S,cs.er,ae q λy _ q v H5 eo5 er6=>?_⟩;obtain⟨gs,q⟩:=aM q;have e5:aV (Yd o D) H H5:=eo5.ext.mono λb z=> .inl z
 have JU:H5 D=some (.lst acc):=eo5.ext.kp _ _ cs.at' fx.nd;have uA:∀b,Yd o D b->o.A b:=λb z=>z.elim (cs.er.da b) λq=>by rw[q];exact fx.oD
 have hv:RV Φ.K o.A H5 v y.1:=by
  unfold bx at gs;rw[PY] at gs;rcases gs with gs | gs
  ·exact eo5.cQ (O9 gs)
  ·exact eo5.val.gh gs
 have up:aV (λb=>b=D) H5 (upd H5 D (.lst (acc++[v]))):=ua JU;refine⟨acc,JU,hl,fin _ ([y.1],y.2) (acc++[v]) q ⟨aI,?_,er6.emit JU hn fx.oD fx.nd fx.h0⟩ (e5.trans (up.mono λb z=> .inr z)) (by simp)⟩;exact((cs.rv.mono e5 uA λ_ z=>z).append (ao.cons hv ao.nil)).mono up (λb z=>by rw[z];exact fx.oD) λ_ z=>z
theorem tZ:2 * lim < sizeLine:=by rw[sizeLine_eq];decide
theorem lC {sc:Scope} {o:Ow} {ρ:ak} {S:Sx} {σ:L2.St} {H:Hp} {D:Addr} (er:ER Φ Γ o ρ S σ H) (B:eE X sc (aW Γ sc).1.N (aW Γ sc).2) (eQ:(Rx.aW Γ sc).1.N.Nodup) (hD:H D=none):
  HU Φ (o.plus D) D/\B1 (aW Γ sc).1 (fT (aW Γ sc).2 ρ) (cK (aW Γ sc).2 σ) D/\zk Φ (aW Γ sc).1 (o.plus D) D (fT (aW Γ sc).2 ρ) (cK (aW Γ sc).2 σ) S [] [] (upd H D (.lst [])):=by
 refine⟨⟨.inr rfl,λz=>?_,λx hx=>?_⟩,λj d hm h1 h2=>?_,⟨aI,ao.nil,er.aW B eQ hD⟩⟩
 ·obtain⟨y,hy⟩:=er.al D (er.da D z);rw[hD] at hy;cases hy
 ·by_cases hz:Φ.d0=some D
  ·exact hz
  ·have:=er.ent.kp D x hx hz;rw[hD] at this;cases this
 ·obtain⟨ii,hc,NX⟩:=gT h1;obtain⟨w',k1,k2⟩:=er.val ii _ NX;rw[<-jz hc,if_pos hm] at k2;obtain⟨a',pY,JD,ED,_⟩:=k2;rw[dI hc k1] at h2;cases h2;cases JD;rw[hD] at ED;cases ED
theorem r8 {sc:Scope} {o:Ow} {ρ:ak} {S S2:Sx} {σ:L2.St} {H H1 H2:Hp} {D:Addr} {acc:List V} {ds:List Dt} {c:C} (hc:lk c=0) (io:aV o.d H H1) (aA:ER Φ Γ o ρ S σ H1) (hD:H1 D=none) {ρ2:ak} {σ2:L2.St} (cs:zk Φ (aW Γ sc).1 (o.plus D) D ρ2 σ2 S2 acc ds H2) (ex:aV (Yd (o.plus D) D) (upd H1 D (.lst [])) H2):
  EO Φ.K g.fr o c H (.lst ds) (.ref D) H2/\ER Φ Γ o ρ S2 σ H2:=by
 have yZ:aV o.d H1 H2:=⟨λb x h n=>by
   have nb:b≠D:=λz=>by rw[z,hD] at h;cases h
   exact ex.kp b x (by rw[ax nb];exact h) λz=>z.elim n nb,λb xs h=>by
   have nb:b≠D:=λz=>by rw[z,hD] at h;cases h
   exact ex.tp b xs (by rw[ax nb];exact h)⟩
 have nA:¬o.A D:=λz=>by obtain⟨y,hy⟩:=aA.al D z;rw[hD] at hy;cases hy
 have dn:H D=none:=aA.dU io hD;have v0:RV Φ.K o.A H2 (.ref D) (.lst ds):=RV.ez cs.at' nA (cs.rv.weak λb z=> .inl z);refine⟨⟨io.trans yZ,v0.weak aA.gJ,λ_=>v0,λ_=>v0.one,λ_ vk ed=>?_⟩,aA.step yZ (λa ha=>cs.er.drw a ha) cs.er.drn⟩;cases ed;exact⟨D,acc,rfl,dn,cs.at',cs.rv.weak λb z=>z.elim (λz=> .inl (aA.gJ b z)) .inr,λ_=>cs.rv⟩
theorem yg {sc:Scope} {tg:Expr} {it:ll} {t:Tg} {ts:Cs} {c:C} (hK:Φ.K=X.K) (B:eE X sc (aW Γ sc).1.N (aW Γ sc).2) (eQ:(aW Γ sc).1.N.Nodup) (Gb:qk (aW Γ sc).1 tg=some t) {σ:L2.St} {H:Hp} {Q:VK}
  (q:bz Φ Γ F g.fr (.comp (aW Γ sc).2 it t ts c) σ H Q):nQ (aW Γ sc).2 (nR Φ Γ F it) (BV X.K t) (pN Φ (aW Γ sc).1 F ts) (λD=>tW D (bz Φ (aW Γ sc).1 F g.fr c)) σ H Q:=by
 obtain⟨o,ρ,S,er,q⟩:=q;unfold ev at q;rw[ab] at q;refine⟨o,ρ,S,er,ae q λp _ q J H1 io aA D hD=>⟨jZ (nT B Gb),?_⟩⟩;obtain⟨g1,q⟩:=aM q;rw[O7] at g1;have fm:=O9 g1.1;have wk:=(io.MR aA g1.2).plus hD;rw[ab] at q;have g0:=tZ;obtain⟨fx,hn,cs⟩:=lC (X:=X) aA B eQ hD;rw[<-hK];refine rN (m:=1) (a0:=0) fx (λi hi=>(fE Gb i hi).1) wk hn (λρ1 σ1 S1 acc es H2 P n1 hk c1 e1 hl _ q Q fin=>wq fx n1 c1 (by lia) q Q fin) cs (Nat.zero_le _) q λH5 r gQ q c5 e5 l5=>?_
 obtain⟨k1,k2⟩:=r8 (g:=g) (c:= .comp (aW Γ sc).2 it t ts c) rfl io.ext aA hD c5 e5;exact q _ _ k1 k2
theorem tP {sc:Scope} {tg tg2:Expr} {it it2:ll} {t t2:Tg} {ts EX:Cs} {c:C} (hK:Φ.K=X.K) (B:eE X sc (aW Γ sc).1.N (aW Γ sc).2) (eQ:(aW Γ sc).1.N.Nodup) (Gb:qk (aW Γ sc).1 tg=some t) (Gc:qk (aW Γ sc).1 tg2=some t2) (FP:∀i∈aS t2,i∉aS t) {σ:L2.St} {H:Hp} {Q:VK}
  (q:bz Φ Γ F g.fr (.i8 (aW Γ sc).2 it t ts it2 t2 EX c) σ H Q):nQ (aW Γ sc).2 (nR Φ Γ F it) (BV X.K t) (pN Φ (aW Γ sc).1 F ts) (λD=>Hx (nR Φ (aW Γ sc).1 F it2) (BV X.K t2) (pN Φ (aW Γ sc).1 F EX) (tW D (bz Φ (aW Γ sc).1 F g.fr c))) σ H Q:=by
 obtain⟨o,ρ,S,er,q⟩:=q;unfold ev at q;rw[ab] at q;refine⟨o,ρ,S,er,ae q λp _ q J H1 io aA D hD=>⟨jZ (nT B Gb),?_⟩⟩;obtain⟨g1,q⟩:=aM q;rw[O7] at g1;have fm:=O9 g1.1;have wk:=(io.MR aA g1.2).plus hD;rw[ab] at q;have g0:=tZ;obtain⟨fx,hn,cs⟩:=lC (X:=X) aA B eQ hD;rw[<-hK];have hdiv:p.1.length * (lim / p.1.length)<=lim:=Nat.mul_div_le _ _;refine rN (m:=lim / p.1.length) (a0:=0) fx (λi hi=>(fE Gb i hi).1) wk hn (λρ1 σ1 S1 acc es H2 P n1 hk c1 e1 hl F3 q Q fin=>?_) cs (Nat.zero_le _) q λH5 r gQ q c5 e5 l5=>?_
 ·refine⟨jZ λi hi=>?_,?_⟩
  ·rw[(hk i (FP i hi)).1];exact nT B Gc i hi
  ·rw[ab] at q;refine⟨o.plus D,ρ1,S1,c1.er,ae q λx2 _ q J2 H3 io2 Fu=>?_⟩;obtain⟨g2,q⟩:=aM q;rw[O7] at g2;have eB:=O9 g2.1;have uA:∀b,Yd (o.plus D) D b->(o.plus D).A b:=λb z=>z.elim (Fu.da b) λq=> .inr q
   have OD:=(io2.w0 (O9 g2.2)).less uA;have e3:aV (Yd (o.plus D) D) H2 H3:=io2.ext.mono λb z=> .inl z
   have EJ:x2.1.length<=lim / p.1.length:=(Nat.le_div_iff_mul_le F3).mpr (by rw[Nat.mul_comm];exact eB);refine rN (m:=1) (a0:=acc.length) fx (λi hi=>(fE Gc i hi).1) OD n1 (λρ2 σ2 S2 mn qv H4 P2 n2 hk2 c2 e2 hl _ q Q fin=>wq fx n2 c2 (by lia) q Q fin) ⟨io2.ext.kp _ _ c1.at' fx.nd,c1.rv.mono e3 uA λ_ z=>z,Fu⟩ (Pd _) q λH5 r gQ q c5 e5 l5=>?_
   exact fin H5 r gQ q c5 (e3.trans e5) (by lia)
 ·obtain⟨k1,k2⟩:=r8 (g:=g) (c:= .i8 (aW Γ sc).2 it t ts it2 t2 EX c) rfl io.ext aA hD c5 e5;exact q _ _ k1 k2
end
noncomputable def uD:Expr->Bool
 | .Starred ..=>false
 | .Slice ..=>false
 | .Set ..=>false
 | .Call (.Name _ _) [] _ _=>false
 | _=>true
theorem bL {e:Expr} (h:uD e=true) (es:List Expr) (env:Env):starEach (e::es) env=(false,eval e env)::starEach es env:=by cases e <;> first | rfl | (simp[uD] at h)
theorem FM {e:Expr} (h:uD e=true):mh e:=by intro o i;cases e <;> first | rfl | (simp[uD] at h)
theorem zS {e:Expr} (h:uD e=true) (op:CmpOp):behindInMarks op e=false:=by cases e <;> first | rfl | (simp[uD] at h)
theorem gw {e:Expr} (h:uD e=true) (env:Env):∀x,foldedSetIterable e env x=pure x:=by intro x;cases e <;> first | rfl | (simp[uD] at h)
theorem cz {X:Cx} {Φ:Fm} {Γ:Gm} {F:FT} {e:Expr} {c:C} (h:∀ρ S,cN F c ρ S= .bad):PT X e (fD Φ Γ F c):=λpins s σ H Q I q=>by obtain⟨o,ρ,S,er,q⟩:=q;rw[h] at q;exact q.elim
section
variable {g:G} {xv:Nat->Value} {CX:jm} {k:Nat} {F:FT}
structure M0 (g:G) (F:FT) (n:Nat) (Γ:Gm) (X:Cx) (Φ:Fm):Prop where
 e:∀e c,cE n g Γ e=some c->PE X e (bz Φ Γ F g.fr c)/\PT X e (fD Φ Γ F c)/\uD e=true
 es:∀es cs,vS n g Γ es=some cs->PA X es (nS Φ Γ F cs)/\cs.len=es.length/\∀e∈es,uD e=true
 ts:∀es cs,zB n g Γ es=some cs->Bj X es (pN Φ Γ F cs)
 b:∀o es c pos,cB n g Γ o es=some c->PE X (.BoolOp o es pos) (bz Φ Γ F g.fr c)/\PW X (.BoolOp o es pos) (fD Φ Γ F c)
 i:∀tg e it,cI n g Γ tg e=some it->PI X tg e (nR Φ Γ F it)/\uD e=true
 c:∀f a as c p pos,sf n g Γ f a as=some c->PE X (.Call (.Name f p) (a::as) [] pos) (bz Φ Γ F g.fr c)/\PT X (.Call (.Name f p) (a::as) [] pos) (fD Φ Γ F c)
theorem ot {es:List Expr} {env:Env} {pos:Pos} (h:∀e∈es,uD e=true):(backTo pos (starEach es env)).any (·.1)=false:=by
 induction es with
 | nil=>rfl
 | cons e es ih=>rw[bL (h e Pe)];show (false||(backTo pos (starEach es env)).any (·.1))=false;rw[ih λe' z=>h e' (Pb _ z)];rfl
theorem qW {x y:Str} (h:(x==y)=false):x≠y:=λe=>by subst e;rw[beq_self_eq_true] at h;cases h
theorem dW {x:Str} (h:dD x=true):(x==("__debug__":Str))=false/\(x==("__classdict__":Str))=false/\x≠"__name__":=by unfold dD at h;rw[O7,O7] at h;have h1:=h.1.1;have h2:=h.1.2;have h3:=h.2;rw[Bool.not_eq_true'] at h1 h2 h3;exact⟨h1,h2,qW h3⟩
noncomputable def LD:C->Bool
 | .nt _ | .and .. | .or .. | .cmp .. | .ch .. | .var _ | .mvr _ | .call .. | .callD .. | .bi .. | .idx ..=>true
 | _=>false
theorem bu {F:FT} {c:C} {ρ:ak} {S:Sx} (h:LD c=false):cN F c ρ S= .bad:=by cases c <;> first | rfl | cases h
theorem vO:∀t∈vN,DW t.2.2=true/\bootBuiltins t.1=some (EB t.2.2):=by
 intro t ht;simp only[vN,Pk,Pl,or_false] at ht;rcases ht with rfl | rfl | rfl | rfl | rfl | rfl
 ·exact⟨rfl,PySem.boot_len⟩
 ·exact⟨rfl,PyProof.Rows.boot_sum⟩
 ·exact⟨rfl,PyProof.Rows.boot_max⟩
 ·exact⟨rfl,PyProof.Rows.boot_sorted⟩
 ·exact⟨rfl,PyProof.Rows.boot_tuple⟩
 ·exact⟨rfl,PyProof.Rows.boot_list⟩
theorem zu {x:Str} {n:Nat} {b:BI} (h:qh x n=some b):DW b=true/\bootBuiltins x=some (EB b):=by unfold qh at h;obtain⟨t,h1,rfl⟩:=Pn.mp h;have hm:=List.mem_of_find?_eq_some h1;have hp:=List.find?_some h1;rw[O7] at hp;rw[<-Pw hp.1];exact vO t hm
theorem Cc {b:BI} (h:DW b=true):(∃id,EB b= .builtin id)\/∃T,EB b= .type T:=by cases b <;> first | exact .inl ⟨_,rfl⟩ | exact .inr ⟨_,rfl⟩ | cases h
theorem gq {x:Str} (h:g.bls.contains x=true):x∈g.bls:=by simpa using h
theorem Ll {X:Cx} {Φ:Fm} {Γ:Gm} {x:Str} {n:Nat} {b:BI} {a:Expr} {as:List Expr} {cs:Cs} {p pos:Pos} (hK:Φ.K=X.K) (gx:GX g Γ X) (hG:Gl X x) (hm:X.mg x=none) (hx:dD x=true) (hb:qh x n=some b) (hs:starEach (a::as) X.env=(false,eval a X.env)::starEach as X.env) (gz:(backTo pos (starEach as X.env)).any (·.1)=false)
  (ha:PA X (a::as) (nS Φ Γ F cs)):PE X (.Call (.Name x p) (a::as) [] pos) (bz Φ Γ F g.fr (.bi b cs)):=by
 obtain⟨h1,h2⟩:=zu hb;obtain⟨n1,n2,n3⟩:=dW hx;have hc:=zv (X:=X) b h1 gx.calm gx.un;rcases Cc h1 with ⟨id,e⟩ | ⟨T,e⟩
 ·rw[e] at h2 hc;exact bc (pf hc hG hm h2 ha n3 n1 hs gz) λσ H Q q=>wC hK q
 ·rw[e] at h2 hc;exact bc (uY hc hG hm h2 ha n3 n1 hs gz) λσ H Q q=>wC hK q
theorem qI {X:Cx} {Φ:Fm} {sc:Scope} {N':List Str} {C:Addr} {s:Shared} {H:Hp} {fp:List Addr} (hX:HX g xv CX k F Φ X):HX g xv CX k F Φ (eO X sc N' C s H fp (rR X sc N' (lj Φ xv) C s H fp)) where
 K:=hX.K
 fx:=hX.fx
 room:=hX.room
 cx:=hX.cx
 st:=nO hX.st
 xgx:=λe s' h=>yN h
 xk:=hX.xk
theorem iB (n:Nat):∀(Γ:Gm) (X:Cx) (Φ:Fm),GX g Γ X->HX g xv CX k F Φ X->M0 g F n Γ X Φ:=by
 induction n with
 | zero=>intro Γ X Φ gx hX;exact⟨λe c h=>by simp[cE] at h,λe c h=>by simp[vS] at h,λe c h=>by simp[zB] at h,λo e c p h=>by simp[cB] at h,λo e c h=>by simp[cI] at h,λf a as c p q h=>by simp[sf] at h⟩
 | succ n ih=>
  intro Γ X Φ gx hX;have I:=ih Γ X Φ gx hX;have hK:=hX.K;have hu:=gx.un;refine⟨λe c h=>?_,λes cs h=>?_,λes cs h=>?_,λo es c pos h=>?_,λtg e it h=>?_,λf a as c p pos h=>?_⟩
  ·
   unfold cE at h;split at h
   ·split at h
    ·cases h;exact⟨pB rfl xT,cz λρ S=>bu rfl,rfl⟩
    ·cases h;exact⟨pB rfl DH,cz λρ S=>bu rfl,rfl⟩
    ·cases h;exact⟨pB rfl GR,cz λρ S=>bu rfl,rfl⟩
    ·cases h;exact⟨pB rfl DE,cz λρ S=>bu rfl,rfl⟩
    ·cases h
   ·
    rename_i x p;split at h
    ·rename_i i hi;obtain⟨v1,v2,v3⟩:=tR hi;obtain⟨n1,n2,n3⟩:=dW v2;have hv:PE X (.Name x p) (lg i):=xU (by rw[gx.N];exact v3) (gx.vis x v1) n1 n2;split at h
     ·cases h
     split at h
     ·rename_i hm;cases h;have:=G9 (Φ:=Φ) (F:=F) (fr:=g.fr) hv hm;exact⟨this,iy hK this (λ_=>rfl) (λρ S=>by rw[cN,ev];cases fk ρ i <;> rfl),rfl⟩
     ·rename_i hm;cases h;have:=Hf (Φ:=Φ) (F:=F) (fr:=g.fr) hv (by simpa using hm);exact⟨this,iy hK this (λ_=>rfl) (λρ S=>by rw[cN,ev];cases fk ρ i <;> rfl),rfl⟩
    ·split at h
     ·rename_i hg;rw[O7] at hg;obtain⟨d,h1,rfl⟩:=Pn.mp h;obtain⟨u,k1,k2,k3⟩:=gx.con x d h1;exact⟨pB k1 (AH (gx.gl x hg.1) k2 k3 (dW hg.2).1),cz λρ S=>bu rfl,rfl⟩
     ·cases h
   ·obtain⟨a',h1,h⟩:=O4.mp h;obtain⟨b',h2,h⟩:=O4.mp h;cases h;exact⟨G4 hK (I.e _ _ h1).1 (I.e _ _ h2).1,cz λρ S=>bu rfl,rfl⟩
   ·obtain⟨a',h1,h9⟩:=O4.mp h;clear h;split at h9
    ·cases h9;exact⟨Ha (I.e _ _ h1).1,cz λρ S=>bu rfl,rfl⟩
    ·cases h9;exact⟨Lm (I.e _ _ h1).1,Hc (I.e _ _ h1).2.1,rfl⟩
    ·cases h9
   ·obtain⟨k1,k2⟩:=I.b _ _ _ _ h;exact⟨k1,k2.pt,rfl⟩
   ·split at h
    ·obtain⟨a',h1,h⟩:=O4.mp h;obtain⟨b',h2,h⟩:=O4.mp h;cases h;have hm:=zS (I.e _ _ h2).2.2;exact⟨G5 hK hu (hm _) (I.e _ _ h1).1 (I.e _ _ h2).1,D3 hK hu (hm _) (I.e _ _ h1).1 (I.e _ _ h2).1,rfl⟩
    ·cases h
   ·split at h
    ·obtain⟨a',h1,h⟩:=O4.mp h;obtain⟨b',h2,h⟩:=O4.mp h;cases h;exact⟨D9 hK (I.e _ _ h1).1 (I.e _ _ h2).1,cz λρ S=>bu rfl,rfl⟩
    ·obtain⟨a',h1,h⟩:=O4.mp h;obtain⟨b',h2,h⟩:=O4.mp h;cases h;exact⟨D8 hK (I.e _ _ h1).1 (I.e _ _ h2).1,cz λρ S=>bu rfl,rfl⟩
    ·obtain⟨a',h1,h⟩:=O4.mp h;obtain⟨b',h2,h⟩:=O4.mp h;cases h;have k1:=λpos=>G6 (pos:=pos) hK (FM (I.e _ _ h2).2.2) (I.e _ _ h1).1 (I.e _ _ h2).1
     refine⟨k1 _,iy hK (k1 _) (λ_=>rfl) (λρ S=>?_),rfl⟩;rw[cN,ev];cases ev F a' ρ S with
     | ok x=>
      simp only[R.ai];cases ev F b' ρ x.2 with
      | ok y=>simp only[R.ai];cases cP x.1 y.1 <;> rfl
      | ex k=>rfl
      | bad=>rfl
     | ex k=>rfl
     | bad=>rfl
   ·obtain⟨dk,h1,h⟩:=O4.mp h;cases h;exact⟨He (I.es _ _ h1).1,cz λρ S=>bu rfl,rfl⟩
   ·obtain⟨dk,h1,h⟩:=O4.mp h;cases h;exact⟨G8 (I.es _ _ h1).1,cz λρ S=>bu rfl,rfl⟩
   ·split at h
    ·obtain⟨k1,k2⟩:=I.c _ _ _ _ _ _ h;exact⟨k1,k2,rfl⟩
    ·
     split at h
     ·rename_i hg;simp only[O7] at hg;obtain⟨⟨⟨h1,h2⟩,h3⟩,h4⟩:=hg;have e1:=Pw h1;have e2:=Pw h2;subst e1 e2;obtain⟨a',h5,h⟩:=O4.mp h;cases h;have k1:=λp kk cp kp pos i=>D6 (p:=p) (kk:=kk) (cp:=cp) (kp:=kp) (pos:=pos) (i:=i) hK gx.calm (gx.gl _ h3) (gx.bl _ (gq h4)) (bL (I.e _ _ h5).2.2 [] _) (I.e _ _ h5).1
      refine⟨k1 _ _ _ _ _ _,iy hK (k1 _ _ _ _ _ _) (λ_=>rfl) (λρ S=>?_),rfl⟩;rw[cN,ev];cases eZ F (.cons a' .nil) ρ S with
      | ok x=>simp only[R.ai];cases dG (.maxD _) x.1 <;> rfl
      | ex k=>rfl
      | bad=>rfl
     ·cases h
    ·cases h
   ·
    rename_i elt gens sc pos;split at h
    ·rename_i hk;split at h
     ·rename_i tg it ifs;obtain⟨jk,h1,h⟩:=O4.mp h;obtain⟨kI,h2,h⟩:=O4.mp h;obtain⟨nU,h3,h⟩:=O4.mp h;obtain⟨e',h4,h⟩:=O4.mp h;split at h
      ·rename_i hb;cases h;rw[O7] at hb;have CK:sc.kind= .function:=Pw hk;have B:=qj gx CK hb.1;have eQ:(aW Γ sc).1.N.Nodup:=O9 hb.2;have J:=λC s H fp=>ih (aW Γ sc).1 (eO X sc (aW Γ sc).1.N C s H fp (rR X sc (aW Γ sc).1.N (lj Φ xv) C s H fp)) Φ (d9 gx B eQ) (qI hX)
       refine⟨bc (ph (xb:=rR X sc (aW Γ sc).1.N (lj Φ xv)) (body:=λacc env=>gr elt acc env) gx.calm B (jJ hX.st hX.xgx) (I.i _ _ _ h1).1 (λn8 acc env=>pQ ..) (λC s H fp=>rh (d9 gx B eQ) h2) (λC s H fp=>(J C s H fp).ts _ _ h3) (λC s H fp D=>jF ((J C s H fp).e _ _ h4).1) (gw (I.i _ _ _ h1).2 _)) λσ H Q q=>yg hK B eQ h2 q,cz λρ S=>bu rfl,rfl⟩
      ·cases h
     ·rename_i tg it ifs tg2 it2 bY;obtain⟨jk,h1,h⟩:=O4.mp h;obtain⟨kI,h2,h⟩:=O4.mp h;obtain⟨nU,h3,h⟩:=O4.mp h;obtain⟨oQ,h5,h⟩:=O4.mp h;obtain⟨kJ,h6,h⟩:=O4.mp h;obtain⟨pP,h7,h⟩:=O4.mp h;obtain⟨e',h4,h⟩:=O4.mp h;split at h
      ·rename_i hb;cases h;rw[O7,O7] at hb;have CK:sc.kind= .function:=Pw hk;have B:=qj gx CK hb.1.1;have eQ:(aW Γ sc).1.N.Nodup:=O9 hb.1.2;have FP:∀i∈aS kJ,i∉aS kI:=λi hi z=>by have:=PQ.mp hb.2 i hi;simp[z] at this
       have J:=λC s H fp=>ih (aW Γ sc).1 (eO X sc (aW Γ sc).1.N C s H fp (rR X sc (aW Γ sc).1.N (lj Φ xv) C s H fp)) Φ (d9 gx B eQ) (qI hX)
       refine⟨bc (ph (xb:=rR X sc (aW Γ sc).1.N (lj Φ xv)) (body:=λacc env=>nextOf (.ListComp elt [⟨tg,it,ifs,0⟩,⟨tg2,it2,bY,0⟩] sc pos) 1 it2 acc env) gx.calm B (jJ hX.st hX.xgx) (I.i _ _ _ h1).1 (λn8 acc env=>pR ..) (λC s H fp=>rh (d9 gx B eQ) h2) (λC s H fp=>(J C s H fp).ts _ _ h3)
        (λC s H fp D=>tF gx.calm (tE hX.st) ((J C s H fp).i _ _ _ h5).1 (rh (d9 gx B eQ) h6) ((J C s H fp).ts _ _ h7) (jF ((J C s H fp).e _ _ h4).1) (gw ((J C s H fp).i _ _ _ h5).2 _)) (gw (I.i _ _ _ h1).2 _)) λσ H Q q=>tP hK B eQ h2 h6 FP q,cz λρ S=>bu rfl,rfl⟩
      ·cases h
     ·cases h
    ·cases h
   ·cases h
  ·
   unfold vS at h;split at h
   ·cases h;exact⟨Hb,rfl,λe z=>by cases z⟩
   ·obtain⟨e',h1,h⟩:=O4.mp h;obtain⟨dk,h2,h⟩:=O4.mp h;cases h;obtain⟨k1,k2,k3⟩:=I.es _ _ h2;refine⟨D4 (bL (I.e _ _ h1).2.2 _ _) (I.e _ _ h1).1 k1,by simp[Cs.len,k2],λe z=>?_⟩;rcases Pk.mp z with rfl | z
    ·exact(I.e _ _ h1).2.2
    ·exact k3 e z
  ·
   unfold zB at h;split at h
   ·cases h;exact λpins s σ H Q I q=>AV pins s σ H Q I (by obtain⟨o,ρ,S,er,q⟩:=q;rw[cq] at q;exact q _ aV.refl er)
   ·obtain⟨e',h1,h⟩:=O4.mp h;cases h;refine λpins s σ H Q I' q=>AW (I.e _ _ h1).2.1 pins s σ H Q I' ?_
    obtain⟨o,ρ,S,er,q⟩:=q;rw[cq] at q;exact⟨o,ρ,S,er,q⟩
   ·cases h
  ·
   unfold cB at h;split at h
   ·rename_i e;have k1:=(I.e _ _ h).1;have k2:=(I.e _ _ h).2.1;refine⟨DG k1,?_⟩;cases o with
    | And=>exact AX k2
    | Or=>exact DS k2
   ·rename_i e es iM;obtain⟨e',h1,h⟩:=O4.mp h;obtain⟨dk,h2,h⟩:=O4.mp h;cases h;cases es with
    | nil=>exact(iM rfl).elim
    | cons b rest=>
     obtain⟨k1,k2⟩:=I.b o _ _ pos h2;cases o with
     | And=>exact⟨G3 (I.e _ _ h1).1 k1,D2 (I.e _ _ h1).2.1 k2⟩
     | Or=>exact⟨Ln (I.e _ _ h1).1 k1,Hd (I.e _ _ h1).2.1 k2⟩
   ·cases h
  ·
   unfold cI at h;split at h
   ·rename_i f p a q;split at h
    ·rename_i hf;have ef:=Pw hf;subst ef;split at h
     ·rename_i hg;rw[O7] at hg;obtain⟨a',h1,h⟩:=O4.mp h;cases h;exact⟨D7 (gx.gl _ hg.1) (gx.bl _ (gq hg.2)) (bL (I.e _ _ h1).2.2 [] _) (I.e _ _ h1).1,rfl⟩
     ·cases h
    split at h
    ·rename_i hf;have ef:=Pw hf;subst ef;split at h
     ·split at h
      ·rename_i hg;rw[O7] at hg;obtain⟨a',h1,h⟩:=O4.mp h;cases h;exact⟨D5 hK (gx.gl _ hg.1) (gx.bl _ (gq hg.2)) (bL (I.e _ _ h1).2.2 [] _) (I.e _ _ h1).1,rfl⟩
      ·cases h
     ·cases h
    ·obtain⟨c,h1,h⟩:=O4.mp h;cases h;exact⟨yh hK (I.e _ _ h1).1,rfl⟩
   ·rename_i f p a b q;split at h
    ·rename_i hf;have ef:=Pw hf;subst ef;split at h
     ·cases h
     ·cases h
    split at h
    ·rename_i hf;have ef:=Pw hf;subst ef;split at h
     ·split at h
      ·rename_i hg;rw[O7] at hg;obtain⟨a',h1,h⟩:=O4.mp h;obtain⟨b',h2,h⟩:=O4.mp h;cases h;have e2:=bL (I.e _ _ h2).2.2 [] X.env;exact⟨Hg hK (gx.gl _ hg.1) (gx.bl _ (gq hg.2)) (by rw[bL (I.e _ _ h1).2.2,e2];rfl) e2 (I.e _ _ h1).1 (I.e _ _ h2).1,rfl⟩
      ·cases h
     ·cases h
    ·obtain⟨c,h1,h⟩:=O4.mp h;cases h;exact⟨yh hK (I.e _ _ h1).1,rfl⟩
   ·obtain⟨c,h1,h⟩:=O4.mp h;cases h;exact⟨yh hK (I.e _ _ h1).1,(I.e _ _ h1).2.2⟩
  ·
   have tr:∀{c:C},(∀ρ S,cN F c ρ S=(ev F c ρ S).bind λx=>(du x.1).bind λb=> .ok (b,x.2))->PE X (.Call (.Name f p) (a::as) [] pos) (bz Φ Γ F g.fr c)->PE X (.Call (.Name f p) (a::as) [] pos) (bz Φ Γ F g.fr c)/\PT X (.Call (.Name f p) (a::as) [] pos) (fD Φ Γ F c):=λhe h=>⟨h,iy hK h (λ_=>rfl) he⟩
   have JE:∀(b:BI) (cs:Cs) ρ S,cN F (.bi b cs) ρ S=(ev F (.bi b cs) ρ S).bind λx=>(du x.1).bind λb=> .ok (b,x.2):=λb cs ρ S=>by
    rw[cN,ev];cases eZ F cs ρ S with
    | ok x=>simp only[R.ai];cases dG b x.1 <;> rfl
    | ex k=>rfl
    | bad=>rfl
   have M8:∀(f:Nat) (cs:Cs) (ds:List Dt) ρ S,cN F (.call f cs ds) ρ S=(ev F (.call f cs ds) ρ S).bind λx=>(du x.1).bind λb=> .ok (b,x.2):=λf cs ds ρ S=>by
    rw[cN,ev];cases eZ F cs ρ S with
    | ok x=>simp only[R.ai];cases F f (x.1++ds) none <;> rfl
    | ex k=>rfl
    | bad=>rfl
   have OJ:∀(f:Nat) (cs:Cs) ρ S,cN F (.callD f cs) ρ S=(ev F (.callD f cs) ρ S).bind λx=>(du x.1).bind λb=> .ok (b,x.2):=λf cs ρ S=>by
    rw[cN,ev];cases S.isSome with
    | false=>rfl
    | true=>
     simp only[guard_true];cases eZ F cs ρ S with
     | ok x=>
      simp only[R.ai];cases x.2 with
      | none=>rfl
      | some s=>rfl
     | ex k=>rfl
     | bad=>rfl
   unfold sf at h;split at h
   ·rename_i hg;rw[O7] at hg;have Io:=gx.gl f hg.1;obtain⟨n1,n2,n3⟩:=dW hg.2;split at h
    ·rename_i kk np eY ba wY;split at h
     ·
      rename_i hdp;have:ba=true:=hdp;subst this;split at h
      ·rename_i y yp;split at h
       ·rename_i i hi;split at h
        ·cases h
        ·cases h
       ·cases h
      ·cases h
     ·rename_i hdp;have:ba=false:=by simpa using hdp
      subst this;split at h
      ·rename_i hn;rw[O7] at hn;have a1:=O9 hn.1;have a2:=O9 hn.2;obtain⟨es,h1,h⟩:=O4.mp h;cases h;obtain⟨k1,k2,k3⟩:=I.es _ _ h1;refine tr (M8 _ _ _) (s_call hX Io n1 wY (Nat.sub_le _ _) ?_ (bL (k3 a Pe) _ _) (ot λe z=>k3 e (Pb _ z)) k1);rw[k2,List.length_drop,Pq]
       lia
      ·cases h
    ·split at h
     ·rename_i hbl;have hm:=gx.bl f (gq hbl);split at h
      ·cases h
      split at h
      ·rename_i hisi;have ef:=Pw hisi;subst ef;split at h
       ·rename_i t tp hnl;split at h
        ·rename_i zc;rw[O7] at zc;obtain⟨T,h1,h⟩:=O4.mp h;obtain⟨a',h2,h⟩:=O4.mp h;cases h;have tn:t≠"__name__"/\(t==("__debug__":Str))=false:=by
          unfold rL at h1;split at h1
          ·rename_i e;rw[Pw e];exact⟨by decide,by decide⟩
          split at h1
          ·rename_i e;rw[Pw e];exact⟨by decide,by decide⟩
          split at h1
          ·rename_i e;rw[Pw e];exact⟨by decide,by decide⟩
          split at h1
          ·rename_i e;rw[Pw e];exact⟨by decide,by decide⟩
          split at h1
          ·rename_i e;rw[Pw e];exact⟨by decide,by decide⟩
          ·cases h1
         exact tr (JE _ _) (G7 hK Io hm (gx.gl t zc.1) (gx.bl t (gq zc.2)) h1 tn.1 tn.2 (bL (I.e _ _ h2).2.2 _ _) (I.e _ _ h2).1)
        ·cases h
       ·cases h
      ·have regular:∀{c:C},((qh f (as.length + 1)).bind λi=>(vS n g Γ (a::as)).bind λes=>some (C.bi i es))=some c->PE X (.Call (.Name f p) (a::as) [] pos) (bz Φ Γ F g.fr c)/\PT X (.Call (.Name f p) (a::as) [] pos) (fD Φ Γ F c):=λ {c} h=>by obtain⟨b,h1,h⟩:=O4.mp h;obtain⟨es,h2,h⟩:=O4.mp h;cases h;obtain⟨k1,k2,k3⟩:=I.es _ _ h2;exact tr (JE _ _) (Ll hK gx Io hm hg.2 h1 (bL (k3 a Pe) _ _) (ot λe z=>k3 e (Pb _ z)) k1)
       split at h
       ·rename_i r rp b rq;split at h
        ·cases h
        split at h
        ·rename_i hr;have er:=Pw hr;subst er;split at h
         ·rename_i zc;rw[O7,O7] at zc;have ef:=Pw zc.2;subst ef;obtain⟨b',h1,h9⟩:=O4.mp h;cases h9;exact tr (JE _ _) (Ea hK gx.calm gx.un Io hm (gx.gl _ zc.1.1) (gx.bl _ (gq zc.1.2)) (bL (I.e _ _ h1).2.2 [] _) (I.e _ _ h1).1)
         ·cases h
        ·exact regular h
       ·rename_i r rp b c rq zz;split at h
        ·cases h
        ·exact regular h
       ·exact regular h
     ·cases h
   ·cases h
end
structure OI (Φ:Fm) (W:Addr->Prop) (o:Ow):Prop where
 w:o.W=W
 d:∀a,Φ.d0=some a->o.dr=some a
structure SO (Φ:Fm) (Γ:Gm) (W:Addr->Prop) (o:Ow) (H:Hp) (ρ':ak) (S':Sx) (σ':L2.St) (H':Hp):Prop where
 ex:∃o',OI Φ W o'/\ER Φ Γ o' ρ' S' σ' H'/\∀b,o'.A b->o.A b\/H b=none
 ext:aV o.A H H'
 al:∀b x,H b=some x->∃y,H' b=some y
structure RO (Φ:Fm) (W:Addr->Prop) (fF:Bool) (d:Dt) (S':Sx) (v:V) (H':Hp):Prop where
 val:RV Φ.K W H' v d
 ent:aV (λb=>Φ.d0=some b) Φ.H0 H'
 drw:∀a,Φ.d0=some a->∃ns:List Int,S'=some ns/\H' a=some (.lst (ns.map V.int))
 eI:fF=true->∀ds,d= .lst ds->∃a xs,v= .ref a/\Φ.H0 a=none/\H' a=some (.lst xs)/\ao Φ.K (λb=>W b\/b=a) H' xs ds
noncomputable def cC (Φ:Fm) (Γ:Gm) (W:Addr->Prop) (fF:Bool) (o:Ow) (H:Hp) (D:Ends) (p:Fl×ak×Sx):Prop:=match p.1 with
 | .next=>∀σ' H',SO Φ Γ W o H p.2.1 p.2.2 σ' H'->D.nx σ' H'
 | .brk=>∀σ' H',SO Φ Γ W o H p.2.1 p.2.2 σ' H'->D.bk σ' H'
 | .cnt=>∀σ' H',SO Φ Γ W o H p.2.1 p.2.2 σ' H'->D.ct σ' H'
 | .ret d=>∀v H',RO Φ W fF d p.2.2 v H'->D.rt v H'
noncomputable def kG (Φ:Fm) (Γ:Gm) (F:FT) (W:Addr->Prop) (fF:Bool) (t:T):TS:=λD σ H=>∃o ρ S,OI Φ W o/\ER Φ Γ o ρ S σ H/\mR Φ.Ek (ex F t ρ S) (cC Φ Γ W fF o H D)
noncomputable def kH (Φ:Fm) (Γ:Gm) (F:FT) (W:Addr->Prop) (fF:Bool) (t:Ts):TS:=λD σ H=>∃o ρ S,OI Φ W o/\ER Φ Γ o ρ S σ H/\mR Φ.Ek (aR F t ρ S) (cC Φ Γ W fF o H D)
theorem bj {X:Cx} {e:Stmt} {t t':TS} (h:PS X e t) (hi:∀D σ H,t' D σ H->t D σ H):PS X e t':=λpins s σ H D I q=>h pins s σ H D I (hi D σ H q)
theorem tK {X:Cx} {e:List Stmt} {t t':TS} (h:uf X e t) (hi:∀D σ H,t' D σ H->t D σ H):uf X e t':=λpins s σ H D I q=>h pins s σ H D I (hi D σ H q)
section
variable {X:Cx} {Φ:Fm} {Γ:Gm} {F:FT} {g:G} {W:Addr->Prop} {fF:Bool} {o:Ow} {ρ:ak} {S:Sx} {σ:L2.St} {H H':Hp}
theorem ER.dA (er:ER Φ Γ o ρ S σ H) {H1:Hp} (e:aV o.d H H1):aV o.A H H1:=e.mono er.da
theorem ER.Bp {S1:Sx} {ρ1:ak} {σ1:L2.St} {H1:Hp} (aA:ER Φ Γ o ρ1 S1 σ1 H1) (e:aV o.d H H1):∀b x,H b=some x->∃y,H1 b=some y:=λb x h=>e.al h λz=>aA.al b (aA.da b z)
theorem SO.gG {S':Sx} {ρ':ak} {σ':L2.St} (oi:OI Φ W o) (er:ER Φ Γ o ρ' S' σ' H') (e:aV o.d H H'):SO Φ Γ W o H ρ' S' σ' H':=⟨⟨o,oi,er,λb z=> .inl z⟩,e.mono er.da,er.Bp e⟩
theorem SO.go {o':Ow} {H1 H2:Hp} {ρ2:ak} {S2:Sx} {σ2:L2.St} (e:aV o.A H H1) (hA:∀b,o'.A b->o.A b\/H b=none) (vm:∀b x,H b=some x->∃y,H1 b=some y) (h:SO Φ Γ W o' H1 ρ2 S2 σ2 H2):SO Φ Γ W o H ρ2 S2 σ2 H2:=by
 obtain⟨⟨o2,IL,fW,Fz⟩,e2,a2⟩:=h;refine⟨⟨o2,IL,fW,λb z=>?_⟩,⟨λb x h n=>?_,λb xs h=>e2.tp _ _ (e.tp _ _ h)⟩,λb x h=>?_⟩
 ·rcases Fz b z with q | q
  ·exact hA b q
  ·refine .inr ?_;cases hb:H b with
   | none=>rfl
   | some x=>obtain⟨y,hy⟩:=vm b x hb;rw[q] at hy;cases hy
 ·refine e2.kp _ _ (e.kp _ _ h n) λz=>?_
  rcases hA b z with q | q
  ·exact n q
  ·rw[h] at q;cases q
 ·obtain⟨y,hy⟩:=vm b x h;exact a2 b y hy
theorem nL {fr:Nat->Bool} {c:C} {d:Dt} {v:V} {H1:Hp} (h:bx c d=true) (eo:EO Φ.K fr o c H d v H1):RV Φ.K o.A H1 v d:=by
 unfold bx at h;rw[PY] at h;rcases h with h | h
 ·exact eo.cQ (O9 h)
 ·exact eo.val.gh h
theorem BW {i:Nat} {c:C} {st:Stmt} (hp:plainS Γ i=true) (h:PS X st (pJ (bz Φ Γ F g.fr c) (dQ i))):PS X st (kG Φ Γ F W fF (.asg i c)):=bj h λD σ H q=>by obtain⟨o,ρ,S,oi,er,q⟩:=q;unfold ex at q;rw[ab] at q;refine⟨o,ρ,S,er,ae q λp _ q v H1 eo aA=>?_⟩;obtain⟨gs,q⟩:=aM q;exact q _ _ (SO.gG oi (aA.set hp (nL gs eo)) eo.ext)
theorem Es {i:Nat} {c:C} {st:Stmt} (hp:plainS Γ i=true) (hf:fresh g.fr c=true) (h:PS X st (pJ (bz Φ Γ F g.fr c) (dQ i))):PS X st (kG Φ Γ F W fF (.asgM i c)):=bj h λD σ H q=>by
 obtain⟨o,ρ,S,oi,er,q⟩:=q;unfold ex at q;rw[ab] at q;refine⟨o,ρ,S,er,ae q λp _ q v H1 eo aA=>?_⟩;obtain⟨gs,q⟩:=aM q;have hv:RV Φ.K o.A H1 v p.1:=by
  by_cases hd:∃ds,p.1= .lst ds
  ·obtain⟨ds,hd⟩:=hd;obtain⟨a,xs,rfl,h1,h2,h3,h4⟩:=eo.eI hf ds hd;have na:¬o.A a:=λz=>by obtain⟨x,hx⟩:=er.al a z;rw[h1] at hx;cases hx
   rw[hd] at gs ⊢;refine RV.ez h2 na ?_;unfold jd at gs;rcases Bool.or_eq_true_iff.mp gs with z | z
   ·exact(h4 (O9 z)).weak λb w=> .inl w
   ·exact h3.fZ z
  ·refine nL ?_ eo;unfold jd at gs;unfold bx;cases hq:p.1 with
   | lst ds=>exact absurd ⟨ds,hq⟩ hd
   | _=>rw[hq] at gs;exact gs
 exact q _ _ (SO.gG oi (aA.set hp hv) eo.ext)
theorem ER.own {S1:Sx} {H1:Hp} {fr:Nat->Bool} {c:C} {d:Dt} {v:V} {i:Nat} (oi:OI Φ W o) (er:ER Φ Γ o ρ S σ H) (aA:ER Φ Γ o ρ S1 σ H1) (hm:eJ Γ i=true) (hδ:Γ.δ≠some i) (hf:fresh fr c=true) (hl:jd c d=true) (eo:EO Φ.K fr o c H d v H1):
  ∃o',OI Φ W o'/\ER Φ Γ o' (ρ.set i (some d)) S1 (σ.set i (some v)) H1/\∀b,o'.A b->o.A b\/H b=none:=by
 by_cases hd:∃ds,d= .lst ds
 ·obtain⟨ds,rfl⟩:=hd;obtain⟨a,xs,rfl,h1,h2,h3,h4⟩:=eo.eI hf ds rfl;have h4:ao Φ.K (λb=>o.A b\/b=a) H1 xs ds:=by
   unfold jd at hl;rcases Bool.or_eq_true_iff.mp hl with l | l
   ·exact h4 (O9 l)
   ·exact h3.fZ l
  have nA:¬o.A a:=λz=>by obtain⟨y,hy⟩:=er.al a z;rw[h1] at hy;cases hy
  have h0:Φ.H0 a=none:=by
   cases q:Φ.H0 a with
   | none=>rfl
   | some x=>
    by_cases zb:Φ.d0=some a
    ·exact absurd (er.da a (oi.d a zb)) nA
    ·rw[er.ent.kp a x q zb] at h1;cases h1
  have av:∀b,(o.A b\/b=a)->o.A b\/H b=none:=λb z=>z.elim .inl λe=> .inr (by rw[e];exact h1)
  have dA:∀b,o.d b->(o.A b\/b=a):=λb z=> .inl (er.da b z)
  refine⟨⟨o.W,λb=>o.A b\/b=a,o.dr⟩,⟨oi.w,oi.d⟩,⟨?_,λb z=> .inl (er.wa b z),λb z=> .inl (er.da b z),λb z=>?_,λj e he=>?_,λj j' b e e' m m' k1 k2 k3 k4=>?_,aA.drw,aA.drn,λj b hj hb=>?_,aA.dr0,aA.ent⟩,av⟩
  ·rw[List.length_set,List.length_set];exact er.len
  ·rcases z with z | z
   ·exact aA.al b z
   ·rw[z];exact⟨_,h2⟩
  ·by_cases hj:j=i
   ·subst hj;rw[List.getElem?_set] at he;simp only[if_true] at he;split at he
    ·rename_i bX;cases he;refine⟨.ref a,by rw[P4 (by rw[er.len];exact bX)],?_⟩;rw[if_pos hm];exact⟨a,xs,rfl,h2,.inr rfl,λz=>nA (er.wa a z),λz=>nA (er.da a z),h0,h4⟩
    ·cases he
   ·rw[Pp (Ne.symm hj)] at he;obtain⟨w,k1,k2⟩:=er.val j e he;refine⟨w,by rw[Pp (Ne.symm hj)];exact k1,?_⟩;by_cases hmj:eJ Γ j=true
    ·rw[if_pos hmj] at k2 ⊢;cases e with
     | lst es=>obtain⟨b,ys,e1,e2,e3,e4,e5,e6,e7⟩:=k2;exact⟨b,ys,e1,eo.ext.kp _ _ e2 e5,.inl e3,e4,e5,e6,(e7.bN av).mono eo.ext dA λ_ z=>z⟩
     | _=>exact(RV.bN av k2).mono eo.ext dA λ_ z=>z
    ·rw[if_neg hmj] at k2 ⊢;exact(k2.bN av).mono eo.ext dA λ_ z=>z
  ·
   have other:∀{j:Nat} {e:List Dt} {b:Addr},j≠i->eJ Γ j=true->(ρ.set i (some (.lst ds)))[j]?=some (some (.lst e))->(σ.set i (some (.ref a)))[j]?=some (some (.ref b))->b≠a/\ρ[j]?=some (some (.lst e))/\σ[j]?=some (some (.ref b)):=λ {j e b} hj m k1 k3=>by rw[Pp (Ne.symm hj)] at k1 k3;obtain⟨w,n1,n2⟩:=er.val j _ k1;rw[if_pos m] at n2;obtain⟨b',ys,e1,e2,_⟩:=n2;rw[k3] at n1;cases n1;cases e1;refine⟨λz=>?_,k1,k3⟩;rw[z,h1] at e2;cases e2
   by_cases hj:j=i
   ·by_cases ze:j'=i
    ·rw[hj,ze]
    ·obtain⟨n,_,_⟩:=other ze m' k2 k4;subst hj;have bX:j < σ.length:=by have:=(Pa.mp k3).1;rw[List.length_set] at this;exact this
     rw[P4 bX] at k3;cases k3;exact absurd rfl n
   ·obtain⟨n,p1,p2⟩:=other hj m k1 k3;by_cases ze:j'=i
    ·subst ze;have bX:j' < σ.length:=by have:=(Pa.mp k4).1;rw[List.length_set] at this;exact this
     rw[P4 bX] at k4;cases k4;exact absurd rfl n
    ·obtain⟨_,p3,p4⟩:=other ze m' k2 k4;exact er.inj j j' b e e' m m' p1 p3 p2 p4
  ·rw[Pp (λz=>hδ (by rw[z];exact hj))];exact aA.drs j b hj hb
 ·
  have nl:∀e,d≠ .lst e:=λe z=>hd ⟨e,z⟩
  have hv:RV Φ.K o.A H1 v d:=by
   unfold jd at hl;rcases Bool.or_eq_true_iff.mp hl with l | l
   ·exact eo.cQ (O9 l)
   ·cases d with
    | lst ds=>exact absurd rfl (nl ds)
    | _=>exact eo.val.gh l
  refine⟨o,oi,⟨?_,aA.wa,aA.da,aA.al,λj e he=>?_,λj j' b e e' m m' k1 k2 k3 k4=>?_,aA.drw,aA.drn,λj b hj hb=>?_,aA.dr0,aA.ent⟩,λb z=> .inl z⟩
  ·rw[List.length_set,List.length_set];exact er.len
  ·by_cases hj:j=i
   ·subst hj;rw[List.getElem?_set] at he;simp only[if_true] at he;split at he
    ·rename_i bX;cases he;refine⟨v,by rw[P4 (by rw[er.len];exact bX)],?_⟩;rw[if_pos hm];cases d with
     | lst ds=>exact absurd rfl (nl ds)
     | _=>exact hv
    ·cases he
   ·rw[Pp (Ne.symm hj)] at he;obtain⟨w,k1,k2⟩:=aA.val j e he;exact⟨w,by rw[Pp (Ne.symm hj)];exact k1,k2⟩
  ·have other:∀{j:Nat} {e:List Dt},(ρ.set i (some d))[j]?=some (some (.lst e))->j≠i:=λ {j e} k1 z=>by
    subst z;rw[List.getElem?_set] at k1;simp only[if_true] at k1;split at k1
    ·cases k1;exact nl e rfl
    ·cases k1
   have n1:=other k1;have n2:=other k2;rw[Pp (Ne.symm n1)] at k1 k3;rw[Pp (Ne.symm n2)] at k2 k4;exact aA.inj j j' b e e' m m' k1 k2 k3 k4
  ·rw[Pp (λz=>hδ (by rw[z];exact hj))];exact aA.drs j b hj hb
theorem Er {i:Nat} {c:C} {st:Stmt} (hm:eJ Γ i=true) (hδ:Γ.δ≠some i) (hf:fresh g.fr c=true) (h:PS X st (pJ (bz Φ Γ F g.fr c) (dQ i))):PS X st (kG Φ Γ F W fF (.asgM i c)):=bj h λD σ H q=>by obtain⟨o,ρ,S,oi,er,q⟩:=q;unfold ex at q;rw[ab] at q;refine⟨o,ρ,S,er,ae q λp _ q v H1 eo aA=>?_⟩;obtain⟨gs,q⟩:=aM q;exact q _ _ ⟨ER.own oi er aA hm hδ hf gs eo,er.dA eo.ext,aA.Bp eo.ext⟩
end
section
variable {X:Cx} {Φ:Fm} {Γ:Gm} {F:FT} {g:G} {W:Addr->Prop} {fF:Bool} {o:Ow} {ρ:ak} {S:Sx} {σ:L2.St} {H H':Hp}
theorem jB {Ek:Nat->Prop} {ρ:ak} {i:Nat} {P:List Dt->Prop} (h:mR Ek (oS ρ i) P):∃ds,ρ[i]?=some (some (.lst ds))/\P ds:=by
 unfold oS at h;split at h
 ·exact⟨_,by assumption,h⟩
 ·exact h.elim
theorem yH {a:Addr} {u:HO}:∀b x,H b=some x->∃y,upd H a u b=some y:=λb x h=>by
 by_cases z:b=a
 ·subst z;exact⟨_,aI⟩
 ·exact⟨x,by rw[ax z];exact h⟩
theorem mX {ρ:ak} {i:Nat} (h:isLE ρ i=true):∃ds,ρ[i]?=some (some (.lst ds)):=by
 unfold isLE at h;split at h
 ·exact⟨_,by assumption⟩
 ·cases h
theorem ER.chg {i:Nat} {a:Addr} {ds es:List Dt} {xs ys:List V} (er:ER Φ Γ o ρ S σ H) (hm:eJ Γ i=true) (hr:ρ[i]?=some (some (.lst ds))) (hs:σ[i]?=some (some (.ref a))) (hx:H a=some (.lst xs)) (hy:ao Φ.K o.A H ys es):
  ER Φ Γ o (ρ.set i (some (.lst es))) S σ (upd H a (.lst ys))/\aV o.A H (upd H a (.lst ys))/\∀b x,H b=some x->∃y,upd H a (.lst ys) b=some y:=by
 obtain⟨v,h1,h2⟩:=er.val i _ hr;rw[if_pos hm] at h2;rw[hs] at h1;cases h1;obtain⟨b,zs,e1,e2,e3,e4,e5,e6,e7⟩:=h2;cases e1;have up:aV (λb=>b=a) H (upd H a (.lst ys)):=⟨λb o h n=>by rw[ax n];exact h,Mx.kN hx⟩;have sub:∀b,b=a->o.A b:=λb z=>by rw[z];exact e3
 refine⟨⟨by rw[List.length_set];exact er.len,er.wa,er.da,λb hb=>?_,λj d hd=>?_,λj j' b d d' m m' k1 k2 k3 k4=>?_,λb hb=>?_,er.drn,er.drs,er.dr0,?_⟩,up.mono sub,yH⟩
 ·obtain⟨x,hx⟩:=er.al b hb;exact yH b x hx
 ·by_cases hj:j=i
  ·subst hj;rw[List.getElem?_set] at hd;simp only[if_true] at hd;split at hd
   ·cases hd;refine⟨.ref a,hs,?_⟩;rw[if_pos hm];exact⟨a,ys,rfl,aI,e3,e4,e5,e6,hy.mono up sub λ_ z=>z⟩
   ·cases hd
  ·rw[Pp (Ne.symm hj)] at hd;obtain⟨w,k1,k2⟩:=er.val j d hd;refine⟨w,k1,?_⟩;by_cases hmj:eJ Γ j=true
   ·rw[if_pos hmj] at k2 ⊢;cases d with
    | lst dl=>obtain⟨b,OF,n1,n2,n3,n4,n5,n6,n7⟩:=k2;refine⟨b,OF,n1,up.kp _ _ n2 (λz=>?_),n3,n4,n5,n6,n7.mono up sub λ_ z=>z⟩;subst n1 z;exact hj (er.inj j i b dl ds hmj hm hd hr k1 hs)
    | _=>exact RV.mono up sub (λ_ z=>z) k2
   ·rw[if_neg hmj] at k2 ⊢;exact k2.mono up sub λ_ z=>z
 ·have same:∀{j:Nat} {d:List Dt},(ρ.set i (some (.lst es)))[j]?=some (some (.lst d))->∃d',ρ[j]?=some (some (.lst d')):=λ {j d} q=>by
   by_cases hj:j=i
   ·subst hj;exact⟨ds,hr⟩
   ·rw[Pp (Ne.symm hj)] at q;exact⟨d,q⟩
  obtain⟨d1,q1⟩:=same k1;obtain⟨d2,q2⟩:=same k2;exact er.inj j j' b d1 d2 m m' q1 q2 k3 k4
 ·obtain⟨ns,n1,n2⟩:=er.drw b hb;exact⟨ns,n1,up.kp _ _ n2 λz=>e5 (by rw[<-z];exact hb)⟩
 ·refine⟨λb x h n=>up.kp _ _ (er.ent.kp b x h n) λz=>?_,λb xs h=>up.tp _ _ (er.ent.tp b xs h)⟩;subst z;rw[h] at e6;cases e6
theorem gD {i:Nat} {ds:List Dt} (er:ER Φ Γ o ρ S σ H) (hm:eJ Γ i=true) (hr:ρ[i]?=some (some (.lst ds))):∃a xs,σ[i]?=some (some (.ref a))/\H a=some (.lst xs)/\ao Φ.K o.A H xs ds:=by obtain⟨v,h1,h2⟩:=er.val i _ hr;rw[if_pos hm] at h2;obtain⟨a,xs,e1,e2,e3,e4,e5,e6,e7⟩:=h2;subst e1;exact⟨a,xs,h1,e2,e7⟩
theorem HG {i:Nat} {c:C} {st:Stmt} (hm:eJ Γ i=true) (h:PS X st (pM (Lu X.K "list" tM (lg i) (pK (bz Φ Γ F g.fr c) yA)))):PS X st (kG Φ Γ F W fF (.app i c)):=bj h λD σ H q=>by obtain⟨o,ρ,S,oi,er,q⟩:=q;unfold ex at q;obtain⟨gl,q⟩:=aM q;obtain⟨ds,hr⟩:=mX gl;obtain⟨a,xs,h1,h2,h3⟩:=gD er hm hr;rw[ab] at q;refine⟨.ref a,h1,.inl ⟨rfl,_,cT.of h2⟩,o,ρ,S,er,ae q λp _ q v H1 eo aA=>?_⟩;obtain⟨gs,q⟩:=aM q;rw[ab] at q;obtain⟨vk,e1,q⟩:=jB q;rw[hr] at e1;cases e1;obtain⟨gl,q⟩:=aM q;obtain⟨a',pY,iG,lK,Br⟩:=gD aA hm hr;rw[h1] at iG;cases iG;have g0:=bZ;have sQ:=sizeLine_eq;have OU:lim=1000000:=rfl;have wX:=O9 gl;refine⟨a,pY,v,rfl,rfl,lK,by rw[Br.length];lia,?_⟩;obtain⟨k1,k2,k3⟩:=aA.chg hm hr h1 lK (Br.append (ao.cons (nL gs eo) ao.nil));exact q _ _ (SO.go (er.dA eo.ext) (λb z=> .inl z) (aA.Bp eo.ext) ⟨⟨o,oi,k1,λb z=> .inl z⟩,k2,k3⟩)
theorem HQ {i:Nat} {c:C} {st:Stmt} (hm:eJ Γ i=true) (h:PS X st (pM (Lu X.K "list" tN (lg i) (pK (bz Φ Γ F g.fr c) yA)))):PS X st (kG Φ Γ F W fF (.xtd i c)):=bj h λD σ H q=>by
 obtain⟨o,ρ,S,oi,er,q⟩:=q;unfold ex at q;obtain⟨gl,q⟩:=aM q;obtain⟨ds,hr⟩:=mX gl;obtain⟨a,xs,h1,h2,h3⟩:=gD er hm hr;rw[ab] at q;refine⟨.ref a,h1,.inl ⟨rfl,_,cT.of h2⟩,o,ρ,S,er,ae q λp _ q v H1 eo aA=>?_⟩;obtain⟨gs,q⟩:=aM q;rw[ab] at q;obtain⟨vk,e1,q⟩:=jB q;rw[hr] at e1;cases e1;obtain⟨a',pY,iG,lK,Br⟩:=gD aA hm hr;rw[h1] at iG;cases iG;cases hd:p.1 with
 | lst es=>rw[hd] at q eo;obtain⟨gl,q⟩:=aM q;obtain⟨b,zs,rfl,f1,f2⟩:=eo.oh (O9 gs);have g0:=bZ;have wX:=O9 gl;refine⟨a,b,pY,zs,rfl,rfl,lK,f1,by rw[Br.length,f2.length];lia,?_⟩;obtain⟨k1,k2,k3⟩:=aA.chg hm hr h1 lK (Br.append f2);exact q _ _ (SO.go (er.dA eo.ext) (λb z=> .inl z) (aA.Bp eo.ext) ⟨⟨o,oi,k1,λb z=> .inl z⟩,k2,k3⟩)
 | _=>rw[hd] at q;exact q.elim
theorem HJ {i:Nat} {st:Stmt} (hm:eJ Γ i=true) (h:PS X st (pM (Hr X.K "list" yc (lg i)))):PS X st (kG Φ Γ F W fF (.clr i)):=bj h λD σ H q=>by obtain⟨o,ρ,S,oi,er,q⟩:=q;unfold ex at q;rw[ab] at q;obtain⟨ds,hr,q⟩:=jB q;obtain⟨a,xs,h1,h2,h3⟩:=gD er hm hr;obtain⟨k1,k2,k3⟩:=er.chg hm hr h1 h2 (ao.nil (K:=Φ.K) (A:=o.A));exact⟨.ref a,h1,.inl ⟨rfl,_,cT.of h2⟩,a,xs,rfl,rfl,h2,q _ _ ⟨⟨o,oi,k1,λb z=> .inl z⟩,k2,k3⟩⟩
theorem Ex {i:Nat} {k v:C} {st:Stmt} (hm:eJ Γ i=true) (h:PS X st (pJ (bz Φ Γ F g.fr v) (Fw (lg i) (bz Φ Γ F g.fr k) BM))):PS X st (kG Φ Γ F W fF (.yl i k v)):=bj h λD σ H q=>by
 obtain⟨o,ρ,S,oi,er,q⟩:=q;unfold ex at q;obtain⟨gl,q⟩:=aM q;obtain⟨ds,hr⟩:=mX gl;obtain⟨a,xs,h1,h2,h3⟩:=gD er hm hr;rw[ab] at q;refine⟨o,ρ,S,er,ae q λp _ q x H1 eo aA=>?_⟩;rw[ab] at q;refine⟨.ref a,h1,o,ρ,p.2,aA,ae q λp2 _ q y H2 eo2 fW=>?_⟩;obtain⟨gs,q⟩:=aM q;rw[ab] at q;obtain⟨vk,e1,q⟩:=jB q;rw[hr] at e1;cases e1;obtain⟨a',pY,iG,lK,Br⟩:=gD fW hm hr;rw[h1] at iG;cases iG;cases hd:p2.1 with
 | int n=>
  rw[hd] at q eo2;simp only at q;cases hj:mY ds.length n with
  | none=>rw[hj] at q;exact q.elim
  | some j=>
   rw[hj] at q;have hx:RV Φ.K o.A H2 x p.1:=by
    unfold bx at gs;rw[PY] at gs;obtain⟨k1,k2,k3⟩:=eo.keep eo2.ext er.gJ;rcases gs with gs | gs
    ·exact k2 (O9 gs)
    ·exact k1.gh gs
   refine⟨a,pY,n,j,rfl,eo2.val.int_inv,lK,by rw[Br.length];exact hj,?_⟩;obtain⟨k1,k2,k3⟩:=fW.chg hm hr h1 lK (Br.set j hx);exact q _ _ (SO.go (er.dA (eo.ext.trans eo2.ext)) (λb z=> .inl z) (fW.Bp (eo.ext.trans eo2.ext)) ⟨⟨o,oi,k1,λb z=> .inl z⟩,k2,k3⟩)
 | _=>rw[hd] at q;exact q.elim
theorem HL {c:C} {st:Stmt} (h:PS X st (pM (bz Φ Γ F g.fr c))):PS X st (kG Φ Γ F W fF (.JC c)):=bj h λD σ H q=>by obtain⟨o,ρ,S,oi,er,q⟩:=q;unfold ex at q;rw[ab] at q;exact⟨o,ρ,S,er,ae q λp _ q v H1 eo aA=>q _ _ (SO.gG oi aA eo.ext)⟩
theorem ER.h0 {a:Addr} (oi:OI Φ W o) (er:ER Φ Γ o ρ S σ H) (h:H a=none):Φ.H0 a=none:=by
 cases q:Φ.H0 a with
 | none=>rfl
 | some x=>
  by_cases zb:Φ.d0=some a
  ·obtain⟨y,hy⟩:=er.al a (er.da a (oi.d a zb));rw[h] at hy;cases hy
  ·rw[er.ent.kp a x q zb] at h;cases h
theorem BX {c:C} {st:Stmt} (hf:fF=true->fresh g.fr c=true) (h:PS X st (Ej (bz Φ Γ F g.fr c))):PS X st (kG Φ Γ F W fF (.ret c)):=bj h λD σ H q=>by
 obtain⟨o,ρ,S,oi,er,q⟩:=q;unfold ex at q;rw[ab] at q;refine⟨o,ρ,S,er,ae q λp Mb q v H1 eo aA=>?_⟩;have hw:∀b,W b->o.wd b:=λb z=> .inl (by rw[oi.w];exact z)
 refine q _ _ ⟨eo.val.weak hw,aA.ent,λa ha=>aA.drw a (oi.d a ha),λhfF ds ed=>?_⟩;obtain⟨a,xs,h1,h2,h3,h4,_⟩:=eo.eI (hf hfF) ds ed;exact⟨a,xs,h1,er.h0 oi h2,h3,h4.weak λb z=>z.imp (hw b) id⟩
theorem Eu {i:Nat} {st:Stmt} (hm:eJ Γ i=true) (h:PS X st (Ej (lg i))):PS X st (kG Φ Γ F W fF (.ret (.mvr i))):=bj h λD σ H q=>by
 obtain⟨o,ρ,S,oi,er,q⟩:=q;unfold ex ev at q;rw[ab,ab] at q;obtain⟨d,hd,q⟩:=mP q;obtain⟨v,k1,k2⟩:=er.val i d hd;rw[if_pos hm] at k2;have hw:∀b,W b->o.wd b:=λb z=> .inl (by rw[oi.w];exact z)
 have N9:∀b,W b->o.A b:=λb z=>er.wa b (by rw[oi.w];exact z)
 refine⟨v,k1,q _ _ ⟨(k2.val er.wa er.da).weak hw,er.ent,λa ha=>er.drw a (oi.d a ha),λhfF ds ed=>?_⟩⟩;simp only at ed;subst ed;obtain⟨a,xs,e1,e2,e3,e4,e5,e6,e7⟩:=k2;exact⟨a,xs,e1,e6,e2,e7.weak λb z=>z.elim (N9 b) λy=>by rw[y];exact e3⟩
theorem Ew {st:Stmt} (h:PS X st BU):PS X st (kG Φ Γ F W fF .retN):=bj h λD σ H q=>by obtain⟨o,ρ,S,oi,er,q⟩:=q;exact q _ _ ⟨RV.gA,er.ent,λa ha=>er.drw a (oi.d a ha),λ_ ds ed=>by cases ed⟩
theorem Et {st:Stmt} (h:PS X st yz):PS X st (kG Φ Γ F W fF .pas):=bj h λD σ H q=>by obtain⟨o,ρ,S,oi,er,q⟩:=q;exact q _ _ (SO.gG oi er aV.refl)
theorem HH {st:Stmt} (h:PS X st yy):PS X st (kG Φ Γ F W fF .brk):=bj h λD σ H q=>by obtain⟨o,ρ,S,oi,er,q⟩:=q;exact q _ _ (SO.gG oi er aV.refl)
theorem HK {st:Stmt} (h:PS X st BR):PS X st (kG Φ Γ F W fF .cnt):=bj h λD σ H q=>by obtain⟨o,ρ,S,oi,er,q⟩:=q;exact q _ _ (SO.gG oi er aV.refl)
theorem cC.go {o':Ow} {H1:Hp} {D D':Ends} {p:Fl×ak×Sx} (e:aV o.A H H1) (hA:∀b,o'.A b->o.A b\/H b=none) (vm:∀b x,H b=some x->∃y,H1 b=some y)
  (hn:∀σ' H',D.nx σ' H'->D'.nx σ' H') (hb:∀σ' H',D.bk σ' H'->D'.bk σ' H') (hc:∀σ' H',D.ct σ' H'->D'.ct σ' H') (hr:∀v H',D.rt v H'->D'.rt v H') (h:cC Φ Γ W fF o H D p):cC Φ Γ W fF o' H1 D' p:=by
 unfold cC at h ⊢;cases hp:p.1 with
 | next=>rw[hp] at h;exact λσ' H' so=>hn _ _ (h σ' H' (SO.go e hA vm so))
 | brk=>rw[hp] at h;exact λσ' H' so=>hb _ _ (h σ' H' (SO.go e hA vm so))
 | cnt=>rw[hp] at h;exact λσ' H' so=>hc _ _ (h σ' H' (SO.go e hA vm so))
 | ret d=>rw[hp] at h;exact λv H' ro=>hr _ _ (h v H' ro)
theorem yS:uf X [] (kH Φ Γ F W fF .nil):=tK AS λD σ H q=>by obtain⟨o,ρ,S,oi,er,q⟩:=q;exact q _ _ (SO.gG oi er aV.refl)
theorem Bi {st:Stmt} {nP:List Stmt} {t:T} {ts:Ts} (h1:PS X st (kG Φ Γ F W fF t)) (h2:uf X nP (kH Φ Γ F W fF ts)):uf X (st::nP) (kH Φ Γ F W fF (.cons t ts)):=tK (x9 h1 h2) λD σ H q=>by
 obtain⟨o,ρ,S,oi,er,q⟩:=q;unfold aR at q;rw[ab] at q;refine⟨o,ρ,S,oi,er,ae q λp _ q=>?_⟩;unfold cC;cases hp:p.1 with
 | next=>rw[hp] at q;intro σ1 H1 so;obtain⟨⟨o1,KS,aA,JS⟩,e1,a1⟩:=so;exact⟨o1,p.2.1,p.2.2,KS,aA,ae q λp2 _ q=>cC.go e1 JS a1 (λ_ _ z=>z) (λ_ _ z=>z) (λ_ _ z=>z) (λ_ _ z=>z) q⟩
 | brk=>rw[hp] at q;exact q
 | cnt=>rw[hp] at q;exact q
 | ret d=>rw[hp] at q;exact q
theorem HN {t:C} {a b:Ts} {st:Stmt} (h:PS X st (Hv (fD Φ Γ F t) (kH Φ Γ F W fF a) (kH Φ Γ F W fF b))):PS X st (kG Φ Γ F W fF (.ifs t a b)):=bj h λD σ H q=>by
 obtain⟨o,ρ,S,oi,er,q⟩:=q;unfold ex at q;rw[ab] at q;refine⟨o,ρ,S,er,ae q λp _ q H1 e1 aA=>?_⟩;have go:∀{ts:Ts},mR Φ.Ek (aR F ts ρ p.2) (cC Φ Γ W fF o H D)->kH Φ Γ F W fF ts D σ H1:=λq=>⟨o,ρ,p.2,oi,aA,ae q λp2 _ q=>cC.go (er.dA e1) (λb z=> .inl z) (aA.Bp e1) (λ_ _ z=>z) (λ_ _ z=>z) (λ_ _ z=>z) (λ_ _ z=>z) q⟩
 cases hp:p.1 with
 | true=>rw[hp] at q;exact Gk (go q)
 | false=>rw[hp] at q;exact Gj (go q)
theorem HM {tg:Tg} {it:ll} {b:Ts} {st:Stmt} (hK:Φ.K=X.K) (hp:∀i∈aS tg,plainS Γ i=true) (h:PS X st (Hu (nR Φ Γ F it) (BV X.K tg) (kH Φ Γ F W fF b))):PS X st (kG Φ Γ F W fF (.fr tg it b)):=bj h λD σ H q=>by
 obtain⟨o,ρ,S,oi,er,q⟩:=q;unfold ex at q;rw[ab] at q;refine⟨o,ρ,S,er,ae q λp _ q J H1 io aA=>?_⟩;obtain⟨gs,q⟩:=aM q;have wk:Wk Φ.K o.A o.A J H1 p.1:=(Bool.or_eq_true_iff.mp gs).elim (λz=>io.w0 (O9 z)) io.w2;refine⟨λi m σ2 H2=>m=p.1.length - i/\i<=p.1.length/\∃o2 ρ2 S2,OI Φ W o2/\ER Φ Γ o2 ρ2 S2 σ2 H2/\aV o.A H1 H2/\(∀b,o2.A b->o.A b\/H1 b=none)/\(∀b x,H1 b=some x->∃y,H2 b=some y)/\mR Φ.Ek (forL tg (aR F b) (p.1.drop i) ρ2 S2) (cC Φ Γ W fF o H D),
  ⟨_,rfl,Nat.zero_le _,o,ρ,p.2,oi,aA,aV.refl,λb z=> .inl z,λb x hx=>⟨x,hx⟩,q⟩,?_⟩
 rintro i m σ2 H2 ⟨rfl,hi,o2,ρ2,S2,IL,fW,e2,Fz,LQ,q⟩;have eH:aV o.A H H2:=(er.dA io.ext).trans e2;have aH:∀b x,H b=some x->∃y,H2 b=some y:=λb x hx=>by obtain⟨y,hy⟩:=aA.Bp io.ext b x hx;exact LQ b y hy
 have A1:∀b,o2.A b->o.A b\/H b=none:=λb z=>(Fz b z).imp id λq=>by
  cases hb:H b with
  | none=>rfl
  | some x=>obtain⟨y,hy⟩:=aA.Bp io.ext b x hb;rw[q] at hy;cases hy
 by_cases bX:i < p.1.length
 ·refine .inr ⟨wk.go i H2 bX e2,?_⟩;have hd:∃d,p.1[i]?=some d:=⟨p.1[i],by simp[bX]⟩;obtain⟨d0,zb⟩:=hd;have JF:p.1.drop i=d0::p.1.drop (i + 1):=by rw[List.drop_eq_getElem_cons bX];congr 1;exact(Pa.mp zb).2
  rw[JF] at q;unfold forL at q;rw[ab] at q;obtain⟨ρ3,hρ,q⟩:=oW (pC _ _ _) q;rw[ab] at q;refine⟨λσ3 H3=>i + 1<=p.1.length/\∃o3 ρ3 S3,OI Φ W o3/\ER Φ Γ o3 ρ3 S3 σ3 H3/\aV o.A H1 H3/\(∀b,o3.A b->o.A b\/H1 b=none)/\(∀b x,H1 b=some x->∃y,H3 b=some y)/\mR Φ.Ek (forL tg (aR F b) (p.1.drop (i + 1)) ρ3 S3) (cC Φ Γ W fF o H D),λσ3 H3 z=>⟨p.1.length - (i + 1),by lia,rfl,z⟩,λx H3 y=>?_⟩;obtain⟨s3,d,hd,hx⟩:=wk.yld i x H2 H3 bX e2 y;rw[zb] at hd;cases hd;have qH:=hx o2.A Fz;rw[<-hK];refine yC (fW.grow s3) hp qH hρ λσ4 JJ _=>?_
  refine⟨o2,ρ3,S2,IL,JJ,ae q λp2 _ q=>?_⟩;have again:∀{σ5:L2.St} {H5:Hp},SO Φ Γ W o2 H3 p2.2.1 p2.2.2 σ5 H5->mR Φ.Ek (forL tg (aR F b) (p.1.drop (i + 1)) p2.2.1 p2.2.2) (cC Φ Γ W fF o H D)->i + 1<=p.1.length/\∃o3 ρ3 S3,OI Φ W o3/\ER Φ Γ o3 ρ3 S3 σ5 H5/\aV o.A H1 H5/\(∀b,o3.A b->o.A b\/H1 b=none)/\(∀b x,H1 b=some x->∃y,H5 b=some y)/\mR Φ.Ek (forL tg (aR F b) (p.1.drop (i + 1)) ρ3 S3) (cC Φ Γ W fF o H D):=λ {σ5 H5} so q=>by have Oq:=SO.go (o:=o) (H:=H1) (e2.trans (aV.of_same s3)) Fz (λb x hx=>by obtain⟨y,hy⟩:=LQ b x hx;exact⟨y,s3 _ _ hy⟩) so;obtain⟨⟨o5,On,Ij,Nk⟩,e5,a5⟩:=Oq;exact⟨bX,o5,_,_,On,Ij,e5,Nk,a5,q⟩
  unfold cC;cases fq:p2.1 with
  | next=>rw[fq] at q;exact λσ5 H5 so=>again so q
  | cnt=>rw[fq] at q;exact λσ5 H5 so=>again so q
  | brk=>rw[fq] at q;intro σ5 H5 so;have q:cC Φ Γ W fF o H D (.next,p2.2):=q;unfold cC at q;exact q σ5 H5 (SO.go (eH.trans (aV.of_same s3)) A1 (λb x hx=>by obtain⟨y,hy⟩:=aH b x hx;exact⟨y,s3 _ _ hy⟩) so)
  | ret d=>rw[fq] at q;have q:cC Φ Γ W fF o H D (.ret d,p2.2):=q;exact q
 ·have e:i=p.1.length:=by lia
  subst e;rw[List.drop_length] at q;have q:cC Φ Γ W fF o H D (.next,ρ2,S2):=q;unfold cC at q;exact .inl ⟨wk.stop H2 e2,q _ _ ⟨⟨o2,IL,fW,A1⟩,eH,aH⟩⟩
end
noncomputable def iN:Expr->Bool
 | .ListComp ..=>true
 | .SetComp ..=>true
 | .DictComp ..=>true
 | _=>false
noncomputable def Ci (n:Nat) (g:G) (Γ:Gm) (i:Nat) (e:Expr):Option T:=match e with
 | .Name y p=>match slot Γ y with
  | some j=>if eJ Γ j then none else(cE n g Γ (.Name y p)).bind λc=>some (.asg i c)
  | none=>(cE n g Γ (.Name y p)).bind λc=>some (.asg i c)
 | e=>(cE n g Γ e).bind λc=>some (if fresh g.fr c&&lk c != 0 then .asgM i c else .asg i c)
noncomputable def Cm (n:Nat) (g:G) (Γ:Gm) (fF:Bool) (e:Expr):Option T:=match e with
 | .Name y p=>match slot Γ y with
  | some j=>if eJ Γ j then(if Γ.δ==some j then none else some (.ret (.mvr j))) else(cE n g Γ (.Name y p)).bind λc=>if fF then none else some (.ret c)
  | none=>(cE n g Γ (.Name y p)).bind λc=>if fF then none else some (.ret c)
 | e=>(cE n g Γ e).bind λc=>if !fF||fresh g.fr c then some (.ret c) else none
mutual
noncomputable def cS:Nat->G->Gm->Bool->Bool->Stmt->Option T
 | 0,_,_,_,_,_=>none
 | n + 1,g,Γ,dp,fF,st=>match st with
  | .Assign tgs e _=>match tgs with
   | [.Name x _]=>(fB Γ x).bind λi=>
     if Γ.δ==some i then none
     else if eJ Γ i then(cE n g Γ e).bind λc=>if fresh g.fr c then some (.asgM i c) else none
     else Ci n g Γ i e
   | [.Subscript (.Name x _) k _]=>(slot Γ x).bind λi=>if eJ Γ i then(cE n g Γ e).bind λv'=>(cE n g Γ k).bind λk'=>some (.yl i k' v') else none
   | _=>none
  | .Expr ex _=>match ex with
   | .Call (.Attribute (.Name x _) m ap) [a] [] cp=>(slot Γ x).bind λi=>if eJ Γ i&&ap.endLine==cp.line then(cE n g Γ a).bind λa'=>
     (if m==("append":Str) then some (.app i a') else if m==("extend":Str) then some (.xtd i a') else none) else none
   | .Call (.Attribute (.Name x _) m ap) [] [] cp=>(slot Γ x).bind λi=>if eJ Γ i&&ap.endLine==cp.line&&m==("clear":Str) then some (.clr i) else none
   | e=>if iN e then none else(cE n g Γ e).bind λc=>some (.JC c)
  | .Return (some e) _=>Cm n g Γ fF e
  | .Return none _=>some .retN
  | .If t a b _=>(cE n g Γ t).bind λt'=>(Cn n g Γ dp fF a).bind λa'=>(Cn n g Γ dp fF b).bind λb'=>some (.ifs t' a' b')
  | .For tg it b els _=>match els with
   | []=>(cI n g Γ tg it).bind λjk=>(qk Γ tg).bind λkI=>(Cn n g Γ dp fF b).bind λb'=>some (.fr kI jk b')
   | _=>none
  | .Break _=>some .brk
  | .Continue _=>some .cnt
  | .Pass _=>some .pas
  | _=>none
noncomputable def Cn:Nat->G->Gm->Bool->Bool->List Stmt->Option Ts
 | 0,_,_,_,_,_=>none
 | n + 1,g,Γ,dp,fF,nP=>match nP with
  | []=>some .nil
  | st::nP=>(cS n g Γ dp fF st).bind λt=>(Cn n g Γ dp fF nP).bind λts=>some (.cons t ts)
end
section
variable {g:G} {xv:Nat->Value} {CX:jm} {k:Nat} {F:FT} {X:Cx} {Φ:Fm} {Γ:Gm} {W:Addr->Prop}
theorem pI {e:Expr} (h:iN e=false) (t:Option Expr) (l:Nat) (env:Env):swapsWith e t l env=pure false:=by cases e <;> first | rfl | (simp[iN] at h)
theorem u9 {e:Expr} {t:Expr} (ht:∀x p,t≠ .Name x p) (l:Nat) (env:Env):swapsWith e (some t) l env=pure false:=by cases e <;> first | rfl | (cases t <;> first | rfl | exact absurd rfl (ht _ _))
theorem oF {n:Nat} {elt:Expr} {gens:List Comprehension} {sc:Scope} {eW:Pos} {c:C} (h:cE (n + 1) g Γ (.ListComp elt gens sc eW)=some c):sc.kind= .function/\vP sc.names Γ.names (aW Γ sc).1.N Γ.N (aW Γ sc).2=true/\(aW Γ sc).1.N.Nodup/\
  ((∃tg it ifs jk kI nU e',gens=[⟨tg,it,ifs,0⟩]/\cI n g Γ tg it=some jk/\qk (aW Γ sc).1 tg=some kI/\zB n g (aW Γ sc).1 ifs=some nU/\cE n g (aW Γ sc).1 elt=some e'/\c= .comp (aW Γ sc).2 jk kI nU e')\/
   (∃tg it ifs tg2 it2 bY jk kI nU oQ kJ pP e',gens=[⟨tg,it,ifs,0⟩,⟨tg2,it2,bY,0⟩]/\cI n g Γ tg it=some jk/\qk (aW Γ sc).1 tg=some kI/\zB n g (aW Γ sc).1 ifs=some nU/\cI n g (aW Γ sc).1 tg2 it2=some oQ/\qk (aW Γ sc).1 tg2=some kJ/\zB n g (aW Γ sc).1 bY=some pP/\cE n g (aW Γ sc).1 elt=some e'/\
   (∀i∈aS kJ,i∉aS kI)/\c= .i8 (aW Γ sc).2 jk kI nU oQ kJ pP e')):=by
 unfold cE at h;simp only at h;split at h
 ·rename_i hk;split at h
  ·rename_i tg it ifs;obtain⟨jk,h1,h⟩:=O4.mp h;obtain⟨kI,h2,h⟩:=O4.mp h;obtain⟨nU,h3,h⟩:=O4.mp h;obtain⟨e',h4,h⟩:=O4.mp h;split at h
   ·rename_i hb;cases h;rw[O7] at hb;exact⟨Pw hk,hb.1,O9 hb.2,.inl ⟨tg,it,ifs,jk,kI,nU,e',rfl,h1,h2,h3,h4,rfl⟩⟩
   ·cases h
  ·rename_i tg it ifs tg2 it2 bY;obtain⟨jk,h1,h⟩:=O4.mp h;obtain⟨kI,h2,h⟩:=O4.mp h;obtain⟨nU,h3,h⟩:=O4.mp h;obtain⟨oQ,h5,h⟩:=O4.mp h;obtain⟨kJ,h6,h⟩:=O4.mp h;obtain⟨pP,h7,h⟩:=O4.mp h;obtain⟨e',h4,h⟩:=O4.mp h;split at h
   ·rename_i hb;cases h;rw[O7,O7] at hb;refine⟨Pw hk,hb.1.1,O9 hb.1.2,.inr ⟨tg,it,ifs,tg2,it2,bY,jk,kI,nU,oQ,kJ,pP,e',rfl,h1,h2,h3,h5,h6,h7,h4,λi hi z=>?_,rfl⟩⟩;have:=PQ.mp hb.2 i hi;simp[z] at this
   ·cases h
  ·cases h
 ·cases h
theorem ir {n i:Nat} {x:Str} {e:Expr} {c:C} {pos' pos:Pos} (gx:GX g Γ X) (hX:HX g xv CX k F Φ X) (hs:fB Γ x=some i) (h:cE n g Γ e=some c):PS X (.Assign [.Name x pos'] e pos) (pJ (bz Φ Γ F g.fr c) (dQ i)):=by
 have S:=iB (F:=F) n Γ X Φ gx hX;obtain⟨a1,a2,a3⟩:=kC hs;obtain⟨l1,l2⟩:=gx.loc x a1;have hN:X.N.Nodup:=gx.N▸gx.nd;have hi:X.N[i]?=some x:=by rw[gx.N];exact a3
 by_cases hc:iN e=true
 ·cases n with
  | zero=>simp[cE] at h
  | succ n=>
   cases e with
   | ListComp elt gens sc eW=>
    have Nu:=(S.e _ _ h).1;obtain⟨hk,hb,eQ,FL⟩:=oF h;cases CV:(X.env.blockKind== .function&&X.env.kindOf x==some .local&&pos'.line==(Expr.ListComp elt gens sc eW).pos.line&& !(sc.names.any λ(n,k)=>n==x&&(k== .local||k== .cell))) with
    | false=>exact x8 hN hi l1 Nu (by show pure (X.env.blockKind== .function&&X.env.kindOf x==some .local&&pos'.line==(Expr.ListComp elt gens sc eW).pos.line&& !(sc.names.any λ(n,k)=>n==x&&(k== .local||k== .cell)))=_;rw[CV]) l2
    | true=>
     have hl:X.env.kindOf x=some .local:=by rw[O7,O7,O7] at CV;exact Pw CV.1.1.2
     have B:=qj gx hk hb;have S1:=iB (F:=F) n Γ X Φ gx hX;have J:=λC s H fp=>iB (F:=F) n (aW Γ sc).1 (eO X sc (aW Γ sc).1.N C s H fp (rR X sc (aW Γ sc).1.N (lj Φ xv) C s H fp)) Φ (d9 gx B eQ) (qI hX)
     rcases FL with ⟨tg,it,ifs,jk,kI,nU,e',rfl,h1,h2,h3,h4,rfl⟩ | ⟨tg,it,ifs,tg2,it2,bY,jk,kI,nU,oQ,kJ,pP,e',rfl,h1,h2,h3,h5,h6,h7,h4,FP,rfl⟩
     ·refine bj (jc (xb:=rR X sc (aW Γ sc).1.N (lj Φ xv)) (body:=λacc env=>gr elt acc env) (i:=i) gx.calm hN hi hl B (jJ hX.st hX.xgx) (S1.i _ _ _ h1).1 (λn8 acc env=>pQ ..) (λC s H fp=>rh (d9 gx B eQ) h2) (λC s H fp=>(J C s H fp).ts _ _ h3) (λC s H fp D=>jF ((J C s H fp).e _ _ h4).1) (gw (S1.i _ _ _ h1).2 _) ?_) λD σ H q=>yg hX.K B eQ h2 q
      show pure (X.env.blockKind== .function&&X.env.kindOf x==some .local&&pos'.line==(Expr.ListComp elt [⟨tg,it,ifs,0⟩] sc eW).pos.line&& !(sc.names.any λ(n,k)=>n==x&&(k== .local||k== .cell)))=_;rw[CV]
     ·refine bj (jc (xb:=rR X sc (aW Γ sc).1.N (lj Φ xv)) (body:=λacc env=>nextOf (.ListComp elt [⟨tg,it,ifs,0⟩,⟨tg2,it2,bY,0⟩] sc eW) 1 it2 acc env) (i:=i) gx.calm hN hi hl B (jJ hX.st hX.xgx) (S1.i _ _ _ h1).1 (λn8 acc env=>pR ..) (λC s H fp=>rh (d9 gx B eQ) h2) (λC s H fp=>(J C s H fp).ts _ _ h3)
       (λC s H fp D=>tF gx.calm (tE hX.st) ((J C s H fp).i _ _ _ h5).1 (rh (d9 gx B eQ) h6) ((J C s H fp).ts _ _ h7) (jF ((J C s H fp).e _ _ h4).1) (gw ((J C s H fp).i _ _ _ h5).2 _)) (gw (S1.i _ _ _ h1).2 _) ?_) λD σ H q=>tP hX.K B eQ h2 h6 FP q
      show pure (X.env.blockKind== .function&&X.env.kindOf x==some .local&&pos'.line==(Expr.ListComp elt [⟨tg,it,ifs,0⟩,⟨tg2,it2,bY,0⟩] sc eW).pos.line&& !(sc.names.any λ(n,k)=>n==x&&(k== .local||k== .cell)))=_;rw[CV]
   | SetComp=>simp[cE] at h
   | DictComp=>simp[cE] at h
   | _=>simp[iN] at hc
 ·exact x8 hN hi l1 (S.e _ _ h).1 (pI (by simpa using hc) _ _ _) l2
structure Jl (g:G) (F:FT) (n:Nat) (Γ:Gm) (X:Cx) (Φ:Fm) (W:Addr->Prop) (dp fF:Bool):Prop where
 s:∀st t,cS n g Γ dp fF st=some t->PS X st (kG Φ Γ F W fF t)
 ss:∀nP ts,Cn n g Γ dp fF nP=some ts->uf X nP (kH Φ Γ F W fF ts)
theorem kP {x:Str} {i:Nat} {p:Pos} (gx:GX g Γ X) (h:slot Γ x=some i):PE X (.Name x p) (lg i):=by obtain⟨v1,v2,v3⟩:=tR h;obtain⟨n1,n2,n3⟩:=dW v2;exact xU (by rw[gx.N];exact v3) (gx.vis x v1) n1 n2
theorem B9 {n i:Nat} {x:Str} {e:Expr} {t:T} {pos' pos:Pos} {fF:Bool} (gx:GX g Γ X) (hX:HX g xv CX k F Φ X) (hs:fB Γ x=some i) (hp:plainS Γ i=true) (h:Ci n g Γ i e=some t):PS X (.Assign [.Name x pos'] e pos) (kG Φ Γ F W fF t):=by
 have DW:∀{e:Expr} {t:T},((cE n g Γ e).bind λc=>some (T.asg i c))=some t->PS X (.Assign [.Name x pos'] e pos) (kG Φ Γ F W fF t):=λ {e t} h=>by obtain⟨c,h1,h⟩:=O4.mp h;cases h;exact BW hp (ir gx hX hs h1)
 unfold Ci at h;split at h
 ·rename_i y p;split at h
  ·rename_i j hj;split at h
   ·cases h
   ·exact DW h
  ·exact DW h
 ·obtain⟨c,h1,h⟩:=O4.mp h;cases h;split
  ·rename_i hf;rw[O7] at hf;exact Es hp hf.1 (ir gx hX hs h1)
  ·exact BW hp (ir gx hX hs h1)
theorem DX {n:Nat} {e:Expr} {t:T} {pos:Pos} {fF:Bool} (gx:GX g Γ X) (hX:HX g xv CX k F Φ X) (h:Cm n g Γ fF e=some t):PS X (.Return (some e) pos) (kG Φ Γ F W fF t):=by
 have S:=iB (F:=F) n Γ X Φ gx hX;have plain:∀{e:Expr} {t:T},((cE n g Γ e).bind λc=>if fF then none else some (T.ret c))=some t->PS X (.Return (some e) pos) (kG Φ Γ F W fF t):=λ {e t} h=>by
  obtain⟨c,h1,h⟩:=O4.mp h;split at h
  ·cases h
  ·rename_i hf;cases h;exact BX (λz=>absurd z hf) (ra (S.e _ _ h1).1)
 unfold Cm at h;split at h
 ·rename_i y p;split at h
  ·rename_i j hj;split at h
   ·rename_i hm;split at h
    ·cases h
    ·cases h;exact Eu hm (ra (kP gx hj))
   ·exact plain h
  ·exact plain h
 ·obtain⟨c,h1,h⟩:=O4.mp h;split at h
  ·rename_i hf;cases h;refine BX (λz=>?_) (ra (S.e _ _ h1).1);rw[z] at hf;simpa using hf
  ·cases h
theorem yt {dp fF:Bool} (n:Nat):∀(Γ:Gm) (X:Cx) (Φ:Fm),GX g Γ X->HX g xv CX k F Φ X->(dp=false->Φ.d0=none)->PassesOwn (model X.prog X.w) X.A X.env X.xe->Jl g F n Γ X Φ W dp fF:=by
 induction n with
 | zero=>intro Γ X Φ gx hX hd ho;exact⟨λst t h=>by simp[cS] at h,λst t h=>by simp[Cn] at h⟩
 | succ n ih=>
  intro Γ X Φ gx hX hd ho;have I:=ih Γ X Φ gx hX hd ho;have S:=iB (F:=F) n Γ X Φ gx hX;have hK:=hX.K;refine⟨λst t h=>?_,λnP ts h=>?_⟩
  ·unfold cS at h;split at h
   ·split at h
    ·rename_i e pos x xp;obtain⟨i,hs,h⟩:=O4.mp h;split at h
     ·cases h
     ·rename_i hδ;have hδ':Γ.δ≠some i:=λz=>hδ (by rw[z];exact beq_self_eq_true _)
      split at h
      ·rename_i hm;obtain⟨c,h1,h⟩:=O4.mp h;split at h
       ·rename_i hf;cases h;exact Er hm hδ' hf (ir gx hX hs h1)
       ·cases h
      ·rename_i hm;refine B9 gx hX hs ?_ h;unfold plainS;rw[O7];exact⟨by simpa using hm,by simpa using hδ'⟩
    ·rename_i v pos tg0 x xp kx sp;obtain⟨i,hs,h⟩:=O4.mp h;split at h
     ·rename_i hm;obtain⟨v',h1,h⟩:=O4.mp h;obtain⟨k',h2,h⟩:=O4.mp h;cases h;have NL:=(S.e _ _ h2).2.2;refine Ex hm (DO (S.e _ _ h1).1 (DJ (kP gx hs) (S.e _ _ h2).1 set_list (by intro _;cases kx <;> first | rfl | (simp[uD] at NL))) (show swapsWithSole [Expr.Subscript (Expr.Name x xp) kx sp] v pos.line X.env=pure false from u9 (e:=v) (t:=Expr.Subscript (Expr.Name x xp) kx sp) (λx p z=>by cases z) pos.line X.env) ?_);cases v <;> rfl
     ·cases h
    ·cases h
   ·split at h
    ·rename_i pos x xp m ap a cp;obtain⟨i,hs,h⟩:=O4.mp h;split at h
     ·rename_i hm;rw[O7] at hm;obtain⟨a',h1,h9⟩:=O4.mp h;clear h;have gZ:=bL (S.e _ _ h1).2.2 [] X.env;split at h9
      ·rename_i hma;have em:=Pw hma;subst em;cases h9;exact HG hm.1 (jH (BJ PySem.F.plainAttrs_list PySem.F.slot_list_append PySem.F.type_list_append lU (kP gx hs) (cG (S.e _ _ h1).1 fz gZ) rfl (by rw[gZ];rfl) hm.2 gZ rfl))
      split at h9
      ·rename_i hma;have em:=Pw hma;subst em;cases h9;exact HQ hm.1 (jH (BJ PySem.F.plainAttrs_list PySem.F.slot_list_extend PySem.F.type_list_extend uT (kP gx hs) (cG (S.e _ _ h1).1 fz gZ) rfl (by rw[gZ];rfl) hm.2 gZ rfl))
      ·cases h9
     ·cases h
    ·rename_i pos x xp m ap cp;obtain⟨i,hs,h9⟩:=O4.mp h;clear h;split at h9
     ·rename_i hm;rw[O7,O7] at hm;have em:=Pw hm.2;subst em;cases h9;exact HJ hm.1.1 (jH (DC PySem.F.plainAttrs_list PySem.F.slot_list_clear PySem.F.type_list_clear xG (kP gx hs) rfl hm.1.2))
     ·cases h9
    ·split at h
     ·cases h
     ·rename_i hc;obtain⟨c,h1,h⟩:=O4.mp h;cases h;exact HL (jH (S.e _ _ h1).1 (pI (by simpa using hc) _ _ _))
   ·exact DX gx hX h
   ·cases h;exact Ew AQ
   ·obtain⟨t',h1,h⟩:=O4.mp h;obtain⟨a',h2,h⟩:=O4.mp h;obtain⟨b',h3,h⟩:=O4.mp h;cases h;exact HN (GY (S.e _ _ h1).2.1 (I.ss _ _ h2) (I.ss _ _ h3))
   ·split at h
    ·obtain⟨jk,h1,h⟩:=O4.mp h;obtain⟨kI,h2,h⟩:=O4.mp h;obtain⟨b',h3,h⟩:=O4.mp h;cases h;exact HM hK (λi hi=>(fE h2 i hi).1) (DP ho gx.calm (S.i _ _ _ h1).1 (rh gx h2) (I.ss _ _ h3) (gw (S.i _ _ _ h1).2 _))
    ·cases h
   ·cases h;exact HH xZ
   ·cases h;exact HK pq
   ·cases h;exact Et AO
   ·cases h
  ·unfold Cn at h;split at h
   ·cases h;exact yS
   ·obtain⟨t,h1,h⟩:=O4.mp h;obtain⟨nU,h2,h⟩:=O4.mp h;cases h;exact Bi (I.s _ _ h1) (I.ss _ _ h2)
end
noncomputable def hE:Nat->G->Gm->Nat->List (Str×Bool)->Option (Nat×Bool)->Expr->Option Bool
 | 0,_,_,_,_,_,_=>none
 | n + 1,g,Γ,i,ts,vb,e=>match e with
  | .Call fe as ks _=>match fe,as,ks with
   | .Name f _,[.Name x _,.Name t _],[]=>if f==("isinstance":Str)&&uz (Γ.names.lookup f)&&g.bls.contains f&&slot Γ x==some i&&uz (Γ.names.lookup t)&&dD t then ts.lookup t else none
   | _,_,_=>none
  | .Name x _=>vb.bind λv=>if slot Γ x==some v.1 then some v.2 else none
  | .UnaryOp o a _=>match o with
   | .Not=>(hE n g Γ i ts vb a).bind λb=>some !b
   | _=>none
  | .BoolOp o es p=>match es with
   | [a]=>hE n g Γ i ts vb a
   | a::b::es=>(hE n g Γ i ts vb a).bind λx=>(hE n g Γ i ts vb (.BoolOp o (b::es) p)).bind λy=>some (match o with | .And=>x&&y | .Or=>x||y)
   | []=>none
  | _=>none
noncomputable def hS (n:Nat) (g:G) (Γ:Gm) (i:Nat) (ts:List (Str×Bool)):List Stmt->Option Bool
 | [.Return (some e) _]=>hE n g Γ i ts none e
 | [.Assign [.Name x _] e _,.Return (some r) _]=>if Γ.names.lookup x==some .local&& !iN e then(fB Γ x).bind λj=>if j==i then none else(hE n g Γ i ts none e).bind λb=>hE n g Γ i ts (some (j,b)) r else none
 | _=>none
noncomputable def Cj (n:Nat) (g:G) (Γ:Gm) (dp fF:Bool):List Stmt->Option Ts
 | []=>some .nil
 | st::nP=>(cS n g Γ dp fF st).bind λt=>(Cj n g Γ dp fF nP).bind λts=>some (.cons t ts)
section
variable {g:G} {xv:Nat->Value} {CX:jm} {k:Nat} {F:FT} {X:Cx} {Φ:Fm} {Γ:Gm} {W:Addr->Prop}
noncomputable def hG (i:Nat) (a:Addr) (vb:Option (Nat×Bool)) (σ:L2.St):Prop:=σ[i]?=some (some (.ref a))/\∀j b,vb=some (j,b)->σ[j]?=some (some (.bl b))
theorem GX.dh {Γ:Gm} {X:Cx} {E:Value->Shared->Prop} (gx:GX g Γ X):GX g Γ (X.dh E):=⟨gx.N,gx.nd,gx.vis,gx.loc,gx.gl,gx.fre,gx.calm,gx.un,gx.con,gx.bl⟩
theorem kR {X:Cx} {E:Value->Shared->Prop} {E':XK} {e:Value} {s':Shared} (h:jL (X.dh E) E' e s'):jL X E' e s':=by obtain⟨σ,H',a,cls,e1,I,f,q⟩:=h;exact⟨σ,H',a,cls,e1,I.eA,f,q⟩
theorem yP {X:Cx} {E:Value->Shared->Prop} {E':XK} {e:Value} {s':Shared} (h:jL X E' e s'):jL (X.dh E) E' e s':=by obtain⟨σ,H',a,cls,e1,I,f,q⟩:=h;exact⟨σ,H',a,cls,e1,I.dh E,f,q⟩
theorem yR {st:Stmt} {nP:List Stmt} {t:T} {ts:Ts} {fF:Bool} (h1:Jk X st (kG Φ Γ F W fF t)) (h2:mf X nP (kH Φ Γ F W fF ts)):mf X (st::nP) (kH Φ Γ F W fF (.cons t ts)):=λs σ H D I q=>u4 h1 h2 s σ H D I (by
 obtain⟨o,ρ,S,oi,er,q⟩:=q;unfold aR at q;rw[ab] at q;refine⟨o,ρ,S,oi,er,ae q λp _ q=>?_⟩;unfold cC;cases hp:p.1 with
 | next=>rw[hp] at q;intro σ1 H1 so;obtain⟨⟨o1,KS,aA,JS⟩,e1,a1⟩:=so;exact⟨o1,p.2.1,p.2.2,KS,aA,ae q λp2 _ q=>cC.go e1 JS a1 (λ_ _ z=>z) (λ_ _ z=>z) (λ_ _ z=>z) (λ_ _ z=>z) q⟩
 | brk=>rw[hp] at q;unfold mR cC at q;exact q
 | cnt=>rw[hp] at q;unfold mR cC at q;exact q
 | ret d=>rw[hp] at q;unfold mR cC at q;exact q)
theorem vM {dp fF:Bool} {n:Nat} (Iw:X.env.scope.names=Γ.names) (gx:GX g Γ X) (hX:HX g xv CX k F Φ X) (hd:dp=false->Φ.d0=none) (own:PassesOwn (model X.prog X.w) X.A X.env X.xe):∀{nP:List Stmt} {ts:Ts},Cj n g Γ dp fF nP=some ts->mf X nP (kH Φ Γ F W fF ts)
 | [],ts,h=>by cases h;exact AR yS
 | st::nP,ts,h=>by obtain⟨t,h1,h⟩:=O4.mp h;obtain⟨nU,h2,h⟩:=O4.mp h;cases h;refine yR ?_ (vM Iw gx hX hd own h2);exact DN ((yt (dp:=dp) (fF:=fF) (W:=W) n Γ X Φ gx hX hd own).s _ _ h1)
theorem pv {X:Cx} {E:Value->Shared->Prop} {st:List Stmt} {t:TS} (h:mf (X.dh E) st t) (hx:∀e s',E e s'->X.xe e s'):mf X st t:=λs σ H D I hw=>
 wpAny_mono (h s σ H D (I.dh _) hw) (λ_ _ q=>q.eA) λe s' z=>hx e s' z
end
section
variable {P:Program} {w:World} {K:Frag} {mg:Str->Option Value} {base:Heap} {g:G} {xv:Nat->Value} {F:FT} {k:Nat}
structure MG (g:G) (mg:Str->Option Value):Prop where
 con:∀x d,g.cons.lookup x=some d->∃u,og d=true/\mg x=some u/\RelV (p7 d) u
 bl:∀x∈g.bls,mg x=none
noncomputable def XG (g:G) (K:Frag) (mg:Str->Option Value) (xv:Nat->Value):Prop:=∀k x ts,g.xs[k]?=some (x,ts)->∃C,xv k= .ref C/\mg x=some (.ref C)/\Jo K mg C ts
noncomputable def u5 (ba:Bool) (args:List Dt) (n ps:Nat):ak:=(if ba then[none] else[])++args.map some++List.replicate (n - ps) none
theorem px {ba:Bool} {args:List Dt} {n ps i:Nat} {d:Dt} (h:(u5 ba args n ps)[i]?=some (some d)):∃j,args[j]?=some d/\i=j + (if ba then 1 else 0):=by
 unfold u5 at h;have tail:∀{i:Nat},(args.map some++List.replicate (n - ps) (none:Option Dt))[i]?=some (some d)->args[i]?=some d:=λ {i} h=>by
  by_cases hi:i < args.length
  ·rw[PZ (by simpa using hi),Pr] at h;cases e:args[i]? with
   | none=>rw[e] at h;cases h
   | some a=>rw[e] at h;cases h;rfl
  ·rw[P0 (by simpa using hi),List.getElem?_replicate] at h;split at h <;> cases h
 cases ba with
 | false=>simp only[Bool.false_eq_true,if_false,List.nil_append] at h;exact⟨i,tail h,rfl⟩
 | true=>
  simp only[if_true,Pm] at h;cases i with
  | zero=>cases h
  | succ i=>have h:(args.map some++List.replicate (n - ps) (none:Option Dt))[i]?=some (some d):=h;exact⟨i,tail h,rfl⟩
theorem l0 {N:List Str} {vs:List V} {i:Nat} {v:V} (h:vs[i]?=some v):(start N vs)[i]?=some (some v):=by unfold L2.start;have hi:=(Pa.mp h).1;rw[PZ (by simpa using hi),Pr,h];rfl
theorem wy {M:List Bool} {δ:Option Nat} {names:List (Str×NameKind)} {N:List Str} {np:Nat} {ba:Bool} {vs vv:List V} {H:Hp} {W:Addr->Prop} {dr:Option Addr} {args:List Dt} {S:Sx} {Ek:Nat->Prop}
  (hM:∀i,i < np->M[i]?≠some true) (hδ:ba=true->δ=some 0) (OW:np<=N.length) (hl:vs.length=np)
  (hd:if ba=true then∃(a:Addr) (ns:List Int),vs= .ref a::vv/\dr=some a/\W a/\S=some ns/\H a=some (.lst (ns.map V.int)) else vs=vv/\dr=none/\S=none)
  (ha:ao K W H vv args) (hw:∀a,W a->∃x,H a=some x):ER ⟨K,H,dr,Ek⟩ ⟨names,N,M,δ⟩ ⟨W,W,dr⟩ (u5 ba args N.length np) S (start N vs) H/\args.length + (if ba then 1 else 0)=np:=by
 have oP:=ha.length;have FI:args.length + (if ba then 1 else 0)=np:=by
  cases ba with
  | false=>
   simp only[Bool.false_eq_true,if_false] at hd ⊢;obtain⟨e,_,_⟩:=hd;subst e
   lia
  | true=>
   simp only[if_true] at hd ⊢;obtain⟨a,ns,e,_⟩:=hd;rw[e] at hl;simp at hl
   lia
 refine⟨⟨?_,λa z=>z,λa z=>?_,hw,λi d h=>?_,λi j a d e hm hm' h1 h2 _ _=>?_,λa z=>?_,λz=>?_,λi a hi z=>?_,λa z=> .inl z,aV.refl⟩,FI⟩
 ·unfold L2.start u5;simp only[Po,Ph,List.length_replicate];cases ba <;> simp at FI ⊢ <;> lia
 ·cases ba with
  | false=>simp only[Bool.false_eq_true,if_false] at hd;rw[hd.2.1] at z;cases z
  | true=>simp only[if_true] at hd;obtain⟨b,ns,_,e,hb,_⟩:=hd;rw[e] at z;cases z;exact hb
 ·obtain⟨j,hj,rfl⟩:=px h;obtain⟨v,h1,h2⟩:=ha.getD hj;have NK:=(Pa.mp hj).1;have hm:eJ ⟨names,N,M,δ⟩ (j + if ba=true then 1 else 0)=false:=by unfold eJ;have:=hM (j + if ba=true then 1 else 0) (by lia);simpa using this
  refine⟨v,l0 ?_,?_⟩
  ·cases ba with
   | false=>simp only[Bool.false_eq_true,if_false] at hd ⊢;rw[hd.1];exact h1
   | true=>simp only[if_true] at hd ⊢;obtain⟨b,ns,e,_⟩:=hd;rw[e];simpa using h1
  ·rw[hm,if_neg (by simp)];exact h2
 ·obtain⟨j1,hj,rfl⟩:=px h1;have NK:=(Pa.mp hj).1;exfalso;unfold eJ at hm;exact hM (j1 + if ba=true then 1 else 0) (by lia) (Pw hm)
 ·cases ba with
  | false=>simp only[Bool.false_eq_true,if_false] at hd;rw[hd.2.1] at z;cases z
  | true=>simp only[if_true] at hd;obtain⟨b,ns,_,e,_,e2,e3⟩:=hd;rw[e] at z;cases z;exact⟨ns,e2,e3⟩
 ·cases ba with
  | false=>simp only[Bool.false_eq_true,if_false] at hd;exact hd.2.2
  | true=>simp only[if_true] at hd;obtain⟨b,ns,_,e,_⟩:=hd;rw[e] at z;cases z
 ·cases ba with
  | false=>simp only[Bool.false_eq_true,if_false] at hd;rw[hd.2.1] at z;cases z
  | true=>simp only[if_true] at hd;obtain⟨b,ns,e1,e,_⟩:=hd;rw[e] at z;cases z;have hi:δ=some i:=hi;rw[hδ rfl] at hi;cases hi;exact l0 (by rw[e1];rfl)
theorem Fy {CX:jm} {N ps:List Str} {sc:Scope} {M:List Bool} {δ:Option Nat} {qual:Str} {f:Addr} {eN:Value} {A:Around} {outer:List Env} {s:Shared} {H:Hp} {E:XK} (m:MG g mg) (S:dZ N ps sc) (hr:gM k (A.deeper (envOfC qual sc s.heap.objs.size f eN))):
  GX g ⟨sc.names,N,M,δ⟩ (jR CX P w K mg base N qual sc f eN A outer s H E) where
 N:=rfl
 nd:=S.nd
 vis:=λx h=>by
  have h:yK (sc.names.lookup x)=true:=h;show E7 sc x;unfold E7;cases hl:sc.names.lookup x with
  | none=>rw[hl] at h;cases h
  | some kk=>
   rw[hl] at h;cases kk with
   | «local»=>exact .inl rfl
   | cell=>exact .inr (.inl rfl)
   | free=>exact .inr (.inr rfl)
   | globalExplicit=>cases h
   | globalImplicit=>cases h
 loc:=λx h=>by
  have h:xE (sc.names.lookup x)=true:=h;refine⟨?_,.inl rfl⟩;show L2.Loc sc x;unfold L2.Loc;cases hl:sc.names.lookup x with
  | none=>rw[hl] at h;cases h
  | some kk=>
   rw[hl] at h;cases kk with
   | «local»=>exact .inl rfl
   | cell=>exact .inr rfl
   | free=>cases h
   | globalExplicit=>cases h
   | globalImplicit=>cases h
 gl:=λx h=>by
  have h:uz (sc.names.lookup x)=true:=h;show sc.names.lookup x=_;cases hl:sc.names.lookup x with
  | none=>rw[hl] at h;cases h
  | some kk=>
   rw[hl] at h;cases kk with
   | globalImplicit=>rfl
   | «local»=>cases h
   | cell=>cases h
   | free=>cases h
   | globalExplicit=>cases h
 fre:=λx h=>h
 calm:=rfl
 un:=by have:=hr.un;show (A.deeper (envOfC qual sc s.heap.objs.size f eN)).units + 150 < cLine;lia
 con:=m.con
 bl:=m.bl
theorem lI {name qual:Str} {params:Arguments} {body:List Stmt} {scope:Scope} {dV kV doc pm eN ct oc:Value} {an od:Option Addr} {tD:Array (Option Value)} {f:Addr} {N ps:List Str} {M:List Bool} {δ:Option Nat} {ba fF:Bool} {n m:Nat} {ts:Ts}
  (lk:K.lookup f=some ⟨oc,od,.func (PySem.W.fnOf name qual params body scope dV kV doc pm an eN ct),tD⟩) (y9:PySem.W.codeIn K eN qual=true) (S:dZ N ps scope) (hm:MG g mg) (Ad:XG g K mg xv) (fx:FX g xv (nX P w) P w K mg base m k F)
  (hM:∀i,i < ps.length->M[i]?≠some true) (hδ:ba=true->δ=some 0) (hc:Cj n g ⟨scope.names,N,M,δ⟩ ba fF body=some ts):
  iH P w K mg base (nX P w) (k + 1) f (PySem.W.fnOf name qual params body scope dV kV doc pm an eN ct) ps (MK K xv (gi F ⟨ps.length,N.length,ba,ts⟩) ps.length fF ba):=by
 have gz:ps.length<=N.length:=by have:=congrArg List.length S.pre;rw[List.length_take] at this;lia
 refine Cv lk y9 S (λvs H Q E h=>h.1) λA outer s H vs Q E hr h=>?_
 obtain⟨hl,W,dr,args,S0,vv,hd,ha,hw,h⟩:=h;have er:=wy (K:=K) (names:=scope.names) (N:=N) (Ek:=λkk=>∀H',aV (λb=>dr=some b) H H'->E (xv kk) none H') hM hδ gz hl hd ha hw;obtain⟨er,vm⟩:=er;generalize hXX:jR (nX P w) P w K mg base N qual scope f eN A outer s H E=X;generalize hΦ:(⟨K,H,dr,λkk=>∀H',aV (λb=>dr=some b) H H'->E (xv kk) none H'⟩:Fm)=Φ at er;have hΦE:∀v a H',lj Φ xv v a H'->E v none H':=λv a H' z=>by obtain⟨kk,rfl,z1,z2⟩:=z;subst hΦ;exact z1 H' z2
 have Oy:∀e s',jL X (lj Φ xv) e s'->X.xe e s':=λe s' z=>by subst hXX;obtain⟨σ,H',a,cls,e1,I,fl,q⟩:=z;exact Ey ⟨σ,H',a,cls,e1,I,fl,hΦE _ _ _ q⟩
 have st:eU X:=by subst hXX;exact yx
 have gx:GX g ⟨scope.names,N,M,δ⟩ X:=by subst hXX;exact Fy (P:=P) (w:=w) (K:=K) (base:=base) (CX:=nX P w) (M:=M) (δ:=δ) (outer:=outer) (H:=H) (E:=E) hm S hr
 have ML:eU (X.dh (jL X (lj Φ xv))):=⟨st.pn,st.st⟩;have hX:HX g xv (nX P w) k F Φ (X.dh (jL X (lj Φ xv))):=by
  refine⟨?_,⟨m,?_⟩,?_,?_,ML,λe s' z=>kR z,?_⟩
  ·subst hΦ hXX;rfl
  ·subst hXX;exact fx
  ·subst hXX;exact hr
  ·subst hXX;rfl
  ·subst hXX;exact Ad
 have own:PassesOwn (model (X.dh (jL X (lj Φ xv))).prog (X.dh (jL X (lj Φ xv))).w) (X.dh (jL X (lj Φ xv))).A (X.dh (jL X (lj Φ xv))).env (X.dh (jL X (lj Φ xv))).xe:=ue (E:=lj Φ xv) ML (λe s' z=>kR z) λe s' z=>yP z
 have d0:Φ.d0=dr:=by subst hΦ;rfl
 have SS:=vM (dp:=ba) (fF:=fF) (W:=W) (n:=n) (Γ:=⟨scope.names,N,M,δ⟩) (by subst hXX;rfl) gx.dh hX (λz=>by
  rw[d0];subst z;simp only[Bool.false_eq_true,if_false] at hd;exact hd.2.1) own hc
 refine⟨_,pv SS Oy,⟨W,W,dr⟩,_,S0,⟨rfl,λa z=>by rw[d0] at z;exact z⟩,er,?_⟩;subst hΦ;unfold gi at h;simp only at h;rw[if_pos vm] at h;have h:(match (aR F ts (u5 ba args N.length ps.length) S0).bind (λp=>match p.1 with
   | .next=>R.ok (Dt.bg,p.2.2)
   | .ret d=>R.ok (d,p.2.2)
   | _=>R.bad) with
  | .ok p=>∀v H',FO K W dr fF H p.1 p.2 v H'->Q v H'
  | .ex kk=>∀H',aV (λb=>dr=some b) H H'->E (xv kk) none H'
  | .bad=>False):=h
 cases he:aR F ts (u5 ba args N.length ps.length) S0 with
 | ok p=>
  rw[he] at h;simp only[R.ai] at h;show cC _ _ _ _ _ _ _ p;unfold cC;cases hp:p.1 with
  | next=>rw[hp] at h;intro σ' H' so;obtain⟨o',oi,Cq,_⟩:=so.ex;exact h _ _ ⟨Cq.ent,RV.gA,λa z=>Cq.drw a (oi.d a z),λ_ ds e=>by cases e⟩
  | ret d=>rw[hp] at h;intro v H' ro;exact h _ _ ⟨ro.ent,ro.val,ro.drw,ro.eI⟩
  | brk=>rw[hp] at h;exact h.elim
  | cnt=>rw[hp] at h;exact h.elim
 | ex kk=>rw[he] at h;exact h
 | bad=>rw[he] at h;exact h.elim
end
structure vw (g:G) (K:Frag) (mg:Str->Option Value) (e:Str×Nat×List Dt×Bool) (idx:Nat) (fn:Fn):Prop where
 ex:∃(fa:Addr) (ps N:List Str) (M:List Bool) (δ:Option Nat) (n:Nat) (oc:Value) (od an:Option Addr) (tD:Array (Option Value)) (params:Arguments) (body:List Stmt) (scope:Scope) (dV kV doc pm eN ct:Value),
  K.lookup fa=some ⟨oc,od,.func (PySem.W.fnOf e.1 e.1 params body scope dV kV doc pm an eN ct),tD⟩/\PySem.W.codeIn K eN e.1=true/\PySem.W.keepIn K (.ref fa)=true/\mg e.1=some (.ref fa)/\dZ N ps scope/\(∀i,i < ps.length->M[i]?≠some true)/\
  (e.2.2.2=true->δ=some 0)/\ps.length=e.2.1/\Cj n g ⟨scope.names,N,M,δ⟩ e.2.2.2 (g.fr idx) body=some fn.body/\fn.ps=ps.length/\fn.n=N.length/\fn.ba=e.2.2.2/\
  (∀j,j<=e.2.2.1.length->∃ds,ar ((e.2.2.1.drop j).map p7) ds/\Binds K (PySem.W.fnOf e.1 e.1 params body scope dV kV doc pm an eN ct) ps ds)/\e.2.2.1.all og=true
noncomputable def oj (g:G) (K:Frag) (mg:Str->Option Value):Nat->List (Str×Nat×List Dt×Bool)->List Fn->Prop
 | _,[],[]=>True
 | i,e::es,f::fs=>vw g K mg e i f/\oj g K mg (i + 1) es fs
 | _,_,_=>False
section
variable {g:G} {K:Frag} {mg:Str->Option Value}
theorem mO {x:Str}:∀{es:List (Str×Nat×List Dt×Bool)} {fs:List Fn} {i j:Nat} {r:Nat×List Dt×Bool},oj g K mg i es fs->qz x es=some (j,r)->∃f,vw g K mg (x,r) (i + j) f/\fs[j]?=some f
 | [],fs,i,j,r,_,h=>by simp[qz] at h
 | e::es,[],i,j,r,h,_=>h.elim
 | e::es,f::fs,i,j,r,ok,h=>by
  obtain⟨o1,o2⟩:=ok;unfold qz at h;split at h
  ·rename_i hx;cases h;have ex:x=e.1:=Pw hx;subst ex;exact⟨f,o1,rfl⟩
  ·obtain⟨p,h1,h2⟩:=Pn.mp h;obtain⟨j',r'⟩:=p;cases h2;obtain⟨f',k1,k2⟩:=mO o2 h1;refine⟨f',?_,k2⟩;have:i + (j' + 1)=i + 1 + j':=by lia
   rw[this];exact k1
variable {P:Program} {w:World} {base:Heap} {xv:Nat->Value} {fs:List Fn}
theorem kr (hm:MG g mg) (Ad:XG g K mg xv) (ok:oj g K mg 0 g.fns fs):∀n,FX g xv (nX P w) P w K mg base n n (aO fs n)
 | 0=>⟨λx f np eY ba h=>by
   obtain⟨fn,⟨fa,ps,N,M,δ,n,oc,od,an,tD,params,body,scope,dV,kV,doc,pm,eN,ct,h1,h2,h3,h4,h5,h6,h7,h8,h9,JO,JP,EH,JQ,JR⟩,hf⟩:=mO ok h;refine⟨fa,_,ps,h8,h4,h3,⟨λvs H Q E q=>q.1.trans h8.symm,λA outer s H args us vs Q E _ _ _ _ q=>?_⟩,JQ,JR⟩;obtain⟨_,W,dr,as,S,vv,_,_,_,q⟩:=q;exact q.elim⟩
 | n + 1=>⟨λx f np eY ba h=>by
   have ih:=kr hm Ad ok n;obtain⟨fn,⟨fa,ps,N,M,δ,m,oc,od,an,tD,params,body,scope,dV,kV,doc,pm,eN,ct,h1,h2,h3,h4,h5,h6,h7,h8,h9,JO,JP,EH,JQ,JR⟩,hf⟩:=mO ok h;rw[Nat.zero_add] at h9;refine⟨fa,_,ps,h8,h4,h3,?_,JQ,JR⟩;have:=lI (xv:=xv) (P:=P) (w:=w) (base:=base) h1 h2 h5 hm Ad ih h6 h7 h9;have e:(aO fs (n + 1)) f=gi (aO fs n) ⟨ps.length,N.length,ba,fn.body⟩:=by funext args S;show (match fs[f]? with | some g=>gi (aO fs n) g args S | none=>R.bad)=_;rw[hf];obtain⟨a1,a2,a3,a4⟩:=fn;simp only at JO JP EH;subst JO JP EH;rfl
   have Nj:ps.length=np:=h8;rw[e,<-Nj];exact this⟩
noncomputable def tT (K:Frag):Sp:=λvs H Q _=>∃(a:Addr) (ns:List Int),vs=[.ref a]/\cT K H a (ns.map V.int)/\ns.length<=63/\∀H',Q (.bl true) H'
theorem len0 {P:List Value->Prop} (h:P []):∀us:List Value,us.length=0->P us:=λus e=>List.eq_nil_of_length_eq_zero e▸h
theorem lenS {n:Nat} {P:List Value->Prop} (h:∀a (us:List Value),us.length=n->P (a::us)):∀us:List Value,us.length=n + 1->P us:=λus e=>by
 cases us with
 | nil=>cases e
 | cons a t=>exact h a t (Nat.succ.inj e)
theorem binds0 {fd:FuncData} {ps:List Str} (h:∀us:List Value,us.length=ps.length->bindArgs fd ⟨us,[]⟩=pure (ps.zip us)):∀j,j<=([]:List Dt).length->∃ds,ar ((([]:List Dt).drop j).map p7) ds/\Binds K fd ps ds:=λj hj=>by
 have:j=0:=by simpa using hj
 subst this;exact⟨[],.nil,Binds.all h⟩
noncomputable def Oi (names:List (Str×NameKind)) (ps:List Str):List Str:=ps++names.filterMap λp=>if xE (some p.2)&& !ps.contains p.1 then some p.1 else none
noncomputable def EU (N ms:List Str):List Bool:=N.map λx=>ms.contains x
theorem Gx {N ms ps:List Str} (h:((EU N ms).take ps.length).all (λb=> !b)=true):∀i,i < ps.length->(EU N ms)[i]?≠some true:=λi hi e=>by have hm:true∈(EU N ms).take ps.length:=List.mem_iff_getElem?.mpr ⟨i,by rw[List.getElem?_take_of_lt hi];exact e⟩;have:=PQ.mp h true hm;cases this
end
end Rx
end
section
namespace Rx
open PySem PySem.W PySem.Spec PyProof.Rows L2
section
variable {F:FT} {S:Sx} {ρ:ak}
theorem fj {tg:Tg} {body:ak->Sx->RS} {ds:List Dt} (P:List Dt->ak->Prop) (h0:P [] ρ)
  (step:∀pre x post ρ,ds=pre++x::post->P pre ρ->∃ρ1 ρ2,bU tg x ρ= .ok ρ1/\body ρ1 S= .ok (.next,ρ2,S)/\P (pre++[x]) ρ2):∃ρ',forL tg body ds ρ S= .ok (.next,ρ',S)/\P ds ρ':=by
 have key:∀(post pre:List Dt) (ρ:ak),ds=pre++post->P pre ρ->∃ρ',forL tg body post ρ S= .ok (.next,ρ',S)/\P ds ρ':=by
  intro post
  induction post with
  | nil=>intro pre ρ e h;rw[PX] at e;subst e;exact⟨ρ,rfl,h⟩
  | cons x post ih=>intro pre ρ e h;obtain⟨ρ1,ρ2,h1,h2,h3⟩:=step pre x post ρ e h;obtain⟨ρ',h4,h5⟩:=ih (pre++[x]) ρ2 (by rw[e];simp) h3;refine⟨ρ',?_,h5⟩;rw[forL,h1,R.ai,h2,R.ai];exact h4
 exact key ds [] ρ rfl h0
theorem e9 {α β:Type} (f:α->β):∀l:List α,(l.flatMap λx=>[f x])=l.map f
 | []=>rfl
 | x::l=>by rw[List.flatMap_cons,e9 f l];rfl
end
theorem A3 {fs:List Fn} {n k:Nat} {g:Fn} {args:List Dt} {S:Sx} (h:fs[k]?=some g):aO fs (n + 1) k args S=gi (aO fs n) g args S:=by show (match fs[k]? with | some g=>gi (aO fs n) g args S | none=>R.bad)=_;rw[h]
noncomputable def GB (d:Dt) (S:Sx):R (Dt×Sx):=match d with | .int i=> .ok (.int (-i),S) | _=> .bad
noncomputable def ME (d:Dt) (S:Sx):R (Dt×Sx):=match d with | .bl b=> .ok (.bl !b,S) | _=> .bad
noncomputable def Fe (d:Dt) (S:Sx):R (Dt×Sx):=match d with | .bl c=> .ok (.bl c,S) | _=> .bad
noncomputable def B6 (f:Sx->R (Dt×Sx)) (d:Dt) (S:Sx):R (Dt×Sx):=match d with | .bl true=>(f S).bind (λy=>Fe y.1 y.2) | .bl false=> .ok (.bl false,S) | _=> .bad
noncomputable def KW (f:Sx->R (Dt×Sx)) (d:Dt) (S:Sx):R (Dt×Sx):=match d with | .bl false=>(f S).bind (λy=>Fe y.1 y.2) | .bl true=> .ok (.bl true,S) | _=> .bad
noncomputable def BG (k:List Dt->Dt) (ds:List Dt) (S:Sx):R (Dt×Sx):=af (decide (ds.length<=lim)) (.ok (k ds,S))
noncomputable def KA (o:Option (List Dt)) (S:Sx):R (List Dt×Sx):=match o with | some ds=> .ok (ds,S) | none=> .bad
noncomputable def Hk (d e:Dt) (S:Sx):R (Dt×Sx):=match e with | .int i=>(iA d (some i) none).bind λd=> .ok (d,S) | _=> .bad
noncomputable def Hj (d e:Dt) (S:Sx):R (Dt×Sx):=match e with | .int i=>(iA d none (some i)).bind λd=> .ok (d,S) | _=> .bad
theorem RX:
  (∀{F:FT} {S:Sx} {ρ:ak} {d:Dt},ev F (.con d) ρ S= .ok (d,S))/\
  (∀{F:FT} {S:Sx} {ρ:ak} {i:Nat},ev F (.var i) ρ S=(fk ρ i).bind λd=> .ok (d,S))/\
  (∀{F:FT} {S:Sx} {ρ:ak} {i:Nat},ev F (.mvr i) ρ S=(fk ρ i).bind λd=> .ok (d,S))/\
  (∀{F:FT} {S:Sx} {ρ:ak} {o:Operator} {a b:C},ev F (.bin o a b) ρ S=(ev F a ρ S).bind λx=>(ev F b ρ x.2).bind λy=>(pe o x.1 y.1).bind λd=> .ok (d,y.2))/\
  (∀{F:FT} {S:Sx} {ρ:ak} {o:CmpOp} {a b:C},ev F (.cmp o a b) ρ S=(ev F a ρ S).bind λx=>(ev F b ρ x.2).bind λy=>(cO o x.1 y.1).bind λd=> .ok (.bl d,y.2))/\
  (∀{F:FT} {S:Sx} {ρ:ak} {a:C},ev F (.neg a) ρ S=(ev F a ρ S).bind λx=>GB x.1 x.2)/\
  (∀{F:FT} {S:Sx} {ρ:ak} {a:C},ev F (.nt a) ρ S=(ev F a ρ S).bind λx=>ME x.1 x.2)/\
  (∀{F:FT} {S:Sx} {ρ:ak} {a b:C},ev F (.and a b) ρ S=(ev F a ρ S).bind λx=>B6 (ev F b ρ) x.1 x.2)/\
  (∀{F:FT} {S:Sx} {ρ:ak} {a b:C},ev F (.or a b) ρ S=(ev F a ρ S).bind λx=>KW (ev F b ρ) x.1 x.2)/\
  (∀{F:FT} {S:Sx} {ρ:ak} {a b c:C},ev F (.ite a b c) ρ S=(cN F a ρ S).bind λx=>if x.1=true then ev F b ρ x.2 else ev F c ρ x.2)/\
  (∀{F:FT} {S:Sx} {ρ:ak} {a b:C},ev F (.idx a b) ρ S=(ev F a ρ S).bind λx=>(ev F b ρ x.2).bind λy=>(cP x.1 y.1).bind λd=> .ok (d,y.2))/\
  (∀{F:FT} {S:Sx} {ρ:ak} {a b:C},ev F (.sliL a b) ρ S=(ev F a ρ S).bind λx=>(ev F b ρ x.2).bind λy=>Hk x.1 y.1 y.2)/\
  (∀{F:FT} {S:Sx} {ρ:ak} {a b:C},ev F (.sliH a b) ρ S=(ev F a ρ S).bind λx=>(ev F b ρ x.2).bind λy=>Hj x.1 y.1 y.2)/\
  (∀{F:FT} {S:Sx} {ρ:ak} {f:Nat} {es:Cs} {ds:List Dt},ev F (.call f es ds) ρ S=(eZ F es ρ S).bind λx=>(F f (x.1++ds) none).bind λy=> .ok (y.1,x.2))/\
  (∀{F:FT} {S:Sx} {ρ:ak} {u:BI} {es:Cs},ev F (.bi u es) ρ S=(eZ F es ρ S).bind λx=>(dG u x.1).bind λd=> .ok (d,x.2))/\
  (∀{F:FT} {S:Sx} {ρ:ak} {es:Cs},ev F (.tup es) ρ S=(eZ F es ρ S).bind λx=>BG .tup x.1 x.2)/\
  (∀{F:FT} {S:Sx} {ρ:ak} {es:Cs},ev F (.lst es) ρ S=(eZ F es ρ S).bind λx=>BG .lst x.1 x.2)/\
  (∀{F:FT} {S:Sx} {ρ:ak},eZ F .nil ρ S= .ok ([],S))/\
  (∀{F:FT} {S:Sx} {ρ:ak} {a:C} {es:Cs},eZ F (.cons a es) ρ S=(ev F a ρ S).bind λx=>(eZ F es ρ x.2).bind λy=> .ok (x.1::y.1,y.2))/\
  (∀{F:FT} {S:Sx} {ρ:ak} {o:CmpOp} {a b:C},cN F (.cmp o a b) ρ S=(ev F a ρ S).bind λx=>(ev F b ρ x.2).bind λy=>(cO o x.1 y.1).bind λd=> .ok (d,y.2))/\
  (∀{F:FT} {S:Sx} {ρ:ak} {a b:C},cN F (.and a b) ρ S=(cN F a ρ S).bind λx=>if x.1=true then cN F b ρ x.2 else .ok (false,x.2))/\
  (∀{F:FT} {S:Sx} {ρ:ak} {a b:C},cN F (.or a b) ρ S=(cN F a ρ S).bind λx=>if x.1=true then .ok (true,x.2) else cN F b ρ x.2)/\
  (∀{F:FT} {S:Sx} {ρ:ak} {a:C},cN F (.nt a) ρ S=(cN F a ρ S).bind λx=> .ok (!x.1,x.2))/\
  (∀{F:FT} {S:Sx} {ρ:ak} {f:Nat} {es:Cs} {ds:List Dt},cN F (.call f es ds) ρ S=(eZ F es ρ S).bind λx=>(F f (x.1++ds) none).bind λy=>(du y.1).bind λb=> .ok (b,x.2))/\
  (∀{F:FT} {S:Sx} {ρ:ak} {u:BI} {es:Cs},cN F (.bi u es) ρ S=(eZ F es ρ S).bind λx=>(dG u x.1).bind λd=>(du d).bind λb=> .ok (b,x.2))/\
  (∀{F:FT} {S:Sx} {ρ:ak} {i:Nat},cN F (.var i) ρ S=(fk ρ i).bind λd=>(du d).bind λb=> .ok (b,S))/\
  (∀{F:FT} {S:Sx} {ρ:ak} {i:Nat},cN F (.mvr i) ρ S=(fk ρ i).bind λd=>(du d).bind λb=> .ok (b,S))/\
  (∀{F:FT} {S:Sx} {ρ:ak} {a b:C},cN F (.idx a b) ρ S=(ev F a ρ S).bind λx=>(ev F b ρ x.2).bind λy=>(cP x.1 y.1).bind λd=>(du d).bind λb=> .ok (b,y.2))/\
  (∀{F:FT} {S:Sx} {ρ:ak},cq F .nil ρ S= .ok (true,S))/\
  (∀{F:FT} {S:Sx} {ρ:ak} {a:C},cq F (.cons a .nil) ρ S=cN F a ρ S)/\
  (∀{F:FT} {S:Sx} {ρ:ak} {a:C},dM F (.seq a) ρ S=(ev F a ρ S).bind λx=>KA (itemsOf x.1) x.2)/\
  (∀{F:FT} {S:Sx} {ρ:ak} {a:C},dM F (.enum a) ρ S=(ev F a ρ S).bind λx=>KA ((bJ x.1).map (cY 0)) x.2)/\
  (∀{d:Dt} {ρ:ak},fk (some d::ρ) 0= .ok d)/\
  (∀{e:Option Dt} {ρ:ak} {i:Nat},fk (e::ρ) (i + 1)=fk ρ i)/\
  (∀{S:Sx} {i:Int},GB (.int i) S= .ok (.int (-i),S))/\
  (∀{S:Sx} {b:Bool},ME (.bl b) S= .ok (.bl !b,S))/\
  (∀{S:Sx} {f:Sx->R (Dt×Sx)},B6 f (.bl false) S= .ok (.bl false,S))/\
  (∀{S:Sx} {f:Sx->R (Dt×Sx)},B6 f (.bl true) S=(f S).bind λy=>Fe y.1 y.2)/\
  (∀{S:Sx} {f:Sx->R (Dt×Sx)},KW f (.bl true) S= .ok (.bl true,S))/\
  (∀{S:Sx} {f:Sx->R (Dt×Sx)},KW f (.bl false) S=(f S).bind λy=>Fe y.1 y.2)/\
  (∀{S:Sx} {b:Bool},Fe (.bl b) S= .ok (.bl b,S))/\
  (∀{S:Sx} {ds:List Dt},KA (some ds) S= .ok (ds,S))/\
  (∀{ds:List Dt} {f:List Dt->List Dt},(some ds).map f=some (f ds))/\
  (∀{S:Sx} {k:List Dt->Dt},BG k [] S= .ok (k [],S))/\
  (∀{S:Sx} {k:List Dt->Dt} {a:Dt},BG k [a] S= .ok (k [a],S))/\
  (∀{S:Sx} {k:List Dt->Dt} {a b:Dt},BG k [a,b] S= .ok (k [a,b],S))/\
  (∀{S:Sx} {k:List Dt->Dt} {a b c:Dt},BG k [a,b,c] S= .ok (k [a,b,c],S))/\
  (∀{S:Sx} {k:List Dt->Dt} {a b c d:Dt},BG k [a,b,c,d] S= .ok (k [a,b,c,d],S))/\
  (∀{S:Sx} {k:List Dt->Dt} {a b c d e:Dt},BG k [a,b,c,d,e] S= .ok (k [a,b,c,d,e],S))/\
  (∀{S:Sx} {d:Dt} {i:Int},Hk d (.int i) S=(iA d (some i) none).bind λd=> .ok (d,S))/\
  (∀{S:Sx} {d:Dt} {i:Int},Hj d (.int i) S=(iA d none (some i)).bind λd=> .ok (d,S))/\
  (∀{m n:Int},pe .Add (.int m) (.int n)= .ok (.int (m + n)))/\
  (∀{m n:Int},pe .Sub (.int m) (.int n)= .ok (.int (m - n)))/\
  (∀{m n:Int},cO .Lt (.int m) (.int n)= .ok (decide (m < n)))/\
  (∀{m n:Int},cO .LtE (.int m) (.int n)= .ok (decide (m<=n)))/\
  (∀{m n:Int},cO .Gt (.int m) (.int n)= .ok (decide (n < m)))/\
  (∀{m n:Int},cO .GtE (.int m) (.int n)= .ok (decide (n<=m)))/\
  (∀{m n:Int},cO .Eq (.int m) (.int n)= .ok (m==n))/\
  (∀{m n:Int},cO .NotEq (.int m) (.int n)= .ok (!(m==n)))/\
  (∀{m n:Str},cO .Eq (.str m) (.str n)= .ok (m==n))/\
  (∀{m n:Str},cO .NotEq (.str m) (.str n)= .ok (!(m==n)))/\
  (∀{ns:List Int},dG .len [.bE ns]= .ok (.int ns.length))/\
  (∀{ds:List Dt},dG .len [.lst ds]= .ok (.int ds.length))/\
  (∀{ds:List Dt},dG .len [.tup ds]= .ok (.int ds.length))/\
  (∀{ds:List Dt},dG .tuple [.lst ds]= .ok (.tup ds))/\
  (∀{ds:List Dt},dG .tuple [.tup ds]= .ok (.tup ds))/\
  (∀{ds:List Dt},dG .list [.lst ds]= .ok (.lst ds))/\
  (∀{ds:List Dt},dG .list [.tup ds]= .ok (.lst ds))/\
  (∀{t:Bool},du (.bl t)= .ok t)/\
  (∀{ds:List Dt},du (.lst ds)= .ok !ds.isEmpty)/\
  (∀{ds:List Dt},du (.tup ds)= .ok !ds.isEmpty)/\
  (∀{ds:List Dt},itemsOf (.lst ds)=some ds)/\
  (∀{ds:List Dt},itemsOf (.tup ds)=some ds)/\
  (∀{ds:List Dt},bJ (.lst ds)=some ds)/\
  (∀{ds:List Dt},bJ (.tup ds)=some ds)/\
  (∀{α β:Type} {x:α} {f:α->R β},(R.ok x).bind f=f x)/\
  (∀{α:Type} {r:R α},af true r=r)/\
  (∀{ds:List Dt},(ds++[]:List Dt)=ds)/\
  (∀{e v:Option Dt} {ρ:ak},(e::ρ).set 0 v=v::ρ)/\
  (∀{e v:Option Dt} {ρ:ak} {i:Nat},(e::ρ).set (i + 1) v=e::ρ.set i v)/\
  (∀{d:Dt} {ρ:ak} {i:Nat},bU (.nm i) d ρ= .ok (ρ.set i (some d)))/\
  (∀{is:List Nat} {ds:List Dt} {ρ:ak},bU (.tp is) (.tup ds) ρ=df is ds ρ)/\
  (∀{ρ:ak},df [] [] ρ= .ok ρ)/\
  (∀{i:Nat} {is:List Nat} {d:Dt} {ds:List Dt} {ρ:ak},df (i::is) (d::ds) ρ=df is ds (ρ.set i (some d)))/\
  (∀{d:Dt},cP (.tup [d]) (.int 0)= .ok d)/\
  (∀{d d2:Dt},cP (.tup [d,d2]) (.int 0)= .ok d)/\
  (∀{d d2:Dt},cP (.tup [d,d2]) (.int 1)= .ok d2)/\
  (∀{d d2 d3:Dt},cP (.tup [d,d2,d3]) (.int 0)= .ok d)/\
  (∀{d d2 d3:Dt},cP (.tup [d,d2,d3]) (.int 1)= .ok d2)/\
  (∀{d d2 d3:Dt},cP (.tup [d,d2,d3]) (.int 2)= .ok d3):=
 ⟨@λ_ _ _ _=>rfl,
  @λ_ _ _ _=>rfl,
  @λ_ _ _ _=>rfl,
  @λ_ _ _ _ _ _=>rfl,
  @λ_ _ _ _ _ _=>rfl,
  @λ_ _ _ _=>rfl,
  @λ_ _ _ _=>rfl,
  @λ_ _ _ _ _=>rfl,
  @λ_ _ _ _ _=>rfl,
  @λ_ _ _ _ _ _=>rfl,
  @λ_ _ _ _ _=>rfl,
  @λ_ _ _ _ _=>rfl,
  @λ_ _ _ _ _=>rfl,
  @λ_ _ _ _ _ _=>rfl,
  @λ_ _ _ _ _=>rfl,
  @λ_ _ _ _=>rfl,
  @λ_ _ _ _=>rfl,
  @λ_ _ _=>rfl,
  @λ_ _ _ _ _=>rfl,
  @λ_ _ _ _ _ _=>rfl,
  @λ_ _ _ _ _=>rfl,
  @λ_ _ _ _ _=>rfl,
  @λ_ _ _ _=>rfl,
  @λ_ _ _ _ _ _=>rfl,
  @λ_ _ _ _ _=>rfl,
  @λ_ _ _ _=>rfl,
  @λ_ _ _ _=>rfl,
  @λ_ _ _ _ _=>rfl,
  @λ_ _ _=>rfl,
  @λ_ _ _ _=>rfl,
  @λ_ _ _ _=>rfl,
  @λF S ρ a=>by rw[dM];cases ev F a ρ S with | ok x=>(simp only[R.ai];cases bJ x.1 <;> rfl) | ex k=>rfl | bad=>rfl,
  @λ_ _=>rfl,
  @λ_ _ _=>rfl,
  @λ_ _=>rfl,
  @λ_ _=>rfl,
  @λ_ _=>rfl,
  @λ_ _=>rfl,
  @λ_ _=>rfl,
  @λ_ _=>rfl,
  @λ_ _=>rfl,
  @λ_ _=>rfl,
  @λ_ _=>rfl,
  @λ_ _=>rfl,
  @λ_ _ _=>rfl,
  @λ_ _ _ _=>rfl,
  @λ_ _ _ _ _=>rfl,
  @λ_ _ _ _ _ _=>rfl,
  @λ_ _ _ _ _ _ _=>rfl,
  @λ_ _ _=>rfl,
  @λ_ _ _=>rfl,
  @λ_ _=>rfl,
  @λ_ _=>rfl,
  @λ_ _=>rfl,
  @λ_ _=>rfl,
  @λ_ _=>rfl,
  @λ_ _=>rfl,
  @λ_ _=>rfl,
  @λ_ _=>rfl,
  @λ_ _=>rfl,
  @λ_ _=>rfl,
  @λ_=>rfl,
  @λ_=>rfl,
  @λ_=>rfl,
  @λ_=>rfl,
  @λ_=>rfl,
  @λ_=>rfl,
  @λ_=>rfl,
  @λ_=>rfl,
  @λ_=>rfl,
  @λ_=>rfl,
  @λ_=>rfl,
  @λ_=>rfl,
  @λ_=>rfl,
  @λ_=>rfl,
  @λ_ _ _ _=>rfl,
  @λ_ _=>rfl,
  @λds=>PX ds,
  @λ_ _ _=>rfl,
  @λ_ _ _ _=>rfl,
  @λ_ _ _=>rfl,
  @λ_ _ _=>rfl,
  @λ_=>rfl,
  @λ_ _ _ _ _=>rfl,
  @λ_=>rfl,
  @λ_ _=>rfl,
  @λ_ _=>rfl,
  @λ_ _ _=>rfl,
  @λ_ _ _=>rfl,
  @λ_ _ _=>rfl⟩
section
variable {F:FT} {S:Sx} {ρ:ak}
theorem a8 {i j:Int} (h:i.natAbs < 2 ^ 64\/j.natAbs < 2 ^ 64):pe .Mult (.int i) (.int j)= .ok (.int (i * j)):=by show af (decide (i.natAbs < 2 ^ 64)||decide (j.natAbs < 2 ^ 64)) _=_;rw[show (decide (i.natAbs < 2 ^ 64)||decide (j.natAbs < 2 ^ 64))=true by simpa using h];rfl
theorem b9 {i j:Int} (h:0 < j):pe .Mod (.int i) (.int j)= .ok (.int (i % j)):=by show af (decide (0 < j)) _=_;rw[PF h];rfl
theorem Ds {i j:Int} (h:0 < j) (h2:j.natAbs.log2 < 9000):pe .FloorDiv (.int i) (.int j)= .ok (.int (i / j)):=by show af (decide (0 < j)&&decide (j.natAbs.log2 < 9000)) _=_;rw[PF h,PF h2];rfl
noncomputable def fin (r:RS):R (Dt×Sx):=r.bind λp=>match p.1 with
 | .next=> .ok (.bg,p.2.2)
 | .ret d=> .ok (d,p.2.2)
 | _=> .bad
noncomputable def Ts.app:Ts->Ts->Ts
 | .nil,b=>b
 | .cons t a,b=> .cons t (a.app b)
theorem mM:∀{a b:Ts} {ρ:ak} {S:Sx},aR F (a.app b) ρ S=(aR F a ρ S).bind λp=>match p.1 with
  | .next=>aR F b p.2.1 p.2.2
  | f=> .ok (f,p.2)
 | .nil,b,ρ,S=>rfl
 | .cons t a,b,ρ,S=>by
  show aR F (.cons t (a.app b)) ρ S=_;rw[aR,aR];cases ex F t ρ S with
  | ok p=>
   obtain⟨f,ρ1,S1⟩:=p;cases f with
   | next=>exact mM
   | brk=>rfl
   | cnt=>rfl
   | ret d=>rfl
  | ex k=>rfl
  | bad=>rfl
section
variable {r:R (Dt×Sx)} {ts:Ts}
theorem jX {t:T} {ρ1:ak} {S1:Sx} (h:ex F t ρ S= .ok (.next,ρ1,S1)) (k:fin (aR F ts ρ1 S1)=r):fin (aR F (.cons t ts) ρ S)=r:=by rw[aR,h];exact k
theorem zJ {t:T} {ρ1:ak} {S1:Sx} {d:Dt} (h:ex F t ρ S= .ok (.ret d,ρ1,S1)):fin (aR F (.cons t ts) ρ S)= .ok (d,S1):=by rw[aR,h];rfl
theorem az {i:Nat} {c:C} {d:Dt} {S1:Sx} (h:ev F c ρ S= .ok (d,S1)) (hs:bx c d=true) (k:fin (aR F ts (ρ.set i (some d)) S1)=r):fin (aR F (.cons (.asg i c) ts) ρ S)=r:=by refine jX ?_ k;rw[ex,h,R.ai,hs];rfl
theorem dN {i:Nat} {c:C} {d:Dt} {S1:Sx} (h:ev F c ρ S= .ok (d,S1)) (hs:jd c d=true) (k:fin (aR F ts (ρ.set i (some d)) S1)=r):fin (aR F (.cons (.asgM i c) ts) ρ S)=r:=by refine jX ?_ k;rw[ex,h,R.ai,hs];rfl
theorem aq {c:C} {d:Dt} {S1:Sx} (h:ev F c ρ S= .ok (d,S1)):fin (aR F (.cons (.ret c) ts) ρ S)= .ok (d,S1):=by refine zJ (ρ1:=ρ) ?_;rw[ex,h];rfl
theorem wD {t:C} {a b:Ts} {x:Bool} {S1:Sx} (h:cN F t ρ S= .ok (x,S1)) (k:fin (aR F ((if x=true then a else b).app ts) ρ S1)=r):fin (aR F (.cons (.ifs t a b) ts) ρ S)=r:=by rw[<-k,mM,aR,ex,h,R.ai];cases x <;> rfl
theorem dy {t:C} {a b:Ts} {S1:Sx} (h:cN F t ρ S= .ok (true,S1)) (k:fin (aR F (a.app ts) ρ S1)=r):fin (aR F (.cons (.ifs t a b) ts) ρ S)=r:=wD h (by rw[if_pos rfl];exact k)
theorem bQ {t:C} {a b:Ts} {S1:Sx} (h:cN F t ρ S= .ok (false,S1)) (k:fin (aR F (b.app ts) ρ S1)=r):fin (aR F (.cons (.ifs t a b) ts) ρ S)=r:=wD h (by rw[if_neg (by simp)];exact k)
theorem bW {tg:Tg} {it:ll} {b:Ts} {ds:List Dt} {ρ1:ak} {S1 S2:Sx} (h:dM F it ρ S= .ok (ds,S1)) (hl:p5 it=0) (hf:forL tg (aR F b) ds ρ S1= .ok (.next,ρ1,S2)) (k:fin (aR F ts ρ1 S2)=r):fin (aR F (.cons (.fr tg it b) ts) ρ S)=r:=by refine jX ?_ k;rw[ex,h,R.ai,PF hl,Bool.true_or];exact hf
end
end
theorem aG {fs:List Fn} {n k ps m:Nat} {body:Ts} {args:List Dt} {r:R (Dt×Sx)} {S:Sx} (h:fs[k]?=some ⟨ps,m,false,body⟩) (hn:1<=n) (hl:args.length=ps) (q:fin (aR (aO fs (n - 1)) body (args.map some++List.replicate (m - ps) none) S)=r):aO fs n k args S=r:=by obtain⟨n,rfl⟩:∃m,n=m + 1:=⟨n - 1,by lia⟩;rw[A3 h];unfold gi;simp only[Bool.false_eq_true,if_false,Nat.add_zero,hl,if_true,List.nil_append];exact q
noncomputable def oz:Ts:=(.cons (.ifs (.cmp .Lt (.var 1) (.bi .len (.cons (.var 0) .nil))) (.cons (.ret (.idx (.var 0) (.var 1))) .nil) .nil) (.cons (.asg 2 (.bin .Add (.bin .Mult (.var 1) (.con (.int 7919))) (.con (.int 5)))) (.cons (.ifs (.cmp .Gt (.bi .len (.cons (.var 0) .nil)) (.con (.int 0))) (.cons (.asg 2 (.bin .Add (.bin .Add (.bin .Mult (.bin .Mod (.idx (.var 0) (.bin .Mod (.var 1) (.bi .len (.cons (.var 0) .nil)))) (.con (.int 2147483647))) (.con (.int 48271))) (.bin .Mult (.bin .Mult (.var 1) (.var 1)) (.con (.int 7919)))) (.con (.int 11)))) .nil) .nil) (.cons (.ret (.bin .Mod (.bin .Mult (.var 2) (.var 2)) (.con (.int 2147483629)))) .nil))))
theorem sT {ns:List Int} {k:Nat} (h:k < ns.length):cP (.bE ns) (.int k)= .ok (.int ns[k]):=by show uh (ns.map Dt.int) k=_;unfold uh;rw[L2.fG (v:= .int ns[k]) (by simp[h])]
noncomputable def f7 (ns:List Int) (k:Nat):Int:=if h:k < ns.length then ns[k] else
 let m:Int:=if h:0 < ns.length then ns[k % ns.length]'(Nat.mod_lt _ h) % 2147483647 * 48271 + k * k * 7919 + 11 else k * 7919 + 5
 m * m % 2147483629
theorem mB {fs:List Fn} {ic:Nat} (hc:fs[ic]?=some ⟨2,3,false,oz⟩) {n:Nat} (hn:1<=n) {ns:List Int} {k:Nat} (hk:k < 1000000):aO fs n ic [.bE ns,.int k] none= .ok (.int (f7 ns k),none):=by
 refine aG hc hn rfl ?_;show fin (aR (aO fs (n - 1)) oz [some (.bE ns),some (.int k),none] none)=_;by_cases h:k < ns.length
 ·refine dy (S1:=none) (by simp only[RX];simp[h]) ?_;exact(aq (d:= .int ns[k]) (S1:=none) (by simp only[RX,sT h])).trans (by simp[f7,h])
 ·have b1:(k:Int) * k<=1000000 * 1000000:=by
   have:k * k<=1000000 * 1000000:=Nat.mul_le_mul (by lia) (by lia);rw[<-Int.natCast_mul]
   lia
  have b0:(0:Int)<=(k:Int) * k:=Int.mul_nonneg (by lia) (by lia);have m1:=a8 (i:=k) (j:=7919) (.inl (by lia));refine bQ (S1:=none) (by simp only[RX];simp;lia) (az (d:= .int (k * 7919 + 5)) (S1:=none) (by simp only[RX,m1]) rfl ?_);by_cases h2:0 < ns.length
  ·have hm:=Nat.mod_lt k h2;have e1:((k:Int) % (ns.length:Int))=((k % ns.length:Nat):Int):=by simp
   generalize hx:ns[k % ns.length]=x;have r1:=PU x (b:=2147483647) (by decide);have r2:=PV x (b:=2147483647) (by decide);have m2:=b9 (i:=k) (j:=ns.length) (by lia);rw[e1] at m2;have m3:=b9 (i:=x) (j:=2147483647) (by decide);have m4:=a8 (i:=x % 2147483647) (j:=48271) (.inl (by lia));have m5:=a8 (i:=k) (j:=k) (.inl (by lia));have m6:=a8 (i:=(k:Int) * k) (j:=7919) (.inl (by lia));have m7:=a8 (i:=x % 2147483647 * 48271 + k * k * 7919 + 11) (j:=x % 2147483647 * 48271 + k * k * 7919 + 11) (.inl (by lia));have m8:=b9 (i:=(x % 2147483647 * 48271 + k * k * 7919 + 11) * (x % 2147483647 * 48271 + k * k * 7919 + 11)) (j:=2147483629) (by decide);refine dy (S1:=none) (by simp only[RX];simp;lia) (az (d:= .int (x % 2147483647 * 48271 + k * k * 7919 + 11)) (S1:=none) ?_ rfl ?_)
   ·simp only[RX,m2,m3,m4,m5,m6,sT hm,hx]
   ·refine(aq (d:=_) (S1:=none) (by simp only[RX,m7,m8];rfl)).trans ?_;simp[f7,h,h2,hx]
  ·have z0:decide ((0:Int) < ns.length)=false:=Py (by lia);have m7:=a8 (i:=k * 7919 + 5) (j:=k * 7919 + 5) (.inl (by lia));have m8:=b9 (i:=((k:Int) * 7919 + 5) * (k * 7919 + 5)) (j:=2147483629) (by decide);refine bQ (S1:=none) (by simp only[RX,z0]) ((aq (d:=_) (S1:=none) (by simp only[RX,m7,m8];rfl)).trans ?_);simp[f7,h,h2]
section
variable {F:FT} {S S1 S2:Sx} {ρ ρ1:ak} {ts:Ts} {r:RS} {d:Dt} {ds:List Dt}
theorem nx {t:T} (h:ex F t ρ S= .ok (.next,ρ1,S1)) (k:aR F ts ρ1 S1=r):aR F (.cons t ts) ρ S=r:=by rw[aR,h];exact k
theorem fw {i:Nat} {c:C} (h:ev F c ρ S= .ok (d,S1)) (hs:bx c d=true) (k:aR F ts (ρ.set i (some d)) S1=r):aR F (.cons (.asg i c) ts) ρ S=r:=by refine nx ?_ k;rw[ex,h,R.ai,hs];rfl
theorem Ax {i:Nat} {c:C} (h:ev F c ρ S= .ok (d,S1)) (hs:jd c d=true) (k:aR F ts (ρ.set i (some d)) S1=r):aR F (.cons (.asgM i c) ts) ρ S=r:=by refine nx ?_ k;rw[ex,h,R.ai,hs];rfl
theorem BH {t:C} {a b:Ts} {x:Bool} (h:cN F t ρ S= .ok (x,S1)) (k:aR F ((if x=true then a else b).app ts) ρ S1=r):aR F (.cons (.ifs t a b) ts) ρ S=r:=by rw[<-k,mM,aR,ex,h,R.ai];cases x <;> rfl
theorem xN {t:C} {a b:Ts} (h:cN F t ρ S= .ok (true,S1)) (k:aR F (a.app ts) ρ S1=r):aR F (.cons (.ifs t a b) ts) ρ S=r:=BH h (by rw[if_pos rfl];exact k)
theorem uW {t:C} {a b:Ts} (h:cN F t ρ S= .ok (false,S1)) (k:aR F (b.app ts) ρ S1=r):aR F (.cons (.ifs t a b) ts) ρ S=r:=BH h (by rw[if_neg (by simp)];exact k)
theorem xO {tg:Tg} {it:ll} {b:Ts} (h:dM F it ρ S= .ok (ds,S1)) (hl:p5 it=0) (hf:forL tg (aR F b) ds ρ S1= .ok (.next,ρ1,S2)) (k:aR F ts ρ1 S2=r):aR F (.cons (.fr tg it b) ts) ρ S=r:=by refine nx ?_ k;rw[ex,h,R.ai,PF hl,Bool.true_or];exact hf
theorem mW {i:Nat} (hl:ρ[i]?=some (some (.lst ds))):isLE ρ i=true:=by unfold isLE;rw[hl]
theorem ng {i:Nat} (hl:ρ[i]?=some (some (.lst ds))):oS ρ i= .ok ds:=by unfold oS;rw[hl]
theorem Cr {i:Nat} {c:C} (hl:ρ[i]?=some (some (.lst ds))) (h:ev F c ρ S= .ok (d,S1)) (hs:bx c d=true) (hz:ds.length<=lim):ex F (.app i c) ρ S= .ok (.next,ρ.set i (some (.lst (ds++[d]))),S1):=by rw[ex,mW hl,guard_true,h,R.ai,hs,guard_true,ng hl,R.ai,PF hz];rfl
theorem Ct {i:Nat} {c:C} {es:List Dt} (hl:ρ[i]?=some (some (.lst ds))) (h:ev F c ρ S= .ok (.lst es,S1)) (hs:lk c<=1) (hz:ds.length + es.length<=lim):ex F (.xtd i c) ρ S= .ok (.next,ρ.set i (some (.lst (ds++es))),S1):=by rw[ex,mW hl,guard_true,h,R.ai,PF hs,guard_true,ng hl,R.ai];show af (decide (ds.length + es.length<=lim)) _=_;rw[PF hz];rfl
theorem zI {i:Nat} {k v:C} {n:Int} {j:Nat} (hl:ρ[i]?=some (some (.lst ds))) (h:ev F v ρ S= .ok (d,S1)) (h2:ev F k ρ S1= .ok (.int n,S2)) (hs:bx v d=true) (hz:mY ds.length n=some j):ex F (.yl i k v) ρ S= .ok (.next,ρ.set i (some (.lst (ds.set j d))),S2):=by rw[ex,mW hl,guard_true,h,R.ai,h2,R.ai,hs,guard_true,ng hl,R.ai];show (match mY ds.length n with | some j=>R.ok (Fl.next,ρ.set i (some (.lst (ds.set j d))),S2) | none=> .bad)=_;rw[hz]
theorem fv {i:Nat} {c:C} (hl:ρ[i]?=some (some (.lst ds))) (h:ev F c ρ S= .ok (d,S1)) (hs:bx c d=true) (hz:ds.length<=lim) (k:aR F ts (ρ.set i (some (.lst (ds++[d])))) S1=r):aR F (.cons (.app i c) ts) ρ S=r:=nx (Cr hl h hs hz) k
theorem Dl {i:Nat} {c:C} {es:List Dt} (hl:ρ[i]?=some (some (.lst ds))) (h:ev F c ρ S= .ok (.lst es,S1)) (hs:lk c<=1) (hz:ds.length + es.length<=lim) (k:aR F ts (ρ.set i (some (.lst (ds++es)))) S1=r):aR F (.cons (.xtd i c) ts) ρ S=r:=nx (Ct hl h hs hz) k
theorem j5 {c:C} {n:Nat} (h:ev F c ρ S= .ok (.int n,S1)) (hn:n<=lim):dM F (.rng1 c) ρ S= .ok (bO 0 n,S1):=by show (ev F c ρ S).bind (λx=>match x.1 with | .int j=>af (decide (j<=lim)&&decide (-lim<=j)) (.ok (bO 0 j.toNat,x.2)) | _=> .bad)=_;rw[h,R.ai];show af (decide ((n:Int)<=lim)&&decide (-lim<=(n:Int))) (R.ok (bO 0 (n:Int).toNat,S1))=_;rw[show (decide ((n:Int)<=lim)&&decide (-lim<=(n:Int)))=true by have:lim=1000000:=rfl;simp;lia];simp
theorem CZ {a b:C} {da db:Dt} {xs ys:List Dt} (ha:ev F a ρ S= .ok (da,S1)) (hb:ev F b ρ S1= .ok (db,S2)) (h1:bJ da=some xs) (h2:bJ db=some ys):dM F (.zip a b) ρ S= .ok (i5 xs ys,S2):=by show (ev F a ρ S).bind (λx=>(ev F b ρ x.2).bind λy=>match bJ x.1,bJ y.1 with | some xs,some ys=>R.ok (i5 xs ys,y.2) | _,_=> .bad)=_;rw[ha,R.ai,hb,R.ai];show (match bJ da,bJ db with | some xs,some ys=>R.ok (i5 xs ys,S2) | _,_=> .bad)=_;rw[h1,h2]
noncomputable def dH (F:FT) (e:C):ak->Sx->R (List Dt×Sx):=λρ1 S1=>(ev F e ρ1 S1).bind λy=>af (bx e y.1) (.ok ([y.1],y.2))
theorem bK {cap:List (Option Nat)} {it:ll} {tg:Tg} {cs:Cs} {e:C} {out:List Dt} (h:dM F it ρ S= .ok (ds,S1)) (hl:ds.length<=lim) (hk:(decide (p5 it<=1)||jV F it ρ S)=true) (hc:bb (bp tg (cq F cs) (dH F e) (fT cap ρ)) ds S1= .ok (out,S2)):
  ev F (.comp cap it tg cs e) ρ S= .ok (.lst out,S2):=by
 rw[ev,h,R.ai,PF hl,hk,Bool.and_true,guard_true];show (bb (bp tg (cq F cs) (dH F e) (fT cap ρ)) ds S1).bind _=_;rw[hc];rfl
theorem dg {tg:Tg} {e:C} {y:Dt} (hs:bU tg d ρ= .ok ρ1) (he:ev F e ρ1 S= .ok (y,S1)) (hb:bx e y=true):bp tg (cq F .nil) (dH F e) ρ d S= .ok ([y],S1):=by unfold bp dH;rw[hs,R.ai,cq,R.ai];simp only[if_true,he,R.ai,hb,guard_true]
theorem turn_if {tg:Tg} {c e:C} {b:Bool} {y:Dt} (hs:bU tg d ρ= .ok ρ1) (hc:cN F c ρ1 S= .ok (b,S)) (he:b=true->ev F e ρ1 S= .ok (y,S)/\bx e y=true):bp tg (cq F (.cons c .nil)) (dH F e) ρ d S= .ok (if b=true then[y] else[],S):=by
 unfold bp dH;rw[hs,R.ai,cq,hc,R.ai];cases b with
 | false=>rfl
 | true=>simp only[if_true,(he rfl).1,R.ai,(he rfl).2,guard_true]
theorem xm {k:Nat} (h:ds[k]?=some d):cP (.tup ds) (.int k)= .ok d/\cP (.lst ds) (.int k)= .ok d:=by
 have:uh ds k= .ok d:=by unfold uh;rw[L2.fG h]
 exact⟨this,this⟩
end
mutual
theorem xY:∀m:Mx.D,pl (ofD m)=true
 | .int _=>by simp[ofD,pl]
 | .str _=>by simp[ofD,pl]
 | .tup ms=>by simp[ofD,pl,q5 ms]
theorem q5:∀ms:List Mx.D,nC (aa ms)=true
 | []=>by simp[aa,nC]
 | m::ms=>by simp[aa,nC,xY m,q5 ms]
end
mutual
theorem wm:∀m:Mx.D,dp (ofD m)=Mx.D.dep m
 | .int _=>by simp[ofD,dp,Mx.D.dep]
 | .str _=>by simp[ofD,dp,Mx.D.dep]
 | .tup ms=>by simp[ofD,dp,Mx.D.dep,mK ms]
theorem mK:∀ms:List Mx.D,qr (aa ms)=Mx.D.cn ms
 | []=>by simp[aa,qr,Mx.D.cn]
 | m::ms=>by simp[aa,qr,Mx.D.cn,wm m,mK ms]
end
mutual
theorem gB:∀m:Mx.D,gh (ofD m)=true
 | .int _=>by simp[ofD,gh]
 | .str _=>by simp[ofD,gh]
 | .tup ms=>by simp[ofD,gh,tB ms]
theorem tB:∀ms:List Mx.D,fZ (aa ms)=true
 | []=>by simp[aa,fZ]
 | m::ms=>by simp[aa,fZ,gB m,tB ms]
end
mutual
theorem wt:∀a b:Mx.D,bD (ofD a) (ofD b)=Mx.D.gd a b
 | .int i,.int j=>by simp[ofD,bD,Mx.D.gd]
 | .str i,.str j=>by simp[ofD,bD,Mx.D.gd]
 | .tup i,.tup j=>by simp[ofD,bD,Mx.D.gd,wx i j]
 | .int _,.str _=>by simp[ofD,bD,Mx.D.gd]
 | .int _,.tup _=>by simp[ofD,bD,Mx.D.gd]
 | .str _,.int _=>by simp[ofD,bD,Mx.D.gd]
 | .str _,.tup _=>by simp[ofD,bD,Mx.D.gd]
 | .tup _,.int _=>by simp[ofD,bD,Mx.D.gd]
 | .tup _,.str _=>by simp[ofD,bD,Mx.D.gd]
theorem wx:∀a b:List Mx.D,bI (aa a) (aa b)=Mx.D.eqs a b
 | [],[]=>by simp[aa,bI,Mx.D.eqs]
 | [],_::_=>by simp[aa,bI,Mx.D.eqs]
 | _::_,[]=>by simp[aa,bI,Mx.D.eqs]
 | a::as,b::bs=>by simp[aa,bI,Mx.D.eqs,wt a b,wx as bs]
end
theorem zF {a b:Mx.D} (h:Mx.D.dep a<=100):cO .Eq (ofD a) (ofD b)= .ok (decide (a=b)):=by show af (fV (ofD a) (ofD b)) (.ok (bD (ofD a) (ofD b)))=_;rw[show fV (ofD a) (ofD b)=true by simp[fV,xY,wm,h],guard_true,wt,Mx.D.gW]
theorem su {a b:Mx.D} (h:Mx.D.dep a<=100):cO .NotEq (ofD a) (ofD b)= .ok (!decide (a=b)):=by show af (fV (ofD a) (ofD b)) (.ok (!bD (ofD a) (ofD b)))=_;rw[show fV (ofD a) (ofD b)=true by simp[fV,xY,wm,h],guard_true,wt,Mx.D.gW]
theorem aQ (a b:List Mx.D):aa (a++b)=aa a++aa b:=by simp[a6]
theorem aj (a:List Mx.D):(aa a).length=a.length:=by simp[a6]
theorem rA {pre post:List Dt} {x:Dt} {a:List Mx.D} (h:aa a=pre++x::post):∃p y q,a=p++y::q/\pre=aa p/\x=ofD y/\post=aa q:=by rw[a6] at h;obtain⟨p,r,e1,e2,e3⟩:=List.map_eq_append_iff.mp h;obtain⟨y,q,e4,e5,e6⟩:=List.map_eq_cons_iff.mp e3;exact⟨p,y,q,by rw[e1,e4],by rw[a6,e2],e5.symm,by rw[a6,e6]⟩
theorem fI {ms:List Mx.D} (h:gS ms=true):dG .sorted [.lst (aa ms)]= .ok (.lst (aa (aJ ms)))/\dG .sorted [.tup (aa ms)]= .ok (.lst (aa (aJ ms))):=by
 constructor
 ·show (match kM (aa ms) with | some ms=>af (gS ms) (R.ok (Dt.lst (aa (aJ ms)))) | none=> .bad)=_;rw[fS];show af (gS ms) _=_;rw[h];rfl
 ·show (match kM (aa ms) with | some ms=>af (gS ms) (R.ok (Dt.lst (aa (aJ ms)))) | none=> .bad)=_;rw[fS];show af (gS ms) _=_;rw[h];rfl
theorem vY {ms:List Mx.D} (k:Mx.SK) (hl:ms.length < 1000000) (hd:Mx.D.cn ms<=100) (hk:∀d∈ms,Gp k d=true) (hp:∀d∈ms,∀e∈ms,kW d e=true):gS ms=true:=by
 have jw:([Mx.SK.tt,.ts,.ti,.s,.i].any λk=>ms.all (Gp k))=true:=by rw[List.any_eq_true];exact⟨k,by cases k <;> simp,PQ.mpr hk⟩
 unfold gS;rw[jw,PF hl,PF hd];simp only[Bool.true_and,PY,O7];exact .inr (PQ.mpr λd h=>PQ.mpr λe h2=>hp d h e h2)
theorem d8 {n:Nat}:∀{ms:List Mx.D},(∀d∈ms,Mx.D.dep d<=n)->Mx.D.cn ms<=n
 | [],_=>by simp[Mx.D.cn]
 | m::ms,h=>by
  have h1:=h m Pe;have h2:=d8 λd hd=>h d (Pb _ hd)
  simp only[Mx.D.cn]
  lia
theorem br (ms:List Mx.D):(aJ ms).Perm ms:=List.mergeSort_perm ..
theorem cA {d:Mx.D} {ms:List Mx.D}:d∈aJ ms↔d∈ms:=(br ms).mem_iff
theorem uN (a b c:Mx.D) (h1:n9 a b=true) (h2:n9 b c=true):n9 a c=true:=by
 unfold n9 at *;simp only[Bool.not_eq_true'] at *;cases h:Mx.D.lt c a with
 | false=>rfl
 | true=>
  exfalso;cases h3:Mx.D.lt a b with
  | true=>rw[Mx.D.lt_trans c a b h h3] at h2;cases h2
  | false=>have:=Mx.D.dR a b h3 h1;subst this;rw[h] at h2;cases h2
theorem uM (a b:Mx.D):(n9 a b||n9 b a)=true:=by
 unfold n9;cases h:Mx.D.lt b a with
 | false=>rfl
 | true=>
  cases h2:Mx.D.lt a b with
  | false=>rfl
  | true=>have:=Mx.D.lt_trans a b a h2 h;rw[Mx.D.lt_irrefl] at this;cases this
theorem iC (ms:List Mx.D):(aJ ms).Pairwise λa b=>n9 a b=true:=List.pairwise_mergeSort uN uM ms
theorem gH:∀{a b:List Mx.D},a.Pairwise (λx y=>Mx.D.lt x y=true)->b.Pairwise (λx y=>Mx.D.lt x y=true)->(∀x,x∈a↔x∈b)->a=b
 | [],[],_,_,_=>rfl
 | [],y::b,_,_,h=>by have:=(h y).mpr Pe;cases this
 | x::a,[],_,_,h=>by have:=(h x).mp Pe;cases this
 | x::a,y::b,ha,hb,h=>by
  have J5:=List.pairwise_cons.mp ha;have lL:=List.pairwise_cons.mp hb;have Na:x=y:=by
   rcases Pk.mp ((h x).mp Pe) with e | e
   ·exact e
   ·rcases Pk.mp ((h y).mpr Pe) with e2 | e2
    ·exact e2.symm
    ·have:=Mx.D.lt_trans x y x (J5.1 y e2) (lL.1 x e);rw[Mx.D.lt_irrefl] at this;cases this
  subst Na;rw[gH J5.2 lL.2 λz=>?_];constructor
  ·intro hz;rcases Pk.mp ((h z).mp (Pb _ hz)) with e | e
   ·subst e;have:=J5.1 z hz;rw[Mx.D.lt_irrefl] at this;cases this
   ·exact e
  ·intro hz;rcases Pk.mp ((h z).mpr (Pb _ hz)) with e | e
   ·subst e;have:=lL.1 z hz;rw[Mx.D.lt_irrefl] at this;cases this
   ·exact e
theorem oU {a b:Mx.D} (h:n9 a b=true) (n:a≠b):Mx.D.lt a b=true:=by
 unfold n9 at h;cases h2:Mx.D.lt a b with
 | true=>rfl
 | false=>exact absurd (Mx.D.dR a b h2 (by simpa using h)) n
theorem pF {ms:List Mx.D} (h:ms.Nodup):(aJ ms).Pairwise λa b=>Mx.D.lt a b=true:=by have h1:=iC ms;have h2:(aJ ms).Nodup:=(br ms).nodup_iff.mpr h;exact h1.imp₂ (λa b x y=>oU x y) h2
noncomputable def uq:Option Mx.D->List Mx.D->List Mx.D
 | _,[]=>[]
 | p,x::r=>if p=some x then uq (some x) r else x::uq (some x) r
theorem yI {x:Mx.D}:∀{a:List Mx.D} {p:Option Mx.D},uq p (a++[x])=uq p a++uq (a.getLast?.or p) [x]
 | [],p=>by show uq p [x]=[]++uq ((none:Option Mx.D).or p) [x];rw[Option.none_or];rfl
 | y::a,p=>by
  have e:((y::a).getLast?.or p)=(a.getLast?.or (some y)):=by
   cases a with
   | nil=>rfl
   | cons z a=>simp[List.getLast?_cons]
  rw[e,List.cons_append,uq,uq,yI];split <;> simp
theorem ub:∀{a:List Mx.D} {p:Option Mx.D},(uq p a).getLast?.or p=a.getLast?.or p
 | [],p=>rfl
 | y::a,p=>by
  have ih:=ub (a:=a) (p:=some y);rw[uq];have e:((y::a).getLast?.or p)=(a.getLast?.or (some y)):=by
   cases a with
   | nil=>rfl
   | cons z a=>simp[List.getLast?_cons]
  rw[e];split
  ·rename_i h;rw[h];exact ih
  ·rw[<-ih];cases hq:uq (some y) a with
   | nil=>rfl
   | cons z q=>simp[List.getLast?_cons]
theorem yJ {x:Mx.D}:∀{a:List Mx.D} {p:Option Mx.D},(x∈uq p a\/p=some x)↔(x∈a\/p=some x)
 | [],p=>by simp[uq]
 | y::a,p=>by
  have ih:=yJ (x:=x) (a:=a) (p:=some y);rw[uq];split
  ·rename_i h;subst h;simp only[Option.some.injEq,Pk] at *;constructor
   ·intro z;rcases ih.mp z with z | z
    ·exact .inl (.inr z)
    ·exact .inr z
   ·rintro((z | z) | z)
    ·exact .inr z.symm
    ·exact ih.mpr (.inl z)
    ·exact .inr z
  ·simp only[Pk,Option.some.injEq] at *;constructor
   ·rintro((z | z) | z)
    ·exact .inl (.inl z)
    ·rcases ih.mp (.inl z) with z | z
     ·exact .inl (.inr z)
     ·exact .inl (.inl z.symm)
    ·exact .inr z
   ·rintro((z | z) | z)
    ·exact .inl (.inl z)
    ·rcases ih.mpr (.inl z) with z | z
     ·exact .inl (.inr z)
     ·exact .inl (.inl z.symm)
    ·exact .inr z
theorem nV {x:Mx.D}:∀{a:List Mx.D} {p:Option Mx.D},x∈uq p a->x∈a
 | [],p,h=>by simp[uq] at h
 | y::a,p,h=>by
  rw[uq] at h;split at h
  ·exact Pb _ (nV h)
  ·rcases Pk.mp h with h | h
   ·rw[h];exact Pe
   ·exact Pb _ (nV h)
theorem rM:∀{a:List Mx.D} {p:Option Mx.D},(uq p a).length<=a.length
 | [],p=>by simp[uq]
 | y::a,p=>by have:=rM (a:=a) (p:=some y);rw[uq];split <;> simp <;> lia
theorem l9:∀{a:List Mx.D} {p:Option Mx.D},a.Pairwise (λx y=>n9 x y=true)->(∀x∈a,∀y,p=some y->n9 y x=true)->(uq p a).Pairwise (λx y=>Mx.D.lt x y=true)/\∀x∈uq p a,∀y,p=some y->Mx.D.lt y x=true
 | [],p,_,_=>by simp[uq]
 | y::a,p,h,hp=>by
  have h':=List.pairwise_cons.mp h;obtain⟨i1,i2⟩:=l9 (p:=some y) h'.2 (λx hx z e=>by cases e;exact h'.1 x hx);rw[uq];split
  ·rename_i e;subst e;exact⟨i1,i2⟩
  ·rename_i ne;have key:∀z,p=some z->Mx.D.lt z y=true:=λz e=>oU (hp y Pe z e) λe2=>ne (by rw[e,e2])
   refine⟨List.pairwise_cons.mpr ⟨λx hx=>i2 x hx y rfl,i1⟩,λx hx z e=>?_⟩;rcases Pk.mp hx with rfl | hx
   ·exact key z e
   ·exact Mx.D.lt_trans z y x (key z e) (i2 x hx y rfl)
variable {fs:List Fn}
noncomputable def vK (ic:Nat):Ts:=(.cons (.asg 3 (.bin .Add (.bin .Mult (.bin .Mod (.call ic (.cons (.var 0) (.cons (.var 1) .nil)) []) (.con (.int 2147483647))) (.bin .Add (.con (.int 48271)) (.bin .Mult (.con (.int 2)) (.var 1)))) (.bin .Mult (.con (.int 31)) (.var 1)))) (.cons (.ret (.bin .Mod (.bin .FloorDiv (.bin .Mod (.var 3) (.con (.int 2147483629))) (.con (.int 7))) (.var 2))) .nil))
noncomputable def bT (ns:List Int) (k many:Nat):Nat:=((((f7 ns k % 2147483647) * (48271 + 2 * k) + 31 * k) % 2147483629 / 7) % many).toNat
theorem dc {ns:List Int} {k many:Nat} (h:0 < many):bT ns k many < many:=by
 unfold bT;have h1:=PU (((f7 ns k % 2147483647) * (48271 + 2 * k) + 31 * k) % 2147483629 / 7) (b:=many) (by lia);have h2:=PV (((f7 ns k % 2147483647) * (48271 + 2 * k) + 31 * k) % 2147483629 / 7) (b:=many) (by lia)
 lia
structure jn (fs:List Fn) (ip:Nat):Prop where
 ex:∃ic,fs[ic]?=some ⟨2,3,false,oz⟩/\fs[ip]?=some ⟨3,4,false,vK ic⟩
theorem nB {ip:Nat} (hp:jn fs ip) {n:Nat} (hn:2<=n) {ns:List Int} {k many:Nat} (hk:k < 1000000) (hm:0 < many):aO fs n ip [.bE ns,.int k,.int many] none= .ok (.int (bT ns k many),none):=by
 obtain⟨ic,h1,h2⟩:=hp.ex;refine aG h2 (by lia) rfl ?_;show fin (aR (aO fs (n - 1)) (vK ic) [some (.bE ns),some (.int k),some (.int many),none] none)=_;have hc:=mB h1 (n:=n - 1) (by lia) (ns:=ns) hk;generalize hx:f7 ns k=x at hc;have r1:=PU x (b:=2147483647) (by decide);have r2:=PV x (b:=2147483647) (by decide);have m1:=b9 (i:=x) (j:=2147483647) (by decide);have m2:=a8 (i:=2) (j:=k) (.inl (by decide));have m3:=a8 (i:=x % 2147483647) (j:=48271 + 2 * k) (.inl (by lia));have m4:=a8 (i:=31) (j:=k) (.inl (by decide));have m5:=b9 (i:=x % 2147483647 * (48271 + 2 * k) + 31 * k) (j:=2147483629) (by decide);have m6:=Ds (i:=(x % 2147483647 * (48271 + 2 * k) + 31 * k) % 2147483629) (j:=7) (by decide) (by decide);have m7:=b9 (i:=(x % 2147483647 * (48271 + 2 * k) + 31 * k) % 2147483629 / 7) (j:=many) (by lia);refine az (d:= .int (x % 2147483647 * (48271 + 2 * k) + 31 * k)) (S1:=none) (by simp only[RX,hc,m1,m2,m3,m4]) rfl ?_;refine(aq (d:=_) (S1:=none) (by simp only[RX,m5,m6,m7];rfl)).trans ?_;have h1:=PU (((x % 2147483647) * (48271 + 2 * k) + 31 * k) % 2147483629 / 7) (b:=many) (by lia);have e:((bT ns k many:Nat):Int)=((x % 2147483647) * (48271 + 2 * k) + 31 * k) % 2147483629 / 7 % many:=by unfold bT;rw[hx];omega
 rw[e]
noncomputable def rY:Ts:=(.cons (.ret (.bin .Mod (.bin .Add (.bin .Add (.bin .Mult (.var 0) (.con (.int 31))) (.bin .Mult (.var 1) (.con (.int 7)))) (.con (.int 13))) (.con (.int 9973)))) .nil)
noncomputable def lW (k j:Nat):Nat:=(k * 31 + j * 7 + 13) % 9973
theorem xI {k j:Nat}:lW k j < 9973:=Nat.mod_lt _ (by decide)
theorem Av {i:Nat} (hp:fs[i]?=some ⟨2,2,false,rY⟩) {n:Nat} (hn:1<=n) {k j:Nat}:aO fs n i [.int k,.int j] none= .ok (.int (lW k j),none):=by
 refine aG hp hn rfl ?_;show fin (aR (aO fs (n - 1)) rY [some (.int k),some (.int j)] none)=_;have m1:=a8 (i:=k) (j:=31) (.inr (by decide));have m2:=a8 (i:=j) (j:=7) (.inr (by decide));have m3:=b9 (i:=(k:Int) * 31 + j * 7 + 13) (j:=9973) (by decide);refine(aq (d:=_) (S1:=none) (by simp only[RX,m1,m2,m3];rfl)).trans ?_;have e:((lW k j:Nat):Int)=((k:Int) * 31 + j * 7 + 13) % 9973:=by unfold lW;lia
 rw[e]
theorem mV {z:Str} {k:Nat} (hz:z.length<=lim) (h:k < z.length):∃c,cP (.str z) (.int k)= .ok (.str ⟨#[c]⟩):=by
 have Mv:z.cps.toList.length=z.length:=by simp[Str.length]
 refine⟨z.cps.toList[k],?_⟩;show af (decide (z.length<=lim)) (match jM z.cps.toList k with | some c=>R.ok (Dt.str ⟨#[c]⟩) | none=> .bad)=_;rw[PF hz,guard_true,L2.fG (v:=z.cps.toList[k]) (Px _)]
theorem fy {a b:Str} (h:a.length + b.length<=lim):pe .Add (.str a) (.str b)= .ok (.str (a++b)):=by show af (decide (a.length + b.length<=lim)) _=_;rw[PF h];rfl
theorem len_str {z:Str} (h:z.length<=lim):dG .len [.str z]= .ok (.int z.length):=by show af (decide (z.length<=lim)) _=_;rw[PF h];rfl
theorem nJ {z:Str} {lo hi:Option Int} (h:z.length<=lim):iA (.str z) lo hi= .ok (.str (PySem.Txt.slice z lo hi)):=by show af (decide (z.length<=lim)) _=_;rw[PF h];rfl
theorem len_cat (a b:Str):(a++b).length=a.length + b.length:=Str.length_append ..
theorem xo {z:Str} {k:Nat} {d} (hz:z.length<=lim) (h:k < z.length):cP (.str z) (.int k)= .ok (.str ⟨#[z.cps.toList.getD k d]⟩):=by
 have Mv:k < z.cps.toList.length:=by simpa [Str.length] using h
 show af (decide (z.length<=lim)) (match jM z.cps.toList k with | some c=>R.ok (Dt.str ⟨#[c]⟩) | none=> .bad)=_;rw[PF hz,guard_true,L2.fG (v:=z.cps.toList[k]) (Px _)];rw[List.getD,Px Mv];rfl
theorem rB {a b:Str} {x y} (h:a++⟨#[x]⟩++b=a++⟨#[y]⟩++b):x=y:=by
 have h2:=congrArg (λz:Str=>z.cps.toList) h;have e:∀u v:Str,(u++v).cps.toList=u.cps.toList++v.cps.toList:=λu v=>by show (u.cps++v.cps).toList=_;simp
 simp only[e,Pm] at h2;simpa using List.append_cancel_left h2
theorem gC {α:Type} {l:List α} {d:α} (hn:l.Nodup) {i j:Nat} (hi:i < l.length) (hj:j < l.length) (h:l.getD i d=l.getD j d):i=j:=by
 simp only[List.getD,Px hi,Px hj,Option.getD_some] at h;have hp:=List.pairwise_iff_getElem.mp hn;rcases Nat.lt_trichotomy i j with z | z | z
 ·exact absurd h (hp i j hi hj z)
 ·exact z
 ·exact absurd h.symm (hp j i hj hi z)
noncomputable def rW:Ts:=(.cons (.asg 8 (.idx (.var 2) (.bin .Mod (.bin .Add (.var 6) (.bin .Mult (.con (.int 7)) (.var 4))) (.con (.int 26))))) (.cons (.app 7 (.bin .Add (.bin .Add (.sliH (.var 3) (.var 5)) (.var 8)) (.sliL (.var 3) (.var 5)))) .nil))
noncomputable def qf (ip:Nat):Ts:=(.cons (.asg 3 (.con (.str ""))) (.cons (.fr (.nm 4) (.rng1 (.call ip (.cons (.var 0) (.cons (.var 1) (.cons (.con (.int 6)) .nil))) [])) (.cons (.asg 3 (.bin .Add (.var 3) (.idx (.var 2) (.call ip (.cons (.var 0) (.cons (.bin .Add (.bin .Add (.var 1) (.bin .Mult (.con (.int 11)) (.var 4))) (.con (.int 1))) (.cons (.con (.int 26)) .nil))) [])))) .nil)) (.cons (.asg 5 (.call ip (.cons (.var 0) (.cons (.bin .Add (.var 1) (.con (.int 2))) (.cons (.bin .Add (.bi .len (.cons (.var 3) .nil)) (.con (.int 1))) .nil))) [])) (.cons (.asg 6 (.call ip (.cons (.var 0) (.cons (.bin .Add (.var 1) (.con (.int 3))) (.cons (.con (.int 26)) .nil))) [])) (.cons (.ifs (.cmp .Eq (.call ip (.cons (.var 0) (.cons (.bin .Add (.var 1) (.con (.int 4))) (.cons (.con (.int 3)) .nil))) []) (.con (.int 0))) (.cons (.asg 3 (.bin .Add (.sliH (.var 3) (.con (.int 3))) (.idx (.var 2) (.var 6)))) (.cons (.ret (.lst (.cons (.var 3) (.cons (.bin .Add (.var 3) (.idx (.var 2) (.var 5))) (.cons (.bin .Add (.bin .Add (.var 3) (.idx (.var 2) (.var 5))) (.idx (.var 2) (.var 6))) .nil))))) .nil)) .nil) (.cons (.asgM 7 (.lst .nil)) (.cons (.fr (.nm 4) (.rng1 (.con (.int 3))) rW) (.cons (.ret (.mvr 7)) .nil))))))))
theorem iW {n:Nat} {pre post:List Dt} {x:Dt} (h:bO 0 n=pre++x::post):pre.length < n/\x= .int pre.length:=by
 have hl:(bO 0 n).length=n:=by simp[bO]
 have h1:pre.length < n:=by rw[<-hl,h];simp
 refine⟨h1,?_⟩;have e:(bO 0 n)[pre.length]?=some x:=by rw[h];simp
 unfold bO at e;simp[h1] at e;exact e.symm
theorem oZ {ip im:Nat} (hp:jn fs ip) (hf:fs[im]?=some ⟨3,9,false,qf ip⟩) {n:Nat} (hn:3<=n) {ns:List Int} {k:Nat} {L:Str} (hk:k < 100000) (hL:L.length=26) (hD:L.cps.toList.Nodup):∃a b c,aO fs n im [.bE ns,.int k,.str L] none= .ok (.lst [.str a,.str b,.str c],none)/\a≠b/\b≠c/\a≠c:=by
 have fm:lim=1000000:=rfl;have jy:=dc (ns:=ns) (k:=k) (many:=6) (by decide);have P:=λ(k many:Nat) (h1:k < 1000000) (h2:0 < many)=>nB hp (n:=n - 1) (by lia) (ns:=ns) h1 h2
 have loop:=fj (S:=none) (tg:= .nm 4) (body:=aR (aO fs (n - 1)) (.cons (.asg 3 (.bin .Add (.var 3) (.idx (.var 2) (.call ip (.cons (.var 0) (.cons (.bin .Add (.bin .Add (.var 1) (.bin .Mult (.con (.int 11)) (.var 4))) (.con (.int 1))) (.cons (.con (.int 26)) .nil))) [])))) .nil)) (ds:=bO 0 (bT ns k 6))
  (ρ:=[some (.bE ns),some (.int k),some (.str L),some (.str ""),none,none,none,none,none])
  (λpre ρ=>∃w jv,w.length<=pre.length/\ρ=[some (.bE ns),some (.int k),some (.str L),some (.str w),jv,none,none,none,none]) ⟨"",none,Pd _,rfl⟩ (by
   rintro pre x post ρ e ⟨w,jv,hw,rfl⟩;obtain⟨h1,rfl⟩:=iW e;have Mm:=P (k + 11 * pre.length + 1) 26 (by lia) (by decide);have bX:=dc (ns:=ns) (k:=k + 11 * pre.length + 1) (many:=26) (by decide);obtain⟨c,hc⟩:=mV (z:=L) (k:=bT ns (k + 11 * pre.length + 1) 26) (by lia) (by lia);have m1:=a8 (i:=11) (j:=pre.length) (.inl (by decide));have ca:=fy (a:=w) (b:=⟨#[c]⟩) (by show w.length + 1<=lim;lia);refine⟨_,_,rfl,fw (d:= .str (w++⟨#[c]⟩)) (S1:=none) ?_ rfl rfl,w++⟨#[c]⟩,_,?_,rfl⟩
   ·rw[show ((k + 11 * pre.length + 1:Nat):Int)=(k:Int) + 11 * pre.length + 1 by lia] at Mm;simp only[RX,m1];rw[show ([Dt.bE ns,.int ((k:Int) + 11 * pre.length + 1),.int 26]:List Dt)=[.bE ns,.int ((k:Int) + 11 * pre.length + 1),.int (26:Nat)] from rfl,Mm];simp only[RX,hc,ca]
   ·rw[len_cat,Po];show w.length + 1<=_;simp;lia)
 obtain⟨ρ1,cv,w,jv,hw,rfl⟩:=loop;have ES:w.length<=5:=by
  have:(bO 0 (bT ns k 6)).length=bT ns k 6:=by simp[bO]
  lia
 have p2:=P (k + 2) (w.length + 1) (by lia) (by lia);have l2:=dc (ns:=ns) (k:=k + 2) (many:=w.length + 1) (by lia);have p3:=P (k + 3) 26 (by lia) (by decide);have l3:=dc (ns:=ns) (k:=k + 3) (many:=26) (by decide);have p4:=P (k + 4) 3 (by lia) (by decide);generalize bT ns (k + 2) (w.length + 1)=at' at p2 l2;generalize bT ns (k + 3) 26=fi at p3 l3;generalize bT ns (k + 4) 3=q4 at p4;have hlen:=len_str (z:=w) (by lia);obtain⟨cf,L9⟩:=mV (z:=L) (k:=fi) (by lia) (by lia);obtain⟨ca,L8⟩:=mV (z:=L) (k:=at') (by lia) (by lia);have s3:=nJ (z:=w) (lo:=none) (hi:=some 3) (by lia);have e3:=PySem.Txt.slice_le w none (some 3);generalize PySem.Txt.slice w none (some 3)=w3 at s3 e3;have OM:((26:Nat):Int)=26:=rfl;have head:∃a b c,fin (aR (aO fs (n - 1)) (qf ip) [some (.bE ns),some (.int k),some (.str L),none,none,none,none,none,none] none)= .ok (.lst [.str a,.str b,.str c],none)/\a≠b/\b≠c/\a≠c:=by
  by_cases h4:q4=0
  ·subst h4;have c1:=fy (a:=w3) (b:=⟨#[cf]⟩) (by show w3.length + 1<=lim;lia);have c2:=fy (a:=w3++⟨#[cf]⟩) (b:=⟨#[ca]⟩) (by rw[len_cat];show w3.length + 1 + 1<=lim;lia);have c3:=fy (a:=w3++⟨#[cf]⟩++⟨#[ca]⟩) (b:=⟨#[cf]⟩) (by rw[len_cat,len_cat];show w3.length + 1 + 1 + 1<=lim;lia);refine⟨w3++⟨#[cf]⟩,w3++⟨#[cf]⟩++⟨#[ca]⟩,w3++⟨#[cf]⟩++⟨#[ca]⟩++⟨#[cf]⟩,?_,λz=>?_,λz=>?_,λz=>?_⟩
   rotate_left
   ·have:=congrArg Str.length z;simp only[len_cat] at this;have:(⟨#[ca]⟩:Str).length=1:=rfl;lia
   ·have:=congrArg Str.length z;simp only[len_cat] at this;have:(⟨#[cf]⟩:Str).length=1:=rfl;lia
   ·have:=congrArg Str.length z;simp only[len_cat] at this;have:(⟨#[cf]⟩:Str).length=1:=rfl;lia
   refine az (d:= .str "") (S1:=none) rfl rfl (bW (ds:=bO 0 (bT ns k 6)) (S1:=none) (j5 (by simp only[RX];exact congrArg (R.bind · _) (P k 6 (by lia) (by decide))) (by lia)) rfl cv ?_);refine az (d:= .int at') (S1:=none) (by simp only[RX,hlen];exact congrArg (R.bind · _) p2) rfl ?_;refine az (d:= .int fi) (S1:=none) (by simp only[RX];exact congrArg (R.bind · _) p3) rfl ?_;refine dy (S1:=none) (by simp only[RX];rw[show aO fs (n - 1) ip [.bE ns,.int ((k:Int) + 4),.int 3] none=_ from p4];rfl) ?_;refine az (d:= .str (w3++⟨#[cf]⟩)) (S1:=none) (by simp only[RX,s3,L9,c1]) rfl ?_;exact aq (by simp only[RX,L8,L9,c2,c3])
  ·have l4:=λj:Nat=>Nat.mod_lt (fi + 7 * j) (y:=26) (by decide)
   have s5:=nJ (z:=w) (lo:=none) (hi:=some (at':Int)) (by lia);have e5:=PySem.Txt.slice_le w none (some (at':Int));have s6:=nJ (z:=w) (lo:=some (at':Int)) (hi:=none) (by lia);have e6:=PySem.Txt.slice_le w (some (at':Int)) none;generalize PySem.Txt.slice w none (some (at':Int))=wa at s5 e5;generalize PySem.Txt.slice w (some (at':Int)) none=wb at s6 e6;have hl:L.cps.toList.length=26:=by rw[<-hL];simp[Str.length]
   have Gv:=fj (S:=none) (tg:= .nm 4) (body:=aR (aO fs (n - 1)) rW) (ds:=bO 0 3)
    (ρ:=[some (.bE ns),some (.int k),some (.str L),some (.str w),jv,some (.int at'),some (.int fi),some (.lst []),none])
    (λpre ρ=>∃jv s8,ρ=[some (.bE ns),some (.int k),some (.str L),some (.str w),jv,some (.int at'),some (.int fi),some (.lst ((List.range pre.length).map λj=>Dt.str (wa++⟨#[L.cps.toList.getD ((fi + 7 * j) % 26) cf]⟩++wb))),s8]) ⟨jv,none,rfl⟩ (by
     rintro pre x post ρ e ⟨jv,s8,rfl⟩;obtain⟨h1,rfl⟩:=iW e;have hc:=xo (z:=L) (k:=(fi + 7 * pre.length) % 26) (d:=cf) (by lia) (by have:=l4 pre.length;lia);rw[show (((fi + 7 * pre.length) % 26:Nat):Int)=((fi:Int) + 7 * pre.length) % 26 by lia] at hc;generalize hcc:L.cps.toList.getD ((fi + 7 * pre.length) % 26) cf=c at hc;have m1:=a8 (i:=7) (j:=pre.length) (.inl (by decide));have m2:=b9 (i:=(fi:Int) + 7 * pre.length) (j:=26) (by decide);have c1:=fy (a:=wa) (b:=⟨#[c]⟩) (by show wa.length + 1<=lim;lia);have c2:=fy (a:=wa++⟨#[c]⟩) (b:=wb) (by rw[len_cat];show wa.length + 1 + wb.length<=lim;lia);refine⟨_,_,rfl,fw (d:= .str ⟨#[c]⟩) (S1:=none) (by simp only[RX,m1,m2,hc]) rfl (fv (ds:=(List.range pre.length).map λj=>Dt.str (wa++⟨#[L.cps.toList.getD ((fi + 7 * j) % 26) cf]⟩++wb)) (d:= .str (wa++⟨#[c]⟩++wb)) (S1:=none) rfl (by simp only[RX,s5,s6,c1,c2]) rfl (by simp;lia) rfl),some (.int pre.length),some (.str ⟨#[c]⟩),?_⟩;rw[Po,List.length_singleton,List.range_succ,P3,List.map_singleton,hcc];rfl)
   obtain⟨ρ2,CM,OY,s8,rfl⟩:=Gv;refine⟨wa++⟨#[L.cps.toList.getD ((fi + 7 * 0) % 26) cf]⟩++wb,wa++⟨#[L.cps.toList.getD ((fi + 7 * 1) % 26) cf]⟩++wb,wa++⟨#[L.cps.toList.getD ((fi + 7 * 2) % 26) cf]⟩++wb,?_,λz=>?_,λz=>?_,λz=>?_⟩
   rotate_left
   ·have:=gC hD (by rw[hl];exact l4 0) (by rw[hl];exact l4 1) (rB z);lia
   ·have:=gC hD (by rw[hl];exact l4 1) (by rw[hl];exact l4 2) (rB z);lia
   ·have:=gC hD (by rw[hl];exact l4 0) (by rw[hl];exact l4 2) (rB z);lia
   refine az (d:= .str "") (S1:=none) rfl rfl (bW (ds:=bO 0 (bT ns k 6)) (S1:=none) (j5 (by simp only[RX];exact congrArg (R.bind · _) (P k 6 (by lia) (by decide))) (by lia)) rfl cv ?_);refine az (d:= .int at') (S1:=none) (by simp only[RX,hlen];exact congrArg (R.bind · _) p2) rfl ?_;refine az (d:= .int fi) (S1:=none) (by simp only[RX];exact congrArg (R.bind · _) p3) rfl ?_;refine bQ (S1:=none) (by simp only[RX];rw[show aO fs (n - 1) ip [.bE ns,.int ((k:Int) + 4),.int 3] none=_ from p4];simp only[RX];simp[h4]) ?_;refine dN (d:= .lst []) (S1:=none) rfl rfl (bW (ds:=bO 0 3) (S1:=none) (j5 (n:=3) rfl (by decide)) rfl CM ?_);exact aq (by simp only[RX];rfl)
 obtain⟨a,b,c,h1,h2⟩:=head;exact⟨a,b,c,aG hf (by lia) rfl h1,h2⟩
variable {fs:List Fn}
mutual
noncomputable def sm:Dt->Bool
 | .int _=>true
 | .str _=>true
 | .tup ds=>A7 ds
 | .lst ds=>A7 ds
 | _=>false
noncomputable def A7:List Dt->Bool
 | []=>true
 | d::ds=>sm d&&A7 ds
end
mutual
theorem Hl:∀m:Mx.D,sm (ofD m)=true
 | .int _=>by simp[ofD,sm]
 | .str _=>by simp[ofD,sm]
 | .tup ms=>by simp[ofD,sm,rj ms]
theorem rj:∀ms:List Mx.D,A7 (aa ms)=true
 | []=>by simp[aa,A7]
 | m::ms=>by simp[aa,A7,Hl m,rj ms]
end
theorem tS:∀{ds:List Dt} {d:Dt},A7 ds=true->d∈ds->sm d=true/\dp d<=qr ds
 | d::ds,x,h,hx=>by
  simp only[A7,O7] at h;simp only[qr];rcases Pk.mp hx with rfl | hx
  ·exact⟨h.1,by lia⟩
  ·have:=tS h.2 hx;exact⟨this.1,by lia⟩
noncomputable def oB (is:Nat):Ts:=(.cons (.ifs (.bi (.isi "str") (.cons (.var 1) .nil)) (.cons (.ret (.and (.bi (.isi "str") (.cons (.var 0) .nil)) (.cmp .Eq (.var 0) (.var 1)))) .nil) .nil) (.cons (.ifs (.bi (.isi "int") (.cons (.var 1) .nil)) (.cons (.ret (.and (.bi (.isi "int") (.cons (.var 0) .nil)) (.and (.nt (.bi (.isi "bool") (.cons (.var 0) .nil))) (.cmp .Eq (.var 0) (.var 1))))) .nil) .nil) (.cons (.ifs (.or (.cmp .NotEq (.bi (.isi "list") (.cons (.var 1) .nil)) (.bi (.isi "list") (.cons (.var 0) .nil))) (.cmp .NotEq (.bi (.isi "tuple") (.cons (.var 1) .nil)) (.bi (.isi "tuple") (.cons (.var 0) .nil)))) (.cons (.ret (.con (.bl false))) .nil) .nil) (.cons (.ifs (.cmp .NotEq (.bi .len (.cons (.var 0) .nil)) (.bi .len (.cons (.var 1) .nil))) (.cons (.ret (.con (.bl false))) .nil) .nil) (.cons (.fr (.tp [2,3]) (.zip (.var 0) (.var 1)) (.cons (.ifs (.nt (.call is (.cons (.var 2) (.cons (.var 3) .nil)) [])) (.cons (.ret (.con (.bl false))) .nil) .nil) .nil)) (.cons (.ret (.con (.bl true))) .nil))))))
theorem vj {ds pre post:List Dt} {x:Dt} (h:i5 ds ds=pre++x::post):∃y∈ds,x= .tup [y,y]:=by
 have hx:x∈i5 ds ds:=by rw[h];simp
 unfold i5 at hx;have:List.zipWith (λx y=>Dt.tup [x,y]) ds ds=ds.map λy=>Dt.tup [y,y]:=by
  clear h hx
  induction ds with
  | nil=>rfl
  | cons d ds ih=>simp[ih]
 rw[this,PP] at hx;obtain⟨y,h1,h2⟩:=hx;exact⟨y,h1,h2.symm⟩
theorem nF {is:Nat} (hf:fs[is]?=some ⟨2,4,false,oB is⟩):∀(n:Nat) (d:Dt),sm d=true->dp d < n->aO fs n is [d,d] none= .ok (.bl true,none)
 | 0,d,_,h=>by lia
 | n + 1,d,h,hd=>by
  have ih:=nF hf n;have main:∀ds:List Dt,A7 ds=true->qr ds < n->(d= .tup ds\/d= .lst ds)->aO fs (n + 1) is [d,d] none= .ok (.bl true,none):=by
   intro ds hs hl hd;have hlen:dG .len [d]= .ok (.int ds.length):=by rcases hd with rfl | rfl <;> rfl
   have Iz:bJ d=some ds:=by rcases hd with rfl | rfl <;> rfl
   have i1:dG (.isi "str") [d]= .ok (.bl false):=by rcases hd with rfl | rfl <;> rfl
   have i2:dG (.isi "int") [d]= .ok (.bl false):=by rcases hd with rfl | rfl <;> rfl
   have i3:(∃b,dG (.isi "list") [d]= .ok (.bl b))/\∃b,dG (.isi "tuple") [d]= .ok (.bl b):=by rcases hd with rfl | rfl <;> exact⟨⟨_,rfl⟩,⟨_,rfl⟩⟩
   obtain⟨⟨b3,i3⟩,⟨b4,i4⟩⟩:=i3;have e3:∀b:Bool,cO .NotEq (.bl b) (.bl b)= .ok false:=λb=>by cases b <;> rfl
   have loop:=fj (S:=none) (tg:= .tp [2,3]) (body:=aR (aO fs n) (.cons (.ifs (.nt (.call is (.cons (.var 2) (.cons (.var 3) .nil)) [])) (.cons (.ret (.con (.bl false))) .nil) .nil) .nil)) (ds:=i5 ds ds)
    (ρ:=[some d,some d,none,none]) (λpre ρ=>∃a b,ρ=[some d,some d,a,b]) ⟨none,none,rfl⟩ (by
     rintro pre x post ρ e ⟨a,b,rfl⟩;obtain⟨y,hy,rfl⟩:=vj e;have:=tS hs hy;have hc:=ih y this.1 (by lia);exact⟨[some d,some d,some y,some y],_,rfl,uW (S1:=none) (by simp only[RX,hc];rfl) rfl,some y,some y,rfl⟩)
   obtain⟨ρ1,cv,a,b,rfl⟩:=loop;refine aG hf (by lia) rfl ?_;show fin (aR (aO fs n) (oB is) [some d,some d,none,none] none)=_;refine bQ (S1:=none) (by simp only[RX,i1]) (bQ (S1:=none) (by simp only[RX,i2]) (bQ (S1:=none) (by simp only[RX,i3,i4,e3];rfl) (bQ (S1:=none) (by simp only[RX,hlen];simp) ?_)));refine bW (ds:=i5 ds ds) (S1:=none) (CZ (S1:=none) (S2:=none) rfl rfl Iz Iz) rfl cv (aq rfl)
  cases d with
  | str x=>refine aG hf (by lia) rfl ?_;show fin (aR (aO fs n) (oB is) [some (.str x),some (.str x),none,none] none)=_;have i1:dG (.isi "str") [.str x]= .ok (.bl true):=rfl;exact dy (S1:=none) (by simp only[RX,i1]) (aq (by simp only[RX,i1];simp))
  | int x=>refine aG hf (by lia) rfl ?_;show fin (aR (aO fs n) (oB is) [some (.int x),some (.int x),none,none] none)=_;have i1:dG (.isi "str") [.int x]= .ok (.bl false):=rfl;have i2:dG (.isi "int") [.int x]= .ok (.bl true):=rfl;have i3:dG (.isi "bool") [.int x]= .ok (.bl false):=rfl;exact bQ (S1:=none) (by simp only[RX,i1]) (dy (S1:=none) (by simp only[RX,i2]) (aq (by simp only[RX,i2,i3,Bool.not_false];simp)))
  | tup ds=>exact main ds (by simpa [sm] using h) (by simp only[dp] at hd;lia) (.inl rfl)
  | lst ds=>exact main ds (by simpa [sm] using h) (by simp only[dp] at hd;lia) (.inr rfl)
  | _=>simp[sm] at h
noncomputable def cJ (x:Str):Mx.D:= .tup [.str "any",.str x]
noncomputable def ofT (x:Str) (ps:List Mx.D):Mx.D:= .tup [.str "of",.str x,.tup ps]
noncomputable def eF (Q:Mx.D->Prop) (it:Mx.D):Prop:=(∃x,it=cJ x)\/∃x ps,it=ofT x ps/\ps.length<=3/\∀p∈ps,Q p
noncomputable def LN (Q:Mx.D->Prop) (r:Mx.D):Prop:=∃it c,r= .tup [it,.int c]/\eF Q it
noncomputable def HV:Nat->Mx.D->Prop
 | 0,_=>False
 | n + 1,d=>∃rs,d= .tup rs/\rs.length<=4/\∀r∈rs,LN (HV n) r
theorem eX {n m:Nat} {it:Mx.D} {Q:Mx.D->Prop} (hQ:∀d,Q d->Mx.D.dep d<=m) (hn:n=m + 2) (h:eF Q it):Mx.D.dep it<=n:=by
 rcases h with ⟨x,rfl⟩ | ⟨x,ps,rfl,_,hp⟩
 ·simp[cJ,Mx.D.dep,Mx.D.cn];lia
 ·have:=d8 λp lM=>hQ p (hp p lM)
  simp[ofT,Mx.D.dep,Mx.D.cn]
  lia
theorem qP:∀{xs ys:List Mx.D},(∀x∈xs,∀y∈ys,kW x y=true)->ib xs ys=true
 | [],_,_=>by simp[ib]
 | _::_,[],_=>by simp[ib]
 | x::xs,y::ys,h=>by simp only[ib,O7];exact⟨h x Pe y Pe,qP λa ha b hb=>h a (Pb _ ha) b (Pb _ hb)⟩
theorem nc {P Q:Mx.D->Prop} {a b:Mx.D} (Nv:∀p q,P p->Q q->kW p q=true) (ha:eF P a) (hb:eF Q b):kW a b=true:=by
 rcases ha with ⟨x,rfl⟩ | ⟨x,ps,rfl,_,hp⟩ <;> rcases hb with ⟨y,rfl⟩ | ⟨y,qs,rfl,_,hq⟩
 ·simp[cJ,kW,ib]
 ·simp[cJ,ofT,kW,ib]
 ·simp[cJ,ofT,kW,ib]
 ·simp only[ofT,kW,ib,Bool.true_and,Bool.and_true];exact qP λp lM q hq'=>Nv p q (hp p lM) (hq q hq')
theorem ft {ds:List Dt} {d:Dt}:cP (.lst (ds++[d])) (.int (-1))= .ok d:=by show uh (ds++[d]) (-1)=_;unfold uh;rw[Mx.ox]
theorem Ai {n:Nat}:mY (n + 1) (-1)=some n:=by
 unfold mY;rw[if_neg (by decide),if_pos (by lia)];congr 1
 lia
theorem ne_nil {ds:List Dt} {d:Dt} (h1:nC (ds++[d])=true) (h2:qr (ds++[d]) < 100):cO .NotEq (.lst (ds++[d])) (.lst [])= .ok true:=by show af (fV (.lst (ds++[d])) (.lst [])) (.ok (!bD (.lst (ds++[d])) (.lst [])))=_;rw[show fV (.lst (ds++[d])) (.lst [])=true by simp[fV,pl,nC,dp,h1];lia,guard_true];cases ds <;> simp[bD,bI]
theorem eq_nil {ds:List Dt} {d:Dt} (h1:nC (ds++[d])=true) (h2:qr (ds++[d]) < 100):cO .Eq (.lst (ds++[d])) (.lst [])= .ok false:=by show af (fV (.lst (ds++[d])) (.lst [])) (.ok (bD (.lst (ds++[d])) (.lst [])))=_;rw[show fV (.lst (ds++[d])) (.lst [])=true by simp[fV,pl,nC,dp,h1];lia,guard_true];cases ds <;> simp[bD,bI]
theorem j7 {α:Type}:∀l:List α,l=[]\/∃a x,l=a++[x]
 | []=> .inl rfl
 | x::l=> .inr ⟨(x::l).dropLast,(x::l).getLast (by simp),(List.dropLast_concat_getLast (by simp)).symm⟩
theorem A4 {α:Type} (a:List α) (x y:α) {n:Nat} (h:n=a.length):(a++[x]).set n y=a++[y]:=by subst h;simp
variable {fs:List Fn}
theorem oE {f:Dt->Sx->R (List Dt×Sx)} {S:Sx} (Q:Mx.D->Prop):∀{ds:List Dt},(∀x∈ds,∃m,f x S= .ok ([ofD m],S)/\Q m)->∃ms,bb f ds S= .ok (aa ms,S)/\ms.length=ds.length/\∀m∈ms,Q m
 | [],_=>⟨[],by simp[bb,aa],rfl,by simp⟩
 | x::ds,h=>by
  obtain⟨m,h1,h2⟩:=h x Pe;obtain⟨ms,k1,k2,k3⟩:=oE Q λy hy=>h y (Pb _ hy)
  refine⟨m::ms,?_,by simp[k2],λa ha=>?_⟩
  ·rw[bb,h1,R.ai,k1,R.ai];simp[aa]
  ·rcases Pk.mp ha with rfl | ha
   ·exact h2
   ·exact k3 a ha
theorem AZ {n:Nat} {x:Dt} (h:x∈bO 0 n):∃i:Nat,i < n/\x= .int i:=by unfold bO at h;rw[PP] at h;obtain⟨i,h1,rfl⟩:=h;exact⟨i,P5.mp h1,by simp⟩
theorem pO {a b c:Str} {k:Nat} (h:k < 3):∃x,cP (.lst [.str a,.str b,.str c]) (.int k)= .ok (.str x):=by
 match k,h with
 | 0,_=>exact⟨a,rfl⟩
 | 1,_=>exact⟨b,rfl⟩
 | 2,_=>exact⟨c,rfl⟩
variable {fs:List Fn}
noncomputable def rV (ic:Nat):Ts:=(.cons (.app 3 (.tup (.cons (.idx (.idx (.var 2) (.var 4)) (.con (.int 0))) (.cons (.bin .Mult (.idx (.idx (.var 2) (.var 4)) (.con (.int 1))) (.bin .Add (.con (.int 1)) (.bin .Mod (.call ic (.cons (.var 0) (.cons (.bin .Add (.var 1) (.var 4)) .nil)) []) (.bin .Pow (.con (.int 10)) (.con (.int 8)))))) .nil)))) .nil)
noncomputable def vH (ic:Nat):Ts:=(.cons (.asgM 3 (.lst .nil)) (.cons (.fr (.nm 4) (.rng1 (.bi .len (.cons (.var 2) .nil))) (rV ic)) (.cons (.ret (.bi .tuple (.cons (.mvr 3) .nil))) .nil)))
theorem Fx {ic ig:Nat} (hc:fs[ic]?=some ⟨2,3,false,oz⟩) (hf:fs[ig]?=some ⟨3,5,false,vH ic⟩) {N k n:Nat} (hN:2<=N) (hk:k < 100000) {ns:List Int} {rs:List Mx.D} (h:HV n (.tup rs)):∃qs,aO fs N ig [.bE ns,.int k,.tup (aa rs)] none= .ok (.tup (aa qs),none)/\HV n (.tup qs):=by
 have fm:lim=1000000:=rfl;obtain⟨n,rfl⟩:∃m,n=m + 1:=by cases n with | zero=>exact h.elim | succ m=>exact⟨m,rfl⟩
 obtain⟨p6,e,hl,hr⟩:=h;cases e;have loop:=fj (S:=none) (tg:= .nm 4) (ds:=bO 0 rs.length) (ρ:=[some (.bE ns),some (.int k),some (.tup (aa rs)),some (.lst []),none])
  (body:=aR (aO fs (N - 1)) (rV ic))
  (λpre ρ=>∃ms x,ms.length=pre.length/\(∀m∈ms,LN (HV n) m)/\ρ=[some (.bE ns),some (.int k),some (.tup (aa rs)),some (.lst (aa ms)),x]) ⟨[],none,rfl,by simp,by simp[aa]⟩ (by
   rintro pre x post ρ e ⟨ms,x,FY,hm,rfl⟩;obtain⟨h1,rfl⟩:=iW e;obtain⟨it,c,e1,hi⟩:=hr rs[pre.length] (List.getElem_mem h1);have kT:=(xm (ds:=aa rs) (k:=pre.length) (d:= .tup [ofD it,.int c]) (by rw[a6,Pr,Px h1,e1];simp[ofD,aa])).1;have Bv:=mB hc (n:=N - 1) (by lia) (ns:=ns) (k:=k + pre.length) (by lia);generalize f7 ns (k + pre.length)=y at Bv;have J8:aO fs (N - 1) ic [.bE ns,.int ((k:Int) + pre.length)] none= .ok (.int y,none):=Bv;have pw:pe .Pow (.int 10) (.int 8)= .ok (.int 100000000):=rfl;have m1:=b9 (i:=y) (j:=100000000) (by decide);have r1:=PU y (b:=100000000) (by decide);have r2:=PV y (b:=100000000) (by decide);have m2:=a8 (i:=c) (j:=1 + y % 100000000) (.inr (by lia));refine⟨_,_,rfl,fv (ds:=aa ms) (d:= .tup [ofD it,.int (c * (1 + y % 100000000))]) (S1:=none) rfl (by simp only[RX,kT,J8,pw,m1,m2]) rfl (by rw[aj];lia) rfl,ms++[.tup [it,.int (c * (1 + y % 100000000))]],some (.int pre.length),by simp[FY],λm hm'=>?_,?_⟩
   ·rcases Pv.mp hm' with hm' | hm'
    ·exact hm m hm'
    ·rw[PN] at hm';subst hm';exact⟨it,_,rfl,hi⟩
   ·rw[aQ];simp[ofD,aa])
 obtain⟨ρ1,cv,ms,x,FY,hm,rfl⟩:=loop;refine⟨ms,aG hf (by lia) rfl ?_,ms,rfl,by rw[FY];simp[bO];lia,hm⟩;show fin (aR (aO fs (N - 1)) (vH ic) [some (.bE ns),some (.int k),some (.tup (aa rs)),none,none] none)=_;exact dN (d:= .lst []) (S1:=none) rfl rfl (bW (ds:=bO 0 rs.length) (S1:=none) (j5 (n:=rs.length) (by simp only[RX,aj]) (by lia)) rfl cv (aq (by simp only[RX])))
noncomputable def aF:Mx.D->List Mx.D
 | .tup [_,_,.tup ps]=>ps
 | _=>[]
noncomputable def dX (f:Mx.D->List Mx.D):Mx.D->List Mx.D
 | .tup [it,_]=>it::(aF it).flatMap f
 | _=>[]
noncomputable def eh:Nat->Mx.D->List Mx.D
 | n + 1,.tup rs=>rs.flatMap (dX (eh n))
 | _,_=>[]
theorem ff {α β:Type} {f:α->List β} {k:Nat}:∀{l:List α},(∀x∈l,(f x).length<=k)->(l.flatMap f).length<=l.length * k
 | [],_=>by simp
 | x::l,h=>by
  have h1:=h x Pe;have h2:=ff λy hy=>h y (Pb _ hy)
  rw[List.flatMap_cons,Po,Pq,Nat.succ_mul]
  lia
noncomputable def eV:Ts:=(.cons (.ifs (.cmp .Eq (.idx (.var 0) (.con (.int 0))) (.con (.str "of"))) (.cons (.ret (.idx (.var 0) (.con (.int 2)))) .nil) .nil) (.cons (.ret (.tup .nil)) .nil))
theorem i6 (x:Str):ofD (cJ x)= .tup [.str "any",.str x]:=by simp[cJ,ofD,aa]
theorem kh (x:Str) (ps:List Mx.D):ofD (ofT x ps)= .tup [.str "of",.str x,.tup (aa ps)]:=by simp[ofT,ofD,aa]
theorem km {ip N:Nat} (hf:fs[ip]?=some ⟨1,1,false,eV⟩) (hN:1<=N) {Q:Mx.D->Prop} {it:Mx.D} (h:eF Q it):aO fs N ip [ofD it] none= .ok (.tup (aa (aF it)),none):=by
 refine aG hf hN rfl ?_;rcases h with ⟨x,rfl⟩ | ⟨x,ps,rfl,_⟩
 ·rw[i6];show fin (aR (aO fs (N - 1)) eV [some (.tup [.str "any",.str x])] none)=_;exact bQ (S1:=none) (by simp only[RX];rfl) (aq (by simp[RX,cJ,aF,aa]))
 ·rw[kh];show fin (aR (aO fs (N - 1)) eV [some (.tup [.str "of",.str x,.tup (aa ps)])] none)=_;exact dy (S1:=none) (by simp only[RX];rfl) (aq (by simp only[RX];rfl))
theorem nv {a b:List Dt} (h:a.length + b.length<=lim):pe .Add (.lst a) (.lst b)= .ok (.lst (a++b)):=by show af (decide (a.length + b.length<=lim)) _=_;rw[PF h];rfl
theorem o9 {a b:List Mx.D} (h:aa a=aa b):a=b:=by have:=fS a;rw[h,fS] at this;exact(Option.some.inj this).symm
theorem fh {tg:Tg} {body:ak->Sx->RS} {ds:List Mx.D} {ρ:ak} {S:Sx} (P:List Mx.D->ak->Prop) (h0:P [] ρ)
  (step:∀pre x post ρ,ds=pre++x::post->P pre ρ->∃ρ1 ρ2,bU tg (ofD x) ρ= .ok ρ1/\body ρ1 S= .ok (.next,ρ2,S)/\P (pre++[x]) ρ2):∃ρ',forL tg body (aa ds) ρ S= .ok (.next,ρ',S)/\P ds ρ':=by
 obtain⟨ρ',h1,p,h2,h3⟩:=fj (S:=S) (tg:=tg) (body:=body) (ds:=aa ds) (ρ:=ρ) (λpre ρ=>∃p,pre=aa p/\P p ρ) ⟨[],by simp[aa],h0⟩ (by
  rintro pre x post ρ e ⟨p,e0,hp⟩;obtain⟨p',y,q,e1,e2,rfl,rfl⟩:=rA e;have ep:p=p':=o9 (e0.symm.trans e2);subst ep;obtain⟨ρ1,ρ2,s1,s2,s3⟩:=step p y q ρ e1 hp;exact⟨ρ1,ρ2,s1,s2,p++[y],by rw[e2,aQ];simp[aa],s3⟩)
 exact⟨ρ',h1,o9 h2▸h3⟩
variable {fs:List Fn}
theorem d7 {f:Dt->Sx->R (List Dt×Sx)} {S:Sx} (g:Mx.D->List Dt):∀{ds:List Mx.D},(∀m∈ds,f (ofD m) S= .ok (g m,S))->bb f (aa ds) S= .ok (ds.flatMap g,S)
 | [],_=>by simp[aa,bb]
 | d::ds,h=>by rw[aa,bb,h d Pe,R.ai,d7 g λm hm=>h m (Pb _ hm),R.ai,List.flatMap_cons]
theorem JA {x:Str}:∀{l:List Str},x∈dd l↔x∈l
 | []=>by simp[dd]
 | y::l=>by
  have ih:=JA (x:=x) (l:=l);rw[dd];split
  ·rename_i h;rw[ih,Pk];exact⟨.inr,λz=>z.elim (λe=>by rw[e];exact JA.mp h) id⟩
  ·rw[Pk,ih,Pk]
theorem JB:∀{l:List Str},(dd l).Nodup
 | []=>by simp[dd]
 | y::l=>by
  rw[dd];split
  ·exact JB
  ·rename_i h;exact List.nodup_cons.mpr ⟨h,JB⟩
theorem iD:∀ys:List Str,strsOf (aa (ys.map Mx.D.str))=some ys
 | []=>by simp[aa,strsOf]
 | y::ys=>by simp[aa,ofD,strsOf,iD ys]
theorem zw {ys:List Str} {d:Dt} (hd:bJ d=some (aa (ys.map Mx.D.str))) (hl:ys.length < 4000):dG .sset [d]= .ok (.lst (aa (aJ ((dd ys).map Mx.D.str)))):=by show (match bJ d with | some ds=>(match strsOf ds with | some ys=>af (decide (ys.length < 4000)) (R.ok (Dt.lst (aa (aJ ((dd ys).map Mx.D.str))))) | none=> .bad) | none=> .bad)=_;rw[hd];show (match strsOf (aa (ys.map Mx.D.str)) with | some ys=>af (decide (ys.length < 4000)) (R.ok (Dt.lst (aa (aJ ((dd ys).map Mx.D.str))))) | none=> .bad)=_;rw[iD];show af (decide (ys.length < 4000)) _=_;rw[PF hl];rfl
noncomputable def dF:Mx.D->List Str
 | .tup [_,.str x]=>[x]
 | _=>[]
noncomputable def gk:Mx.D->List Mx.D
 | .tup [a,b,c]=>[.tup [a,b,c]]
 | _=>[]
theorem fg {α β γ:Type} {f:α->List β} {g:β->γ}:∀l:List α,(l.flatMap λx=>(f x).map g)=(l.flatMap f).map g
 | []=>rfl
 | x::l=>by rw[List.flatMap_cons,List.flatMap_cons,P3,fg l]
theorem jQ {F:FT} {its:List Mx.D} {Q:Mx.D->Prop} (h:∀m∈its,eF Q m):bb (bp (.nm 1) (cq F (.cons (.cmp .Eq (.idx (.var 1) (.con (.int 0))) (.con (.str "any"))) .nil)) (dH F (.idx (.var 1) (.con (.int 1)))) [none,none]) (aa its) none= .ok (aa ((its.flatMap dF).map Mx.D.str),none):=by
 rw[d7 (λm=>aa ((dF m).map Mx.D.str)) λm hm=>?_]
 ·have:∀m:Mx.D,aa ((dF m).map Mx.D.str)=(dF m).map λx=>ofD (.str x):=λm=>by rw[a6,List.map_map];rfl
  simp only[this];rw[fg,a6,List.map_map];rfl
 ·rcases h m hm with ⟨x,rfl⟩ | ⟨x,ps,rfl,_⟩
  ·rw[i6];exact turn_if (b:=true) (y:= .str x) (ρ1:=[none,some (.tup [.str "any",.str x])]) rfl (by simp only[RX];rfl) λ_=>⟨by simp only[RX],rfl⟩
  ·rw[kh];exact turn_if (b:=false) (y:= .bg) (ρ1:=[none,some (.tup [.str "of",.str x,.tup (aa ps)])]) rfl (by simp only[RX];rfl) λz=>by cases z
theorem i9 {F:FT} {its:List Mx.D} {Q:Mx.D->Prop} (h:∀m∈its,eF Q m):bb (bp (.nm 1) (cq F (.cons (.cmp .Eq (.idx (.var 1) (.con (.int 0))) (.con (.str "of"))) .nil)) (dH F (.var 1)) [none,none]) (aa its) none= .ok (aa (its.flatMap gk),none):=by
 rw[d7 (λm=>aa (gk m)) λm hm=>?_]
 ·simp only[a6];rw[fg]
 ·rcases h m hm with ⟨x,rfl⟩ | ⟨x,ps,rfl,_⟩
  ·rw[i6];exact turn_if (b:=false) (y:= .bg) (ρ1:=[none,some (.tup [.str "any",.str x])]) rfl (by simp only[RX];rfl) λz=>by cases z
  ·have e:aa (gk (ofT x ps))=[ofD (ofT x ps)]:=by simp[gk,ofT,aa]
   rw[e,kh];exact turn_if (b:=true) (ρ1:=[none,some (.tup [.str "of",.str x,.tup (aa ps)])]) rfl (by simp only[RX];rfl) λ_=>⟨by simp only[RX],rfl⟩
theorem uU {its:List Mx.D}:(its.flatMap dF).length<=its.length:=by
 have:=ff (f:=dF) (k:=1) (l:=its) λx _=>by unfold dF;split <;> simp
 lia
theorem kK {its:List Mx.D}:(its.flatMap gk).length<=its.length:=by
 have:=ff (f:=gk) (k:=1) (l:=its) λx _=>by unfold gk;split <;> simp
 lia
theorem kL {its:List Mx.D} {t:Mx.D} {Q:Mx.D->Prop} (h:∀m∈its,eF Q m) (ht:t∈its.flatMap gk):t∈its/\∃x ps,t=ofT x ps/\ps.length<=3/\∀p∈ps,Q p:=by
 rw[List.mem_flatMap] at ht;obtain⟨m,hm,ht⟩:=ht;rcases h m hm with ⟨x,rfl⟩ | ⟨x,ps,rfl,h1,h2⟩
 ·simp[gk,cJ] at ht
 ·have:t=ofT x ps:=by simpa [gk,ofT] using ht
  subst this;exact⟨hm,x,ps,rfl,h1,h2⟩
noncomputable def vJ:Ts:=(.cons (.ifs (.or (.cmp .Eq (.mvr 1) (.lst .nil)) (.cmp .NotEq (.idx (.mvr 1) (.neg (.con (.int 1)))) (.var 2))) (.cons (.app 1 (.var 2)) .nil) .nil) .nil)
noncomputable def vI:Ts:=(.cons (.asgM 1 (.lst .nil)) (.cons (.fr (.nm 2) (.seq (.bi .sorted (.cons (.var 0) .nil))) vJ) (.cons (.ret (.mvr 1)) .nil)))
theorem Az {io N:Nat} (hf:fs[io]?=some ⟨1,3,false,vI⟩) (hN:1<=N) {ms:List Mx.D} (hc:gS ms=true) (hl:ms.length < 1000000) (hd:∀m∈ms,Mx.D.dep m<=90):aO fs N io [.lst (aa ms)] none= .ok (.lst (aa (uq none (aJ ms))),none):=by
 have fm:lim=1000000:=rfl;have hs:=(fI hc).1;have sQ:(aJ ms).length=ms.length:=(br ms).length_eq;have loop:=fh (S:=none) (tg:= .nm 2) (ds:=aJ ms) (ρ:=[some (.lst (aa ms)),some (.lst []),none]) (body:=aR (aO fs (N - 1)) vJ)
  (λp ρ=>∃z,ρ=[some (.lst (aa ms)),some (.lst (aa (uq none p))),z]) ⟨none,by simp[uq,aa]⟩ (by
   rintro p y q ρ e1 ⟨x2,rfl⟩;have gz:p.length < ms.length:=by rw[<-sQ,e1];simp
   have N6:=rM (a:=p) (p:=none);have hg:=ub (a:=p) (p:=none);rw[Option.or_none,Option.or_none] at hg;have ha:=yI (x:=y) (a:=p) (p:=none);rw[Option.or_none,<-hg] at ha;refine⟨[some (.lst (aa ms)),some (.lst (aa (uq none p))),some (ofD y)],[some (.lst (aa ms)),some (.lst (aa (uq none (p++[y])))),some (ofD y)],rfl,?_,some (ofD y),rfl⟩;rw[ha];rcases j7 (uq none p) with hu | ⟨us,u,hu⟩
   ·rw[hu];refine xN (S1:=none) rfl (fv (ds:=[]) (d:=ofD y) (S1:=none) rfl (by simp only[RX]) rfl (by simp) ?_);simp[uq,aa,aR,Ts.app]
   ·have N4:u∈ms:=cA.mp (by rw[e1];exact List.mem_append_left _ (nV (a:=p) (p:=none) (by rw[hu];simp)));have Gd:∀m∈us++[u],Mx.D.dep m<=90:=λm hm=>hd m (cA.mp (by rw[e1];exact List.mem_append_left _ (nV (a:=p) (p:=none) (by rw[hu];exact hm))))
    have el:aa (us++[u])=aa us++[ofD u]:=by rw[aQ];simp[aa]
    have iM:=eq_nil (ds:=aa us) (d:=ofD u) (by rw[<-el];exact q5 _) (by rw[<-el,mK];have:=d8 Gd;lia);have hq:=su (a:=u) (b:=y) (by have:=hd u N4;lia);rw[hu,el];by_cases hz:u=y
    ·rw[PF hz] at hq;refine uW (S1:=none) (by simp only[RX,iM,ft,hq];rfl) ?_;rw[aQ,el];simp[uq,hz,aa,aR,Ts.app]
    ·rw[Py hz] at hq;refine xN (S1:=none) (by simp only[RX,iM,ft,hq];rfl) (fv (ds:=aa us++[ofD u]) (d:=ofD y) (S1:=none) rfl (by simp only[RX]) rfl (by rw[<-el,aj,<-hu];lia) ?_);rw[aQ,el];simp[uq,hz,aa,aR,Ts.app])
 obtain⟨ρ1,cv,z,rfl⟩:=loop;refine aG hf hN rfl ?_;show fin (aR (aO fs (N - 1)) vI [some (.lst (aa ms)),none,none] none)=_;exact dN (d:= .lst []) (S1:=none) rfl rfl (bW (ds:=aa (aJ ms)) (S1:=none) (by simp only[RX,hs]) rfl cv (aq (by simp only[RX])))
theorem zH {f:Dt->Sx->R (List Dt×Sx)} {iY:List Mx.D} (h:∀(i:Nat) (y:Mx.D),iY[i]?=some y->f (.tup [.int i,ofD y]) none= .ok (if i≠0/\iY[i - 1]?=some y then[] else[ofD y],none)):bb f (cY 0 (aa iY)) none= .ok (aa (uq none iY),none):=by
 have key:∀(post pre:List Mx.D),iY=pre++post->bb f (cY pre.length (aa post)) none= .ok (aa (uq pre.getLast? post),none):=by
  intro post
  induction post with
  | nil=>intro pre _;simp[aa,cY,bb,uq]
  | cons x post ih=>
   intro pre e;have hx:iY[pre.length]?=some x:=by rw[e];simp
   have hi:=ih (pre++[x]) (by rw[e];simp);rw[Po,List.getLast?_append] at hi;rw[aa,cY,bb,h _ _ hx,R.ai];rw[show pre.length + 1=pre.length + [x].length from rfl,hi,R.ai];have hc:(pre.length≠0/\iY[pre.length - 1]?=some x)↔pre.getLast?=some x:=by
    rcases j7 pre with rfl | ⟨a,z,rfl⟩
    ·simp
    ·rw[e];simp
   simp only[hc];rw[uq];split
   ·simp
   ·simp[aa]
 exact key iY [] rfl
noncomputable def mv:Ts:=(.cons (.asg 1 (.bi .sorted (.cons (.comp [none,none] (.seq (.var 0)) (.nm 1) (.cons (.cmp .Eq (.idx (.var 1) (.con (.int 0))) (.con (.str "of"))) .nil) (.var 1)) .nil))) (.cons (.ret (.bi .tuple (.cons (.comp [none,none,none,some 1] (.enum (.var 1)) (.tp [1,2]) (.cons (.or (.cmp .Eq (.var 1) (.con (.int 0))) (.cmp .NotEq (.idx (.var 3) (.bin .Sub (.var 1) (.con (.int 1)))) (.var 2))) .nil) (.var 2)) .nil))) .nil))
theorem Bm {F:FT} {u:BI} {e:C} {ρ:ak} {S S1:Sx} {d d':Dt} (h:ev F e ρ S= .ok (d,S1)) (hb:dG u [d]= .ok d'):ev F (.bi u (.cons e .nil)) ρ S= .ok (d',S1):=by simp only[RX,h,hb]
theorem rD {it N:Nat} (hf:fs[it]?=some ⟨1,2,false,mv⟩) (hN:1<=N) {Q:Mx.D->Prop} {its:List Mx.D} (hl:its.length < 1000000) (h:∀m∈its,eF Q m) (CG:gS (its.flatMap gk)=true) (hd:∀m∈its.flatMap gk,Mx.D.dep m<=90):aO fs N it [.lst (aa its)] none= .ok (.tup (aa (uq none (aJ (its.flatMap gk)))),none):=by
 have fm:lim=1000000:=rfl;have eB:=kK (its:=its);have hs:=(fI CG).1;have sQ:(aJ (its.flatMap gk)).length=(its.flatMap gk).length:=(br _).length_eq;generalize hz:aJ (its.flatMap gk)=iY at hs sQ;have hd:∀m∈iY,Mx.D.dep m<=90:=λm hm=>hd m (cA.mp (hz▸hm))
 refine aG hf hN rfl ?_;show fin (aR (aO fs (N - 1)) mv [some (.lst (aa its)),none] none)=_;refine az (d:= .lst (aa iY)) (S1:=none) (Bm (bK (ds:=aa its) (S1:=none) (by simp only[RX]) (by rw[aj];lia) rfl (i9 h)) hs) rfl (aq (Bm (bK (ds:=cY 0 (aa iY)) (S1:=none) (by simp only[RX]) ?_ rfl (zH λi y hy=>?_)) rfl))
 ·have:∀(l:List Dt) (i:Nat),(cY i l).length=l.length:=by
   intro l
   induction l with
   | nil=>intro i;rfl
   | cons x l ih=>intro i;simp[cY,ih]
  rw[this,aj]
  lia
 ·have Mu:=hd y (List.mem_iff_getElem?.mpr ⟨i,hy⟩);rw[show (if i≠0/\iY[i - 1]?=some y then([]:List Dt) else[ofD y])=if (!decide (i≠0/\iY[i - 1]?=some y))=true then[ofD y] else[] by by_cases q:i≠0/\iY[i - 1]?=some y <;> simp[q]];refine turn_if (ρ1:=[none,some (.int i),some (ofD y),some (.lst (aa iY))]) rfl ?_ λ_=>⟨by simp only[RX],rfl⟩
  by_cases h0:i=0
  ·subst h0;simp only[RX];rfl
  ·have e0:((i:Int)==0)=false:=by simpa using h0
   have bX:i < iY.length:=(Pa.mp hy).1;have ID:iY[i - 1]?=some (iY[i - 1]'(by lia)):=Px _;generalize iY[i - 1]'(by lia)=w at ID;have kT:=(xm (ds:=aa iY) (k:=i - 1) (d:=ofD w) (by rw[a6,Pr,ID];rfl)).2;rw[show ((i - 1:Nat):Int)=(i:Int) - 1 by lia] at kT;have hq:=su (a:=w) (b:=y) (by have:=hd w (List.mem_iff_getElem?.mpr ⟨i - 1,ID⟩);lia);simp only[RX,e0,kT,hq,ID];simp[h0]
noncomputable def Ca (ii:Nat):Ts:=(.cons (.asg 1 (.comp [none,none] (.seq (.call ii (.cons (.var 0) .nil) [])) (.nm 1) (.cons (.cmp .Eq (.idx (.var 1) (.con (.int 0))) (.con (.str "any"))) .nil) (.idx (.var 1) (.con (.int 1))))) (.cons (.ret (.bi .tuple (.cons (.bi .sset (.cons (.var 1) .nil)) .nil))) .nil))
theorem Bg {iu ii N:Nat} (hf:fs[iu]?=some ⟨1,2,false,Ca ii⟩) {d:Dt} (hN:1<=N) {Q:Mx.D->Prop} {its:List Mx.D} (h:∀m∈its,eF Q m) (hl:its.length < 4000) (hi:aO fs (N - 1) ii [d] none= .ok (.lst (aa its),none)):aO fs N iu [d] none= .ok (.tup (aa (aJ ((dd (its.flatMap dF)).map Mx.D.str))),none):=by have fm:lim=1000000:=rfl;have h2:=uU (its:=its);have N2:=zw (ys:=its.flatMap dF) (d:= .lst (aa ((its.flatMap dF).map Mx.D.str))) rfl (by lia);refine aG hf hN rfl ?_;show fin (aR (aO fs (N - 1)) (Ca ii) [some d,none] none)=_;exact az (d:= .lst (aa ((its.flatMap dF).map Mx.D.str))) (S1:=none) (bK (ds:=aa its) (S1:=none) (by simp only[RX,hi]) (by rw[aj];lia) rfl (jQ h)) rfl (aq (Bm (Bm (by simp only[RX]) N2) rfl))
variable {fs:List Fn}
noncomputable def eM:Nat->Mx.D->Prop
 | 0,_=>False
 | n + 1,d=>∃rs,d= .tup rs/\∀r∈rs,∃it c,r= .tup [it,.int c]/\eF (eM n) it/\c.natAbs < 2 ^ 64
noncomputable abbrev oo (n:Nat) (r:Mx.D):Prop:=∃it c,r=Mx.D.tup [it,.int c]/\eF (eM n) it/\c.natAbs < 2 ^ 64
theorem oG:∀{n:Nat} {d:Mx.D},eM n d->Mx.D.dep d<=4 * n
 | 0,d,h=>h.elim
 | n + 1,d,⟨rs,e,h⟩=>by
  subst e;have:Mx.D.cn rs<=4 * n + 3:=d8 λr hr=>by
   obtain⟨it,c,rfl,hi,_⟩:=h r hr;have:=eX (n:=4 * n + 2) (λd hd=>oG hd) rfl hi;simp[Mx.D.dep,Mx.D.cn]
   lia
  simp only[Mx.D.dep]
  lia
theorem C9:∀{n m:Nat} {a b:Mx.D},eM n a->eM m b->kW a b=true
 | 0,_,_,_,h,_=>h.elim
 | _ + 1,0,_,_,_,h=>h.elim
 | n + 1,m + 1,a,b,⟨rs,e1,h1⟩,⟨qs,e2,h2⟩=>by
  subst e1 e2;simp only[kW];refine qP λr hr q hq=>?_
  obtain⟨i,c,rfl,hi,_⟩:=h1 r hr;obtain⟨j,d,rfl,hj,_⟩:=h2 q hq;simp only[kW,ib,Bool.and_true];exact nc (λp q hp hq=>C9 hp hq) hi hj
theorem vX {n:Nat} {ms:List Mx.D} (hn:n<=8) (hl:ms.length < 1000000) (h:∀m∈ms,eF (eM n) m):gS ms=true:=by
 refine vY .ts hl (d8 λd hd=>?_) (λd hd=>?_) λd hd e he=>nc (λp q hp hq=>C9 hp hq) (h d hd) (h e he)
 ·have:=eX (n:=4 * n + 2) (λd hd=>oG hd) rfl (h d hd)
  lia
 ·rcases h d hd with ⟨x,rfl⟩ | ⟨x,ps,rfl,_⟩ <;> rfl
theorem eF.imp {P Q:Mx.D->Prop} {it:Mx.D} (h:∀d,P d->Q d):eF P it->eF Q it:=Or.imp id λ⟨x,ps,e,hl,hp⟩=>⟨x,ps,e,hl,λp q=>h p (hp p q)⟩
theorem eM.up:∀{n:Nat} {d:Mx.D},eM n d->eM (n + 1) d
 | 0,d,h=>h.elim
 | n + 1,d,⟨rs,e,h⟩=>⟨rs,e,λr hr=>(h r hr).imp λit hh=>hh.imp λc hh=>⟨hh.1,hh.2.1.imp λd hd=>hd.up,hh.2.2⟩⟩
theorem jE {Q:Mx.D->Prop} {it:Mx.D} (h:eF Q it):(aF it).length<=3/\∀p∈aF it,Q p:=by
 rcases h with ⟨y,rfl⟩ | ⟨y,ps,rfl,h1,h2⟩
 ·simp[cJ,aF]
 ·exact⟨h1,h2⟩
theorem xq:∀{n:Nat} {d it:Mx.D},eM (n + 1) d->it∈eh (n + 1) d->eF (eM n) it
 | n,d,it,⟨rs,e,h⟩,hi=>by
  subst e;rw[eh,List.mem_flatMap] at hi;obtain⟨r,hr,hi⟩:=hi;obtain⟨j,c,rfl,hj,_⟩:=h r hr;rw[dX,Pk,List.mem_flatMap] at hi;rcases hi with rfl | ⟨p,hp,hi⟩
  ·exact hj
  ·have hG:=(jE hj).2 p hp;cases n with
   | zero=>exact hG.elim
   | succ n=>exact(xq hG hi).imp λd hd=>hd.up
noncomputable def jq (ip:Nat) (b:Ts):Ts:=(.cons (.asgM 1 (.lst .nil)) (.cons (.fr (.tp [2,3]) (.seq (.var 0)) (.cons (.app 1 (.var 2)) (.cons (.fr (.nm 4) (.seq (.call ip (.cons (.var 2) .nil) [])) b) .nil))) (.cons (.ret (.mvr 1)) .nil)))
theorem iP {ip ii:Nat} {b:Ts} (hp:fs[ip]?=some ⟨1,1,false,eV⟩) (hf:fs[ii]?=some ⟨1,5,false,jq ip b⟩)
  (hb:∀{N:Nat} {d0 d2 d3:Option Dt} {acc ds:List Mx.D} {p:Mx.D},aO fs N ii [ofD p] none= .ok (.lst (aa ds),none)->acc.length + ds.length<=100000->aR (aO fs N) b [d0,some (.lst (aa acc)),d2,d3,some (ofD p)] none= .ok (.next,[d0,some (.lst (aa (acc++ds))),d2,d3,some (ofD p)],none)):
  ∀{n:Nat} {N:Nat} {d:Mx.D},n + 1<=N->eM n d->(eh n d).length<=100000->aO fs N ii [ofD d] none= .ok (.lst (aa (eh n d)),none)
 | 0,N,d,_,h,_=>h.elim
 | n + 1,N,d,hN,⟨rs,e,h⟩,hB=>by
  subst e;have fm:lim=1000000:=rfl;rw[eh] at hB;have loop:=fh (S:=none) (tg:= .tp [2,3]) (ds:=rs) (ρ:=[some (.tup (aa rs)),some (.lst []),none,none,none]) (body:=aR (aO fs (N - 1)) (.cons (.app 1 (.var 2)) (.cons (.fr (.nm 4) (.seq (.call ip (.cons (.var 2) .nil) [])) b) .nil)))
   (λp ρ=>∃x y z,ρ=[some (.tup (aa rs)),some (.lst (aa (p.flatMap (dX (eh n))))),x,y,z]) ⟨none,none,none,by simp[aa]⟩ (by
    rintro p y q ρ e1 ⟨x2,x3,x4,rfl⟩;obtain⟨it,c,rfl,hi,_⟩:=h y (by rw[e1];simp);rw[e1,List.flatMap_append,List.flatMap_cons,dX,Po,Po,Pq] at hB;have F8:=km hp (N:=N - 1) (by lia) hi;have EM:=(jE hi).2;generalize hacc:p.flatMap (dX (eh n))=acc at hB ⊢;have inner:=fh (S:=none) (tg:= .nm 4) (ds:=aF it) (ρ:=[some (.tup (aa rs)),some (.lst (aa (acc++[it]))),some (ofD it),some (.int c),x4]) (body:=aR (aO fs (N - 1)) b)
     (λp ρ=>∃z,ρ=[some (.tup (aa rs)),some (.lst (aa (acc++[it]++p.flatMap (eh n)))),some (ofD it),some (.int c),z]) ⟨x4,by simp⟩ (by
      rintro p2 y2 q2 ρ e2 ⟨x5,rfl⟩;rw[e2,List.flatMap_append,List.flatMap_cons,Po,Po] at hB;have ih:=iP hp hf hb (N:=N - 1) (by lia) (EM y2 (by rw[e2];simp)) (by lia);refine⟨_,_,rfl,hb (acc:=acc++[it]++p2.flatMap (eh n)) ih (by simp only[Po,List.length_singleton];lia),some (ofD y2),?_⟩;rw[List.flatMap_append];simp[Pm])
    obtain⟨ρ1,vn,z,rfl⟩:=inner;refine⟨[some (.tup (aa rs)),some (.lst (aa acc)),some (ofD it),some (.int c),x4],_,by simp[ofD,aa,bU,df],fv (ds:=aa acc) (d:=ofD it) (S1:=none) rfl (by simp only[RX]) rfl (by rw[aj];lia) (xO (ds:=aa (aF it)) (S1:=none) (by simp only[RX];rw[F8];rfl) rfl ((show aa acc++[ofD it]=aa (acc++[it]) by rw[aQ];simp[aa])▸vn) rfl),some (ofD it),some (.int c),z,?_⟩;rw[List.flatMap_append,hacc];simp[dX,Pm])
  obtain⟨ρ1,cv,x,y,z,rfl⟩:=loop;refine aG hf (by lia) rfl ?_;rw[show ofD (.tup rs)= .tup (aa rs) by rw[ofD]];show fin (aR (aO fs (N - 1)) (jq ip b) [some (.tup (aa rs)),none,none,none,none] none)=_;exact dN (d:= .lst []) (S1:=none) rfl rfl (bW (ds:=aa rs) (S1:=none) (by simp only[RX]) rfl cv (aq (by simp only[RX];rw[eh])))
theorem kz {n:Nat}:∀{rs:List Mx.D},(∀r∈rs,oo n r)->rs.length<=(rs.flatMap (dX (eh n))).length
 | [],_=>by simp
 | r::rs,h=>by
  obtain⟨it,c,rfl,_⟩:=h r Pe;have h9:=kz λr hr=>h r (Pb _ hr)
  rw[List.flatMap_cons,dX,Po,Pq,Pq]
  lia
theorem kl {n:Nat} {rs:List Mx.D} {it p:Mx.D} {c:Mx.D} (hm: .tup [it,c]∈rs) (hp:p∈aF it):(eh n p).length<=(rs.flatMap (dX (eh n))).length:=by
 obtain⟨a,b,rfl⟩:=List.append_of_mem hm;obtain⟨a',b',e'⟩:=List.append_of_mem hp;rw[List.flatMap_append,List.flatMap_cons,dX,e',List.flatMap_append,List.flatMap_cons];simp only[Po,Pq]
 lia
theorem fL {f:Dt->Sx->R (List Dt×Sx)} {g:Mx.D->Int} {ds:List Mx.D} (h:∀m∈ds,f (ofD m) none= .ok ([.int (g m)],none)):bb f (aa ds) none= .ok ((ds.map g).map Dt.int,none):=by rw[d7 (λm=>[Dt.int (g m)]) h,e9,List.map_map];rfl
theorem ec:∀l:List Int,intsOf (l.map Dt.int)=some l
 | []=>rfl
 | i::l=>by rw[P1,intsOf,ec l];rfl
theorem sum_ints (l:List Int):dG .sum [.lst (l.map Dt.int)]= .ok (.int l.sum):=by show (match intsOf (l.map Dt.int) with | some ns=>R.ok (Dt.int ns.sum) | none=> .bad)=_;rw[ec]
noncomputable def rd (pl:Bool) (f:Mx.D->Int):Mx.D->Int
 | .tup [it,.int c]=>(if pl=true then 1 else c) * (1 + ((aF it).map f).sum)
 | _=>0
noncomputable def tV (pl:Bool):Nat->Mx.D->Int
 | n + 1,.tup rs=>(rs.map (rd pl (tV pl n))).sum
 | _,_=>0
noncomputable def Ck (ip is:Nat):C:=(.bi .sum (.cons (.comp [none,none] (.seq (.call ip (.cons (.var 1) .nil) [])) (.nm 1) .nil (.call is (.cons (.var 1) .nil) [])) .nil))
noncomputable def Ic (e:C):Ts:=(.cons (.ret (.bi .sum (.cons (.comp [none,none,none] (.seq (.var 0)) (.tp [1,2]) .nil e) .nil))) .nil)
noncomputable def vT (ip is:Nat):C:= .bin .Mult (.var 2) (.bin .Add (.con (.int 1)) (Ck ip is))
noncomputable def mw (ip is:Nat):C:= .bin .Add (.con (.int 1)) (Ck ip is)
theorem nG {ip is:Nat} {pl:Bool} (hp:fs[ip]?=some ⟨1,1,false,eV⟩) (hf:fs[is]?=some ⟨1,1,false,Ic (if pl=true then mw ip is else vT ip is)⟩):
  ∀{n:Nat} {N:Nat} {d:Mx.D},n + 1<=N->eM n d->(eh n d).length<=100000->aO fs N is [ofD d] none= .ok (.int (tV pl n d),none)
 | 0,N,d,_,h,_=>h.elim
 | n + 1,N,d,hN,⟨rs,e,h⟩,hB=>by
  subst e;have fm:lim=1000000:=rfl;rw[eh] at hB;refine aG hf (by lia) rfl ?_;rw[show ofD (.tup rs)= .tup (aa rs) by rw[ofD]];show fin (aR (aO fs (N - 1)) (Ic _) [some (.tup (aa rs))] none)=_;have EN:=kz (n:=n) h;refine aq (Bm (bK (ds:=aa rs) (S1:=none) (by simp only[RX]) (by rw[aj];lia) rfl (fL (g:=rd pl (tV pl n)) λm hm=>?_)) (sum_ints _));obtain⟨it,c,rfl,hi,hc⟩:=h m hm;have F8:=km hp (N:=N - 1) (by lia) hi;obtain⟨gz,EM⟩:=jE hi;have NV:∀p∈aF it,(eh n p).length<=100000:=λp lM=>Pj (kl hm lM) hB
  have vn:ev (aO fs (N - 1)) (Ck ip is) [none,some (ofD it),some (.int c)] none= .ok (.int ((aF it).map (tV pl n)).sum,none):=
   Bm (bK (ds:=aa (aF it)) (S1:=none) (by simp only[RX,F8]) (by rw[aj];lia) rfl (fL (g:=tV pl n) λp lM=>dg (ρ1:=[none,some (ofD p)]) rfl (by simp only[RX,nG hp hf (N:=N - 1) (by lia) (EM p lM) (NV p lM)]) (by simp[bx,gh]))) (sum_ints _)
  have m1:=a8 (i:=c) (j:=1 + ((aF it).map (tV pl n)).sum) (.inl hc);refine dg (ρ1:=[none,some (ofD it),some (.int c)]) (by simp[ofD,aa,bU,df,fT]) ?_ (by simp[bx,gh]);cases pl with
  | true=>simp only[if_true,mw,RX,vn,rd,Int.one_mul]
  | false=>simp only[Bool.false_eq_true,if_false,vT,RX,vn,m1,rd]
noncomputable def rZ (iw is:Nat):Ts:=(.cons (.asg 5 (.con (.int 1))) (.cons (.fr (.nm 6) (.seq (.call iw (.cons (.var 3) .nil) [])) (.cons (.asg 5 (.bin .Add (.var 5) (.call is (.cons (.var 6) (.cons (.var 1) .nil)) []))) .nil)) (.cons (.ifs (.var 1) (.cons (.asg 4 (.con (.int 1))) .nil) .nil) (.cons (.asg 2 (.bin .Add (.var 2) (.bin .Mult (.var 4) (.var 5)))) .nil))))
noncomputable def qg (iw is:Nat):Ts:=(.cons (.asg 2 (.con (.int 0))) (.cons (.fr (.tp [3,4]) (.seq (.var 0)) (rZ iw is)) (.cons (.ret (.var 2)) .nil)))
theorem tU (a b:List Int):(a++b).sum=a.sum + b.sum:=by simp
theorem kA {iw is:Nat} {pl:Bool} (hp:fs[iw]?=some ⟨1,1,false,eV⟩) (hf:fs[is]?=some ⟨2,7,false,qg iw is⟩):
  ∀{n:Nat} {N:Nat} {d:Mx.D},n + 1<=N->eM n d->aO fs N is [ofD d,.bl pl] none= .ok (.int (tV pl n d),none)
 | 0,N,d,_,h=>h.elim
 | n + 1,N,d,hN,⟨rs,e,h⟩=>by
  subst e;refine aG hf (by lia) rfl ?_;rw[show ofD (.tup rs)= .tup (aa rs) by rw[ofD]];show fin (aR (aO fs (N - 1)) (qg iw is) [some (.tup (aa rs)),some (.bl pl),none,none,none,none,none] none)=_;have loop:=fh (S:=none) (tg:= .tp [3,4]) (ds:=rs) (ρ:=[some (.tup (aa rs)),some (.bl pl),some (.int 0),none,none,none,none]) (body:=aR (aO fs (N - 1)) (rZ iw is))
   (λp ρ=>∃x y z w,ρ=[some (.tup (aa rs)),some (.bl pl),some (.int (p.map (rd pl (tV pl n))).sum),x,y,z,w]) ⟨none,none,none,none,by simp⟩ (by
    rintro p y q ρ e1 ⟨x3,x4,x5,x6,rfl⟩;obtain⟨it,c,rfl,hi,hc⟩:=h y (by rw[e1];simp);have F8:=km hp (N:=N - 1) (by lia) hi;have EM:=(jE hi).2;generalize hT:(p.map (rd pl (tV pl n))).sum=T;have inner:=fh (S:=none) (tg:= .nm 6) (ds:=aF it) (ρ:=[some (.tup (aa rs)),some (.bl pl),some (.int T),some (ofD it),some (.int c),some (.int 1),x6]) (body:=aR (aO fs (N - 1)) (.cons (.asg 5 (.bin .Add (.var 5) (.call is (.cons (.var 6) (.cons (.var 1) .nil)) []))) .nil))
     (λp ρ=>∃w,ρ=[some (.tup (aa rs)),some (.bl pl),some (.int T),some (ofD it),some (.int c),some (.int (1 + (p.map (tV pl n)).sum)),w]) ⟨x6,by simp⟩ (by
      rintro p2 y2 q2 ρ e2 ⟨w,rfl⟩;have ih:=kA (pl:=pl) hp hf (N:=N - 1) (by lia) (EM y2 (by rw[e2];simp));refine⟨_,_,rfl,fw (d:= .int (1 + (p2.map (tV pl n)).sum + tV pl n y2)) (S1:=none) (by simp only[RX,ih]) (by simp[bx,gh]) rfl,some (ofD y2),?_⟩;rw[P3,tU,List.map_singleton,List.sum_singleton,<-Int.add_assoc];rfl)
    obtain⟨ρ1,vn,w,rfl⟩:=inner;generalize hZ:(1 + ((aF it).map (tV pl n)).sum)=Z at vn;have m1:=a8 (i:=c) (j:=Z) (.inl hc);have m2:=a8 (i:=1) (j:=Z) (.inl (by decide));have key:aR (aO fs (N - 1)) (.cons (.ifs (.var 1) (.cons (.asg 4 (.con (.int 1))) .nil) .nil) (.cons (.asg 2 (.bin .Add (.var 2) (.bin .Mult (.var 4) (.var 5)))) .nil)) [some (.tup (aa rs)),some (.bl pl),some (.int T),some (ofD it),some (.int c),some (.int Z),w] none= .ok (.next,[some (.tup (aa rs)),some (.bl pl),some (.int (T + (if pl=true then 1 else c) * Z)),some (ofD it),some (.int (if pl=true then 1 else c)),some (.int Z),w],none):=by
     cases pl with
     | true=>exact xN (S1:=none) (by simp only[RX]) (fw (d:= .int 1) (S1:=none) (by simp only[RX]) rfl (fw (d:= .int (T + 1 * Z)) (S1:=none) (by simp only[RX,m2]) (by simp[bx,gh]) rfl))
     | false=>exact uW (S1:=none) (by simp only[RX]) (fw (d:= .int (T + c * Z)) (S1:=none) (by simp only[RX,m1]) (by simp[bx,gh]) rfl)
    refine⟨[some (.tup (aa rs)),some (.bl pl),some (.int T),some (ofD it),some (.int c),x5,x6],_,by simp[ofD,aa,bU,df],fw (d:= .int 1) (S1:=none) (by simp only[RX]) rfl (xO (ds:=aa (aF it)) (S1:=none) (by simp only[RX,F8]) rfl vn key),some (ofD it),some (.int (if pl=true then 1 else c)),some (.int Z),w,?_⟩;rw[P3,tU,hT,List.map_singleton,List.sum_singleton,rd,hZ])
  obtain⟨ρ1,cv,x,y,z,w,rfl⟩:=loop;exact az (d:= .int 0) (S1:=none) rfl rfl (bW (ds:=aa rs) (S1:=none) (by simp only[RX]) rfl cv (aq (by simp only[RX];rw[tV])))
noncomputable def fO (l:List Int):Int:=l.foldr max 0
theorem iU:∀l:List Int,0<=fO l
 | []=>by simp[fO]
 | a::l=>by have:=iU l;simp only[fO,List.foldr_cons] at this ⊢;lia
theorem tv:∀a b:List Int,fO (a++b)=max (fO a) (fO b)
 | [],b=>by have:=iU b;simp only[fO,List.nil_append,List.foldr_nil] at this ⊢;lia
 | x::a,b=>by have:=tv a b;simp only[fO,List.cons_append,List.foldr_cons] at this ⊢;lia
theorem qV:∀l:List Int,(∀x∈l,0<=x)->eL l=fO l
 | [],_=>rfl
 | [a],h=>by have:=h a (by simp);simp only[eL,fO,List.foldr_cons,List.foldr_nil];lia
 | a::b::l,h=>by rw[eL,qV (b::l) λx hx=>h x (Pb _ hx)];rfl;simp
theorem oY {f:Mx.D->List Int}:∀ts:List Mx.D,fO (ts.map λt=>1 + fO (f t))=if ts.isEmpty=true then 0 else 1 + fO (ts.flatMap f)
 | []=>rfl
 | t::ts=>by
  have ih:=oY (f:=f) ts;have h1:=iU (f t);rw[List.flatMap_cons,tv];cases ts with
  | nil=>simp[fO] at *;lia
  | cons u us=>
   simp only[List.isEmpty_cons,Bool.false_eq_true,if_false] at ih ⊢;have:fO ((t::u::us).map λt=>1 + fO (f t))=max (1 + fO (f t)) (fO ((u::us).map λt=>1 + fO (f t))):=rfl
   lia
noncomputable def bV:Mx.D->List Mx.D
 | .tup [it,_]=>gk it
 | _=>[]
noncomputable def kY:Nat->Mx.D->Int
 | n + 1,.tup rs=>fO ((rs.flatMap bV).map λit=>1 + fO ((aF it).map (kY n)))
 | _,_=>0
theorem wj:∀(n:Nat) (d:Mx.D),0<=kY n d:=λn d=>by unfold kY;split <;> first | exact iU _ | exact Int.le_refl _
theorem Em {n:Nat} {rs:List Mx.D} {t:Mx.D} (h:∀r∈rs,oo n r) (ht:t∈rs.flatMap bV):∃x ps c,t=ofT x ps/\ps.length<=3/\(∀p∈ps,eM n p)/\ .tup [t,c]∈rs:=by
 rw[List.mem_flatMap] at ht;obtain⟨r,hr,ht⟩:=ht;obtain⟨it,c,rfl,hi,_⟩:=h r hr;rcases hi with ⟨x,rfl⟩ | ⟨x,ps,rfl,h1,h2⟩
 ·simp[bV,gk,cJ] at ht
 ·have:t=ofT x ps:=by simpa [bV,gk,ofT] using ht
  subst this;exact⟨x,ps,_,rfl,h1,h2,hr⟩
noncomputable def se (F:FT) (n:Nat) (it2:ll) (tg2:Tg) (cs2:Cs) (e:C):ak->Sx->R (List Dt×Sx):=λρ1 S1=>(dM F it2 ρ1 S1).bind λx2=>af (decide (n * x2.1.length<=lim)&&decide (p5 it2=0)) (bb (bp tg2 (cq F cs2) (dH F e) ρ1) x2.1 x2.2)
theorem wz {F:FT} {ρ:ak} {S S1 S2:Sx} {ds:List Dt} {cap:List (Option Nat)} {it it2:ll} {tg tg2:Tg} {cs cs2:Cs} {e:C} {out:List Dt} (h:dM F it ρ S= .ok (ds,S1)) (hl:ds.length<=lim) (hk:(decide (p5 it<=1)||jV F it ρ S)=true) (hc:bb (bp tg (cq F cs) (se F ds.length it2 tg2 cs2 e) (fT cap ρ)) ds S1= .ok (out,S2)):
  ev F (.i8 cap it tg cs it2 tg2 cs2 e) ρ S= .ok (.lst out,S2):=by
 rw[ev,h,R.ai,PF hl,hk,Bool.and_true,guard_true];show (bb (bp tg (cq F cs) (se F ds.length it2 tg2 cs2 e) (fT cap ρ)) ds S1).bind _=_;rw[hc];rfl
theorem HE {F:FT} {ρ ρ1:ak} {S S1 S2:Sx} {d:Dt} {ds out:List Dt} {n:Nat} {it2:ll} {tg tg2:Tg} {cs2:Cs} {e:C} (hs:bU tg d ρ= .ok ρ1) (h:dM F it2 ρ1 S= .ok (ds,S1)) (hl:n * ds.length<=lim) (hk:p5 it2=0) (hc:bb (bp tg2 (cq F cs2) (dH F e) ρ1) ds S1= .ok (out,S2)):
  bp tg (cq F .nil) (se F n it2 tg2 cs2 e) ρ d S= .ok (out,S2):=by
 unfold bp se;rw[hs,R.ai,cq,R.ai];simp only[if_true,h,R.ai,PF hl,PF hk,Bool.and_true,guard_true,hc]
noncomputable def qe (i:Nat):Ts:=(.cons (.asg 1 (.comp [none,none,none] (.seq (.var 0)) (.tp [1,2]) (.cons (.cmp .Eq (.idx (.var 1) (.con (.int 0))) (.con (.str "of"))) .nil) (.var 1))) (.cons (.ifs (.nt (.var 1)) (.cons (.ret (.con (.int 0))) .nil) .nil) (.cons (.ret (.bin .Add (.con (.int 1)) (.bi (.maxD 0) (.cons (.i8 [none,none,none] (.seq (.var 1)) (.nm 1) .nil (.seq (.idx (.var 1) (.con (.int 2)))) (.nm 2) .nil (.call i (.cons (.var 2) .nil) [])) .nil)))) .nil)))
theorem uQ (l:List Int) (h:∀x∈l,0<=x):dG (.maxD 0) [.lst (l.map Dt.int)]= .ok (.int (fO l)):=by
 show (match intsOf (l.map Dt.int) with | some ns=>R.ok (Dt.int (if ns.isEmpty then 0 else eL ns)) | none=> .bad)=_;rw[ec];cases l with
 | nil=>rfl
 | cons a l=>show R.ok (Dt.int (eL (a::l)))=_;rw[qV _ h]
theorem lT (l:List Int) (h:∀x∈l,0<=x):dG .maxL [.lst (.int 0::l.map Dt.int)]= .ok (.int (fO l)):=by show (match intsOf ((0::l).map Dt.int) with | some ns=>af (!ns.isEmpty) (R.ok (Dt.int (eL ns))) | none=> .bad)=_;rw[ec];show R.ok (Dt.int (eL (0::l)))=_;rw[qV _ λx hx=>(Pk.mp hx).elim (λe=>by rw[e];exact Int.le_refl _) (h x)];have:=iU l;rw[show fO (0::l)=max 0 (fO l) from rfl,show max 0 (fO l)=fO l by lia]
theorem oH {i:Nat} (hf:fs[i]?=some ⟨1,2,false,qe i⟩):∀{n:Nat} {N:Nat} {d:Mx.D},n + 1<=N->eM n d->(eh n d).length<=100000->aO fs N i [ofD d] none= .ok (.int (kY n d),none)
 | 0,N,d,_,h,_=>h.elim
 | n + 1,N,d,hN,⟨rs,e,h⟩,hB=>by
  subst e;have fm:lim=1000000:=rfl;rw[eh] at hB;have EN:=kz (n:=n) h;have IA:(rs.flatMap bV).length<=rs.length:=by
   have:=ff (f:=bV) (k:=1) (l:=rs) λx _=>by unfold bV gk;split <;> (try split) <;> simp
   lia
  refine aG hf (by lia) rfl ?_;rw[show ofD (.tup rs)= .tup (aa rs) by rw[ofD]];show fin (aR (aO fs (N - 1)) (qe i) [some (.tup (aa rs)),none] none)=_;refine az (d:= .lst (aa (rs.flatMap bV))) (S1:=none) (bK (ds:=aa rs) (S1:=none) (by simp only[RX]) (by rw[aj];lia) rfl ?_) rfl ?_
  ·rw[d7 (λm=>aa (bV m)) λm hm=>?_]
   ·simp only[a6];rw[fg]
   ·obtain⟨it,c,rfl,hi,_⟩:=h m hm;rcases hi with ⟨x,rfl⟩ | ⟨x,ps,rfl,_⟩
    ·exact turn_if (b:=false) (y:= .bg) (ρ1:=[none,some (ofD (cJ x)),some (.int c)]) (by simp[ofD,aa,bU,df,fT]) (by rw[i6];simp only[RX];rfl) λz=>by cases z
    ·have e:aa (bV (.tup [ofT x ps,.int c]))=[ofD (ofT x ps)]:=by simp[bV,gk,ofT,aa]
     rw[e];exact turn_if (b:=true) (ρ1:=[none,some (ofD (ofT x ps)),some (.int c)]) (by simp[ofD,aa,bU,df,fT]) (by rw[kh];simp only[RX];rfl) λ_=>⟨by simp only[RX],by simp[bx,gB]⟩
  ·show fin (aR (aO fs (N - 1)) _ [some (.tup (aa rs)),some (.lst (aa (rs.flatMap bV)))] none)=_;rw[kY,oY];have hT:=λt (ht:t∈rs.flatMap bV)=>Em h ht
   generalize rs.flatMap bV=ts at hT IA;cases hts:ts with
   | nil=>exact dy (S1:=none) rfl (aq rfl)
   | cons t0 ts0=>
    rw[<-hts];have iM:ts.isEmpty=false:=by rw[hts];rfl
    have Kj:(aa ts).isEmpty=false:=by rw[hts];simp[aa]
    refine bQ (S1:=none) (by simp only[RX,Kj];rfl) ?_;have hc:=wz (F:=aO fs (N - 1)) (ρ:=[some (.tup (aa rs)),some (.lst (aa ts))]) (S:=none) (S1:=none) (S2:=none) (ds:=aa ts) (cap:=[none,none,none]) (it:= .seq (.var 1)) (tg:= .nm 1) (cs:= .nil) (it2:= .seq (.idx (.var 1) (.con (.int 2)))) (tg2:= .nm 2) (cs2:= .nil) (e:= .call i (.cons (.var 2) .nil) []) (out:=(ts.flatMap λt=>(aF t).map (kY n)).map Dt.int) (by simp only[RX]) (by rw[aj];lia) rfl (by
     rw[d7 (λt=>((aF t).map (kY n)).map Dt.int) λt ht=>?_]
     ·rw[fg]
     ·obtain⟨x,ps,c,rfl,h1,h2,h3⟩:=hT t ht;exact HE (ρ1:=[none,some (ofD (ofT x ps)),none]) rfl (ds:=aa ps) (S1:=none) (by rw[kh];simp only[RX]) (by rw[aj,aj];have:ts.length * ps.length<=ts.length * 3:=Nat.mul_le_mul_left _ h1;lia) rfl (fL λp hp=>dg (ρ1:=[none,some (ofD (ofT x ps)),some (ofD p)]) rfl (by simp only[RX,oH hf (N:=N - 1) (by lia) (h2 p hp) (Pj (kl h3 hp) hB)]) (by simp[bx,gh])))
    have hm:=uQ (ts.flatMap λt=>(aF t).map (kY n)) λx hx=>by rw[List.mem_flatMap] at hx;obtain⟨t,_,hx⟩:=hx;obtain⟨p,_,rfl⟩:=PP.mp hx;exact wj _ _
    rw[iM];exact aq (by simp only[RX,hc,hm];rfl)
noncomputable def vF (i:Nat):Ts:=(.cons (.ifs (.cmp .Eq (.idx (.var 2) (.con (.int 0))) (.con (.str "of"))) (.cons (.app 1 (.bin .Add (.con (.int 1)) (.bi .maxL (.cons (.bin .Add (.lst (.cons (.con (.int 0)) .nil)) (.comp [none,none] (.seq (.idx (.var 2) (.con (.int 2)))) (.nm 1) .nil (.call i (.cons (.var 1) .nil) []))) .nil)))) .nil) .nil) .nil)
noncomputable def vE (i:Nat):Ts:=(.cons (.asgM 1 (.lst (.cons (.con (.int 0)) .nil))) (.cons (.fr (.tp [2,3]) (.seq (.var 0)) (vF i)) (.cons (.ret (.bi .maxL (.cons (.mvr 1) .nil))) .nil)))
theorem sv {i:Nat} (hf:fs[i]?=some ⟨1,4,false,vE i⟩):∀{n:Nat} {N:Nat} {d:Mx.D},n + 1<=N->eM n d->(eh n d).length<=100000->aO fs N i [ofD d] none= .ok (.int (kY n d),none)
 | 0,N,d,_,h,_=>h.elim
 | n + 1,N,d,hN,⟨rs,e,h⟩,hB=>by
  subst e;have fm:lim=1000000:=rfl;rw[eh] at hB;have EN:=kz (n:=n) h;refine aG hf (by lia) rfl ?_;rw[show ofD (.tup rs)= .tup (aa rs) by rw[ofD]];show fin (aR (aO fs (N - 1)) (vE i) [some (.tup (aa rs)),none,none,none] none)=_;have g:∀l:List Mx.D,∀x∈l.map λit=>1 + fO ((aF it).map (kY n)),0<=x:=λl x hx=>by
   obtain⟨t,_,rfl⟩:=PP.mp hx;have:=iU ((aF t).map (kY n))
   lia
  have loop:=fh (S:=none) (tg:= .tp [2,3]) (ds:=rs) (ρ:=[some (.tup (aa rs)),some (.lst [.int 0]),none,none]) (body:=aR (aO fs (N - 1)) (vF i))
   (λp ρ=>∃x y,ρ=[some (.tup (aa rs)),some (.lst (.int 0::((p.flatMap bV).map λit=>1 + fO ((aF it).map (kY n))).map Dt.int)),x,y]) ⟨none,none,by simp⟩ (by
    rintro p y q ρ e1 ⟨x2,x3,rfl⟩;have hy:y∈rs:=by rw[e1];simp
    obtain⟨it,c,rfl,hi,_⟩:=h y hy;have gz:p.length < rs.length:=by rw[e1];simp
    have IA:=ff (f:=bV) (k:=1) (l:=p) λx _=>by unfold bV gk;split <;> (try split) <;> simp
    generalize hacc:p.flatMap bV=acc at IA;refine⟨[some (.tup (aa rs)),some (.lst (.int 0::(acc.map λit=>1 + fO ((aF it).map (kY n))).map Dt.int)),some (ofD it),some (.int c)],[some (.tup (aa rs)),some (.lst (.int 0::((acc++gk it).map λit=>1 + fO ((aF it).map (kY n))).map Dt.int)),some (ofD it),some (.int c)],by simp[ofD,aa,bU,df],?_,some (ofD it),some (.int c),?_⟩
    ·rcases hi with ⟨x,rfl⟩ | ⟨x,ps,rfl,h1,h2⟩
     ·refine uW (S1:=none) (by rw[i6];simp only[RX];rfl) ?_;simp[gk,cJ,Ts.app,aR]
     ·have NC:=bK (F:=aO fs (N - 1)) (ρ:=[some (.tup (aa rs)),some (.lst (.int 0::(acc.map λit=>1 + fO ((aF it).map (kY n))).map Dt.int)),some (ofD (ofT x ps)),some (.int c)]) (S:=none) (S1:=none) (S2:=none) (cap:=[none,none]) (it:= .seq (.idx (.var 2) (.con (.int 2)))) (tg:= .nm 1) (cs:= .nil) (e:= .call i (.cons (.var 1) .nil) []) (ds:=aa ps) (by rw[kh];simp only[RX]) (by rw[aj];lia) rfl (fL (g:=kY n) λp hp=>dg (ρ1:=[none,some (ofD p)]) rfl (by simp only[RX,sv hf (N:=N - 1) (by lia) (h2 p hp) (Pj (kl hy hp) hB)]) (by simp[bx,gh]));have ca:=nv (a:=[.int 0]) (b:=(ps.map (kY n)).map Dt.int) (by simp;lia);have mL:=lT (ps.map (kY n)) λx hx=>by obtain⟨p,_,rfl⟩:=PP.mp hx;exact wj _ _
      refine xN (S1:=none) (by rw[kh];simp only[RX];rfl) (fv (ds:= .int 0::(acc.map λit=>1 + fO ((aF it).map (kY n))).map Dt.int) (d:= .int (1 + fO (ps.map (kY n)))) (S1:=none) rfl (by simp only[RX,NC,ca,List.cons_append,List.nil_append,mL]) (by simp[bx,gh]) (by simp;lia) ?_);simp[gk,ofT,aF,Ts.app,aR]
    ·rw[List.flatMap_append,hacc];simp[bV])
  obtain⟨ρ1,cv,x,y,rfl⟩:=loop;have mL:=lT _ (g (rs.flatMap bV));exact dN (d:= .lst [.int 0]) (S1:=none) rfl rfl (bW (ds:=aa rs) (S1:=none) (by simp only[RX]) rfl cv (aq (by simp only[RX,mL];rw[kY])))
variable {fs:List Fn}
theorem nr (its:List Mx.D):(uq none (aJ its)).Pairwise (λa b=>Mx.D.lt a b=true)/\∀x,x∈uq none (aJ its)↔x∈its:=by refine⟨(l9 (iC _) λ_ _ _ z=>by cases z).1,λx=>?_⟩;have hq:=yJ (x:=x) (a:=aJ its) (p:=none);simp only[reduceCtorEq,or_false] at hq;rw[hq,cA]
theorem B7 {x y:Str} (h:Mx.D.lt (cJ x) (cJ y)=true):Mx.D.lt (.str x) (.str y)=true:=by
 simp only[cJ,Mx.D.lt,Mx.D.c6,if_true] at h ⊢;split at h
 ·simp[Mx.D.eK] at h
 ·exact h
theorem o4 {Q:Mx.D->Prop}:∀{us:List Mx.D},(∀m∈us,eF Q m)->us.Pairwise (λa b=>Mx.D.lt a b=true)->((us.flatMap dF).map Mx.D.str).Pairwise (λa b=>Mx.D.lt a b=true)
 | [],_,_=>by simp
 | u::us,h,hp=>by
  rw[List.pairwise_cons] at hp;have ih:=o4 (λm hm=>h m (Pb _ hm)) hp.2;rcases h u Pe with ⟨x,rfl⟩ | ⟨x,ps,rfl,_⟩
  ·rw[List.flatMap_cons,show dF (cJ x)=[x] from rfl,List.singleton_append,P1,List.pairwise_cons];refine⟨λz hz=>?_,ih⟩;obtain⟨y,hy,rfl⟩:=PP.mp hz;rw[List.mem_flatMap] at hy;obtain⟨m,hm,hy⟩:=hy;rcases h m (Pb _ hm) with ⟨w,rfl⟩ | ⟨w,ps,rfl,_⟩
   ·have:y=w:=by simpa [dF,cJ] using hy
    subst this;exact B7 (hp.1 _ hm)
   ·simp[dF,ofT] at hy
  ·exact ih
theorem l7 {Q:Mx.D->Prop}:∀{us:List Mx.D},(∀m∈us,eF Q m)->(us.flatMap gk).Sublist us
 | [],_=>by simp
 | u::us,h=>by
  have ih:=l7 λm hm=>h m (Pb _ hm)
  rcases h u Pe with ⟨x,rfl⟩ | ⟨x,ps,rfl,_⟩
  ·exact ih.cons _
  ·exact ih.cons_cons _
theorem uV {Q:Mx.D->Prop} {its:List Mx.D} (h:∀m∈its,eF Q m):aJ ((dd (its.flatMap dF)).map Mx.D.str)=((uq none (aJ its)).flatMap dF).map Mx.D.str:=by
 obtain⟨h1,h2⟩:=nr its;refine gH (pF (List.pairwise_map.mpr (JB.imp λh e=>h (by cases e;rfl)))) (o4 (λm hm=>h m ((h2 m).mp hm)) h1) λx=>?_
 rw[cA,PP,PP];simp only[JA,List.mem_flatMap,h2]
theorem rE {Q:Mx.D->Prop} {its:List Mx.D} (h:∀m∈its,eF Q m):uq none (aJ (its.flatMap gk))=(uq none (aJ its)).flatMap gk:=by
 obtain⟨h1,h2⟩:=nr its;obtain⟨h3,h4⟩:=nr (its.flatMap gk);refine gH h3 (h1.sublist (l7 λm hm=>h m ((h2 m).mp hm))) λx=>?_
 rw[h4];simp only[List.mem_flatMap,h2]
variable {fs:List Fn}
noncomputable def qU (ps:List Mx.D):Mx.D:= .tup [.str "mix",.tup ps]
theorem tu (ps:List Mx.D):ofD (qU ps)= .tup [.str "mix",.tup (aa ps)]:=by simp[qU,ofD,aa]
noncomputable def om:Nat->Mx.D->Prop
 | 0,_=>False
 | n + 1,t=>(∃x,t=cJ x)\/(∃x ps,t=ofT x ps/\ps.length<=3/\∀p∈ps,om n p)\/∃ps,t=qU ps/\ps.length<=4/\∀p∈ps,om n p
noncomputable def nd:Nat->Nat
 | 0=>0
 | n + 1=>1 + 4 * nd n
noncomputable def sj (ix it:Nat):C:=(.comp [none,none,some 2,some 1,some 3,some 0,some 4] (.rng1 (.var 6)) (.nm 1) .nil (.call it (.cons (.var 5) (.cons (.call ix (.cons (.var 3) (.cons (.var 1) .nil)) []) (.cons (.bin .Sub (.var 2) (.con (.int 1))) (.cons (.var 4) (.cons (.var 6) .nil))))) []))
noncomputable def uk (ip:Nat) (j m:Int):C:=(.call ip (.cons (.var 0) (.cons (.bin .Add (.var 1) (.con (.int j))) (.cons (.con (.int m)) .nil))) [])
noncomputable def vL (ip ix it:Nat):Ts:=(.cons (.asg 5 (.call ip (.cons (.var 0) (.cons (.var 1) (.cons (.con (.int 9)) .nil))) [])) (.cons (.ifs (.or (.cmp .Eq (.var 2) (.con (.int 0))) (.cmp .Lt (.var 5) (.con (.int 2)))) (.cons (.ifs (.cmp .Eq (uk ip 1 2) (.con (.int 0))) (.cons (.ret (.tup (.cons (.con (.str "any")) (.cons (.idx (.var 3) (uk ip 2 3)) .nil)))) .nil) .nil) (.cons (.ret (.tup (.cons (.con (.str "of")) (.cons (.idx (.var 4) (uk ip 2 3)) (.cons (.tup .nil) .nil))))) .nil)) .nil) (.cons (.ifs (.cmp .Lt (.var 5) (.con (.int 5))) (.cons (.asg 6 (.bin .Add (.con (.int 1)) (uk ip 1 3))) (.cons (.asg 7 (sj ix it)) (.cons (.ret (.tup (.cons (.con (.str "of")) (.cons (.idx (.var 4) (uk ip 2 3)) (.cons (.bi .tuple (.cons (.var 7) .nil)) .nil))))) .nil))) .nil) (.cons (.asg 6 (uk ip 1 5)) (.cons (.ret (.tup (.cons (.con (.str "mix")) (.cons (.bi .tuple (.cons (sj ix it) .nil)) .nil)))) .nil)))))
theorem A9 {ip ix it:Nat} (hp:jn fs ip) (hx:fs[ix]?=some ⟨2,2,false,rY⟩) (hf:fs[it]?=some ⟨5,8,false,vL ip ix it⟩) {ns:List Int} {a b c a' b' c':Str}:
  ∀(deep:Nat) {N k:Nat},deep + 3<=N->k < 100000->∃t,aO fs N it [.bE ns,.int k,.int deep,.lst [.str a,.str b,.str c],.lst [.str a',.str b',.str c']] none= .ok (ofD t,none)/\om (deep + 1) t:=λdeep=>by
  induction deep using Nat.strongRecOn with | _ deep ih=>?_
  intro N k hN hk;have fm:lim=1000000:=rfl;generalize Iw:Dt.lst [.str a,.str b,.str c]=nm;generalize hsg:Dt.lst [.str a',.str b',.str c']=sg;have P:=λ(k many:Nat) (h1:k < 1000000) (h2:0 < many)=>nB hp (n:=N - 1) (by lia) (ns:=ns) h1 h2
  have q0:aO fs (N - 1) ip [.bE ns,.int k,.int 9] none=_:=P k 9 (by lia) (by decide);have K0:aO fs (N - 1) ip [.bE ns,.int ((k:Int) + 1),.int 2] none=_:=P (k + 1) 2 (by lia) (by decide);have MF:aO fs (N - 1) ip [.bE ns,.int ((k:Int) + 1),.int 3] none=_:=P (k + 1) 3 (by lia) (by decide);have MH:aO fs (N - 1) ip [.bE ns,.int ((k:Int) + 1),.int 5] none=_:=P (k + 1) 5 (by lia) (by decide);have q2:aO fs (N - 1) ip [.bE ns,.int ((k:Int) + 2),.int 3] none=_:=P (k + 2) 3 (by lia) (by decide);have l2:=dc (ns:=ns) (k:=k + 2) (many:=3) (by decide);have Of:=dc (ns:=ns) (k:=k + 1) (many:=3) (by decide);have Og:=dc (ns:=ns) (k:=k + 1) (many:=5) (by decide);generalize bT ns k 9=way at q0;generalize bT ns (k + 1) 2=IT at K0;generalize bT ns (k + 1) 3=v13 at MF Of;generalize bT ns (k + 1) 5=v15 at MH Og;generalize bT ns (k + 2) 3=v2 at q2 l2;obtain⟨IP,xj⟩:=pO (a:=a') (b:=b') (c:=c') l2;obtain⟨MD,vo⟩:=pO (a:=a) (b:=b) (c:=c) l2;rw[hsg] at xj;rw[Iw] at vo;have parts:∀(m:Nat) (y5 y7:Option Dt),m<=4->1<=deep->∃qs,ev (aO fs (N - 1)) (sj ix it) [some (.bE ns),some (.int k),some (.int deep),some nm,some sg,y5,some (.int m),y7] none= .ok (.lst (aa qs),none)/\qs.length=m/\∀q∈qs,om deep q:=by
   intro m y5 y7 hm hd;obtain⟨qs,k1,k2,k3⟩:=oE (f:=bp (.nm 1) (cq (aO fs (N - 1)) .nil) (dH (aO fs (N - 1)) (.call it (.cons (.var 5) (.cons (.call ix (.cons (.var 3) (.cons (.var 1) .nil)) []) (.cons (.bin .Sub (.var 2) (.con (.int 1))) (.cons (.var 4) (.cons (.var 6) .nil))))) [])) [none,none,some (.int deep),some (.int k),some nm,some (.bE ns),some sg]) (S:=none) (ds:=bO 0 m) (om deep) (by
    intro x qH;obtain⟨i,hi,rfl⟩:=AZ qH;have Om:=Av hx (n:=N - 1) (by lia) (k:=k) (j:=i);have OZ:=xI (k:=k) (j:=i);obtain⟨t,r1,r2⟩:=ih (deep - 1) (by lia) (N:=N - 1) (k:=lW k i) (by lia) (by lia);rw[Iw,hsg] at r1;refine⟨t,dg (ρ1:=[none,some (.int i),some (.int deep),some (.int k),some nm,some (.bE ns),some sg]) rfl ?_ (by simp[bx,gB]),by rw[show deep=deep - 1 + 1 by lia];exact r2⟩;have r3:aO fs (N - 1) it [.bE ns,.int (lW k i),.int ((deep:Int) - 1),nm,sg] none= .ok (ofD t,none):=by rw[show (deep:Int) - 1=((deep - 1:Nat):Int) by lia];exact r1
    simp only[RX,Om,r3])
   exact⟨qs,bK (ds:=bO 0 m) (S1:=none) (j5 (n:=m) (by simp only[RX]) (by lia)) (by simp[bO];lia) rfl k1,by rw[k2];simp[bO],k3⟩
  suffices hh:∃t,fin (aR (aO fs (N - 1)) (vL ip ix it) [some (.bE ns),some (.int k),some (.int deep),some nm,some sg,none,none,none] none)= .ok (ofD t,none)/\om (deep + 1) t by obtain⟨t,h1,h2⟩:=hh;exact⟨t,aG hf (by lia) rfl h1,h2⟩
  have EL:cN (aO fs (N - 1)) (.or (.cmp .Eq (.var 2) (.con (.int 0))) (.cmp .Lt (.var 5) (.con (.int 2)))) [some (.bE ns),some (.int k),some (.int deep),some nm,some sg,some (.int way),none,none] none= .ok (decide (deep=0\/way < 2),none):=by
   simp only[RX];by_cases h0:deep=0
   ·subst h0;rfl
   ·have e0:((deep:Int)==0)=false:=by simpa using h0
    rw[e0];by_cases h1:way < 2 <;> simp[h0,h1] <;> lia
  by_cases hlf:deep=0\/way < 2
  ·rw[PF hlf] at EL;by_cases EH:IT=0
   ·subst EH;exact⟨cJ MD,az (d:= .int way) (S1:=none) (by simp only[RX,q0]) rfl (dy (S1:=none) EL (dy (S1:=none) (by simp only[uk,RX,K0];rfl) (aq (by simp only[uk,RX,q2,vo];rw[i6])))),.inl ⟨MD,rfl⟩⟩
   ·have e0:((IT:Int)==0)=false:=by simpa using EH
    exact⟨ofT IP [],az (d:= .int way) (S1:=none) (by simp only[RX,q0]) rfl (dy (S1:=none) EL (bQ (S1:=none) (by simp only[uk,RX,K0,e0]) (aq (by simp only[uk,RX,q2,xj];rw[kh];rfl)))),.inr (.inl ⟨IP,[],rfl,by simp,by simp⟩)⟩
  ·rw[Py hlf] at EL;have hd:1<=deep:=by lia
   by_cases h5:(way:Int) < 5
   ·obtain⟨qs,p1,p2,p3⟩:=parts (1 + v13) (some (.int way)) none (by lia) hd;refine⟨ofT IP qs,az (d:= .int way) (S1:=none) (by simp only[RX,q0]) rfl (bQ (S1:=none) EL (dy (S1:=none) (by simp only[RX,PF h5]) (az (d:= .int (1 + v13)) (S1:=none) (by simp only[uk,RX,MF]) rfl (az (d:= .lst (aa qs)) (S1:=none) ?_ rfl (aq (by simp only[uk,RX,q2,xj];rw[kh])))))),.inr (.inl ⟨IP,qs,rfl,by lia,p3⟩)⟩;exact p1
   ·obtain⟨qs,p1,p2,p3⟩:=parts v15 (some (.int way)) none (by lia) hd;refine⟨qU qs,az (d:= .int way) (S1:=none) (by simp only[RX,q0]) rfl (bQ (S1:=none) EL (bQ (S1:=none) (by simp only[RX,Py h5]) (az (d:= .int v15) (S1:=none) (by simp only[uk,RX,MH]) rfl (aq (by simp only[RX];rw[show ev (aO fs (N - 1)) (sj ix it) ([some (.bE ns),some (.int k),some (.int deep),some nm,some sg,some (.int way),some (.int v15),none]) none=_ from p1];simp only[RX];rw[tu]))))),.inr (.inr ⟨qs,rfl,by lia,p3⟩)⟩
noncomputable def wI (g:Nat) (it:Mx.D):Nat:=1 + ((aF it).flatMap (eh g)).length
noncomputable def vG:Ts:=(.cons (.ifs (.and (.cmp .Gt (.bi .len (.cons (.mvr 1) .nil)) (.con (.int 0))) (.cmp .Eq (.idx (.idx (.mvr 1) (.neg (.con (.int 1)))) (.con (.int 0))) (.var 2))) (.cons (.yl 1 (.neg (.con (.int 1))) (.tup (.cons (.var 2) (.cons (.bin .Add (.idx (.idx (.mvr 1) (.neg (.con (.int 1)))) (.con (.int 1))) (.con (.int 1))) .nil)))) .nil) (.cons (.app 1 (.tup (.cons (.var 2) (.cons (.con (.int 1)) .nil)))) .nil)) .nil)
noncomputable def oA (ii:Nat):Ts:=(.cons (.asgM 1 (.lst .nil)) (.cons (.fr (.nm 2) (.seq (.bi .sorted (.cons (.call ii (.cons (.var 0) .nil) []) .nil))) vG) (.cons (.ret (.bi .tuple (.cons (.mvr 1) .nil))) .nil)))
theorem rf {g:Nat} {it c:Mx.D}:(dX (eh g) (.tup [it,c])).length=wI g it:=by
 rw[dX,Pq,wI]
 lia
theorem lJ {ii ig N:Nat} (hf:fs[ig]?=some ⟨1,3,false,oA ii⟩) (hN:1<=N) {d:Dt} {ms:List Mx.D} {g:Nat} (hg:g<=8) (hl:ms.length<=1000) (h:∀m∈ms,eF (eM g) m) (hi:aO fs (N - 1) ii [d] none= .ok (.lst (aa ms),none)):
  ∃rs,aO fs N ig [d] none= .ok (.tup (aa rs),none)/\(∀r∈rs,∃(it:Mx.D) (c:Int),r=Mx.D.tup [it,Mx.D.int c]/\eF (eM g) it/\(0:Int)<=c/\c<=1000)/\(rs.flatMap (dX (eh g))).length<=(ms.map (wI g)).sum:=by
 have fm:lim=1000000:=rfl;have hs:=(fI (vX hg (by lia) h)).1;have sQ:(aJ ms).length=ms.length:=(br ms).length_eq;have loop:=fh (S:=none) (tg:= .nm 2) (ds:=aJ ms) (ρ:=[some d,some (.lst []),none]) (body:=aR (aO fs (N - 1)) vG)
  (λp ρ=>∃rs x,(∀r∈rs,∃(it:Mx.D) (c:Int),r=Mx.D.tup [it,Mx.D.int c]/\eF (eM g) it/\(0:Int)<=c/\c<=p.length)/\rs.length<=p.length/\(rs.flatMap (dX (eh g))).length<=(p.map (wI g)).sum/\ρ=[some d,some (.lst (aa rs)),x]) ⟨[],none,by simp,by simp,by simp,by simp[aa]⟩ (by
   rintro p y q ρ e1 ⟨rs,x,hr,EN,hw,rfl⟩;have hy:eF (eM g) y:=h y (cA.mp (by rw[e1];simp));have gz:p.length < ms.length:=by rw[<-sQ,e1];simp
   have IC:∀r∈rs,∃(it:Mx.D) (c:Int),r=Mx.D.tup [it,Mx.D.int c]/\eF (eM g) it/\(0:Int)<=c/\c<=(p++[y]).length:=λr hm=>by obtain⟨it,c,e,h1,h2,h3⟩:=hr r hm;exact⟨it,c,e,h1,h2,by rw[Po];lia⟩
   have F2:∀{c:Int},0<=c->c<=(p++[y]).length->∃it c',Mx.D.tup [y,.int c]= .tup [it,.int c']/\eF (eM g) it/\0<=c'/\c'<=(p++[y]).length:=λ {c} h1 h2=>⟨y,c,rfl,hy,h1,h2⟩
   have FH:∀r∈rs++[Mx.D.tup [y,.int 1]],∃(it:Mx.D) (c:Int),r=Mx.D.tup [it,Mx.D.int c]/\eF (eM g) it/\(0:Int)<=c/\c<=(p++[y]).length:=λr hm=>by
    rcases Pv.mp hm with hm | hm
    ·exact IC r hm
    ·rw[PN] at hm;subst hm;exact F2 (by decide) (by rw[Po];simp;lia)
   have Mt:((rs++[Mx.D.tup [y,.int 1]]).flatMap (dX (eh g))).length<=((p++[y]).map (wI g)).sum:=by
    rw[List.flatMap_append,Po,P3,List.sum_append_nat,List.flatMap_singleton,rf,List.map_singleton,List.sum_singleton]
    lia
   have oP:(rs++[Mx.D.tup [y,.int 1]]).length<=(p++[y]).length:=by simp;lia
   rcases j7 rs with rfl | ⟨p6,r0,rfl⟩
   ·exact⟨[some d,some (.lst []),some (ofD y)],_,rfl,uW (S1:=none) rfl (fv (ds:=[]) (d:= .tup [ofD y,.int 1]) (S1:=none) rfl (by simp only[RX]) (by simp[bx,gh,fZ,gB]) (by simp) rfl),[.tup [y,.int 1]],some (ofD y),FH,oP,Mt,by simp[ofD,aa]⟩
   ·obtain⟨zg,c0,rfl,BA,NB,ON⟩:=hr r0 (by simp);have OP:=eX (n:=4 * g + 2) (λd hd=>oG hd) rfl BA;have hq:=zF (a:=zg) (b:=y) (by lia);have el:aa (p6++[.tup [zg,.int c0]])=aa p6++[.tup [ofD zg,.int c0]]:=by rw[aQ];simp[ofD,aa]
    have Mc:decide ((0:Int) < ((aa p6++[Dt.tup [ofD zg,.int c0]]).length:Nat))=true:=PF (by rw[Po];simp);rw[el];by_cases heq:zg=y
    ·rw[PF heq] at hq;have Ko:((aa p6++[Dt.tup [ofD zg,.int c0]]).set p6.length (.tup [ofD y,.int (c0 + 1)]))=aa (p6++[.tup [y,.int (c0 + 1)]]):=by rw[aQ,A4 (aa p6) _ _ (aj p6).symm];simp[ofD,aa]
     refine⟨[some d,some (.lst (aa p6++[.tup [ofD zg,.int c0]])),some (ofD y)],_,rfl,xN (S1:=none) (by simp only[RX,Mc,ft,hq,if_true]) (nx (zI (ds:=aa p6++[.tup [ofD zg,.int c0]]) (d:= .tup [ofD y,.int (c0 + 1)]) (S1:=none) (S2:=none) (n:= -1) (j:=p6.length) rfl (by simp only[RX,ft]) (by simp only[RX]) (by simp[bx,gh,fZ,gB]) (by rw[Po,aj];exact Ai)) rfl),p6++[.tup [y,.int (c0 + 1)]],some (ofD y),λr hm=>?_,by simp at EN ⊢;lia,?_,by rw[Ko];rfl⟩
     ·rcases Pv.mp hm with hm | hm
      ·exact IC r (by simp[hm])
      ·rw[PN] at hm;subst hm;exact F2 (by lia) (by rw[Po];simp;lia)
     ·subst heq;rw[List.flatMap_append,Po,List.flatMap_singleton,rf] at hw ⊢;rw[P3,List.sum_append_nat]
      lia
    ·rw[Py heq] at hq;exact⟨[some d,some (.lst (aa p6++[.tup [ofD zg,.int c0]])),some (ofD y)],_,rfl,uW (S1:=none) (by simp only[RX,Mc,ft,hq,if_true]) (fv (ds:=aa p6++[.tup [ofD zg,.int c0]]) (d:= .tup [ofD y,.int 1]) (S1:=none) rfl (by simp only[RX]) (by simp[bx,gh,fZ,gB]) (by rw[<-el,aj];lia) rfl),_,some (ofD y),FH,oP,Mt,by rw[aQ (p6++_),el];simp[ofD,aa]⟩)
 obtain⟨ρ1,cv,rs,x,h1,h2,h3,rfl⟩:=loop;have hp:((aJ ms).map (wI g)).sum=(ms.map (wI g)).sum:=((br ms).map _).sum_nat;refine⟨rs,aG hf hN rfl ?_,λr hm=>?_,by lia⟩
 ·show fin (aR (aO fs (N - 1)) (oA ii) [some d,none,none] none)=_;exact dN (d:= .lst []) (S1:=none) rfl rfl (bW (ds:=aa (aJ ms)) (S1:=none) (by simp only[RX,hi,hs]) rfl cv (aq (by simp only[RX])))
 ·obtain⟨it,c,e,k1,k2,k3⟩:=h1 r hm;exact⟨it,c,e,k1,k2,by lia⟩
noncomputable def fH (ii ig:Nat):Ts:=(.cons (.ifs (.cmp .Eq (.idx (.var 0) (.con (.int 0))) (.con (.str "any"))) (.cons (.ret (.lst (.cons (.var 0) .nil))) .nil) .nil) (.cons (.ifs (.cmp .Eq (.idx (.var 0) (.con (.int 0))) (.con (.str "of"))) (.cons (.ret (.lst (.cons (.tup (.cons (.con (.str "of")) (.cons (.idx (.var 0) (.con (.int 1))) (.cons (.bi .tuple (.cons (.comp [none,none] (.seq (.idx (.var 0) (.con (.int 2)))) (.nm 1) .nil (.call ig (.cons (.var 1) .nil) [])) .nil)) .nil)))) .nil))) .nil) .nil) (.cons (.asg 2 (.lst .nil)) (.cons (.fr (.nm 1) (.seq (.idx (.var 0) (.con (.int 1)))) (.cons (.asg 2 (.bin .Add (.var 2) (.call ii (.cons (.var 1) .nil) []))) .nil)) (.cons (.ret (.var 2)) .nil)))))
theorem xH:∀{n m:Nat},n<=m->nd n<=nd m
 | 0,m,_=>Nat.zero_le _
 | n + 1,0,h=>by lia
 | n + 1,m + 1,h=>by have:=xH (n:=n) (m:=m) (by lia);simp only[nd];lia
theorem kQ {g:Nat}:∀{ms:List Mx.D},ms.length<=(ms.map (wI g)).sum
 | []=>by simp
 | m::ms=>by
  have:=kQ (g:=g) (ms:=ms);rw[P1,List.sum_cons,Pq,wI]
  lia
theorem iZ {ii ig:Nat} (hi:fs[ii]?=some ⟨1,3,false,fH ii ig⟩) (hf:fs[ig]?=some ⟨1,3,false,oA ii⟩):
  ∀(n:Nat) {N g:Nat} {t:Mx.D},n<=4->2 * n + 2<=N->n<=g + 1->g<=8->om n t->∃ms,aO fs N ii [ofD t] none= .ok (.lst (aa ms),none)/\(∀m∈ms,eF (eM g) m)/\(ms.map (wI g)).sum<=nd n
 | 0,N,g,t,_,_,_,_,h=>h.elim
 | n + 1,N,g,t,hn,hN,Mk,hg,h=>by
  have fm:lim=1000000:=rfl;have eQ:nd n<=85:=Pj (xH (m:=4) (by lia)) (by decide);rcases h with ⟨x,rfl⟩ | ⟨x,ps,rfl,hl,hp⟩ | ⟨ps,rfl,hl,hp⟩
  ·refine⟨[cJ x],aG hi (by lia) rfl ?_,λm hm=>by rw[PN] at hm;subst hm;exact .inl ⟨x,rfl⟩,by simp[wI,cJ,aF,nd]⟩;rw[i6];show fin (aR (aO fs (N - 1)) (fH ii ig) [some (.tup [.str "any",.str x]),none,none] none)=_;exact dy (S1:=none) (by simp only[RX];rfl) (aq (by simp only[RX];rw[aa,i6];rfl))
  ·have ex:∃qs,bb (bp (.nm 1) (cq (aO fs (N - 1)) .nil) (dH (aO fs (N - 1)) (.call ig (.cons (.var 1) .nil) [])) [none,none]) (aa ps) none= .ok (aa qs,none)/\qs.length=ps.length/\(∀q∈qs,eM g q)/\(qs.flatMap (eh g)).length<=ps.length * nd n:=by
    clear hl
    induction ps with
    | nil=>exact⟨[],by simp[aa,bb],rfl,by simp,by simp⟩
    | cons p ps ihp=>
     obtain⟨qs,k1,k2,k3,k4⟩:=ihp λp lM=>hp p (Pb _ lM)
     have Mo:=hp p Pe;obtain⟨g',rfl⟩:∃g',g=g' + 1:=by
      cases g with
      | zero=>cases n with
       | zero=>exact Mo.elim
       | succ n=>lia
      | succ g'=>exact⟨g',rfl⟩
     obtain⟨ms,j1,j2,j3⟩:=iZ hi hf n (N:=N - 1 - 1) (g:=g') (by lia) (by lia) (by lia) (by lia) Mo;have Mi:=kQ (g:=g') (ms:=ms);obtain⟨rs,f1,f2,f3⟩:=lJ hf (N:=N - 1) (by lia) (d:=ofD p) (g:=g') (by lia) (by lia) j2 j1;refine⟨.tup rs::qs,?_,by simp[k2],λq hq=>?_,?_⟩
     ·have ht:bp (.nm 1) (cq (aO fs (N - 1)) .nil) (dH (aO fs (N - 1)) (.call ig (.cons (.var 1) .nil) [])) [none,none] (ofD p) none= .ok ([.tup (aa rs)],none):=dg (ρ1:=[none,some (ofD p)]) rfl (by simp only[RX,f1]) rfl;rw[aa,bb,ht,R.ai,k1,R.ai,aa,ofD];rfl
     ·rcases Pk.mp hq with rfl | hq
      ·refine⟨rs,rfl,λr hr=>?_⟩;obtain⟨it,c,e,z1,z2,z3⟩:=f2 r hr;exact⟨it,c,e,z1,by lia⟩
      ·exact k3 q hq
     ·rw[List.flatMap_cons,Po,Pq,Nat.succ_mul,eh]
      lia
   obtain⟨qs,k1,k2,k3,k4⟩:=ex;have h3:ps.length * nd n<=3 * nd n:=Nat.mul_le_mul_right _ hl;refine⟨[ofT x qs],aG hi (by lia) rfl ?_,λm hm=>by rw[PN] at hm;subst hm;exact .inr ⟨x,qs,rfl,by lia,k3⟩,?_⟩
   ·rw[kh];show fin (aR (aO fs (N - 1)) (fH ii ig) [some (.tup [.str "of",.str x,.tup (aa ps)]),none,none] none)=_;have hc:=bK (F:=aO fs (N - 1)) (ρ:=[some (.tup [.str "of",.str x,.tup (aa ps)]),none,none]) (S:=none) (S1:=none) (cap:=[none,none]) (it:= .seq (.idx (.var 0) (.con (.int 2)))) (tg:= .nm 1) (cs:= .nil) (ds:=aa ps) (by simp only[RX]) (by rw[aj];lia) rfl k1;exact bQ (S1:=none) (by simp only[RX];rfl) (dy (S1:=none) (by simp only[RX];rfl) (aq (by simp only[RX,hc];rw[aa,kh];rfl)))
   ·show (([ofT x qs].map (wI g)).sum<=nd (n + 1));simp only[List.map_singleton,List.sum_singleton,wI,nd];have:aF (ofT x qs)=qs:=rfl;rw[this]
    lia
  ·have loop:=fh (S:=none) (tg:= .nm 1) (ds:=ps) (ρ:=[some (ofD (qU ps)),none,some (.lst [])]) (body:=aR (aO fs (N - 1)) (.cons (.asg 2 (.bin .Add (.var 2) (.call ii (.cons (.var 1) .nil) []))) .nil))
    (λp ρ=>∃ms x,(∀m∈ms,eF (eM g) m)/\(ms.map (wI g)).sum<=p.length * nd n/\ρ=[some (ofD (qU ps)),x,some (.lst (aa ms))]) ⟨[],none,by simp,by simp,by simp[aa]⟩ (by
     rintro p y q ρ e1 ⟨ms,x,h1,h2,rfl⟩;obtain⟨IG,j1,j2,j3⟩:=iZ hi hf n (N:=N - 1) (g:=g) (by lia) (by lia) (by lia) hg (hp y (by rw[e1];simp));have gz:p.length + 1<=4:=by rw[e1] at hl;simp at hl;lia
     have Mi:=kQ (g:=g) (ms:=ms);have NO:=kQ (g:=g) (ms:=IG);have h4:p.length * nd n<=3 * nd n:=Nat.mul_le_mul_right _ (by lia);have ca:=nv (a:=aa ms) (b:=aa IG) (by rw[aj,aj];lia);rw[<-aQ] at ca;refine⟨_,_,rfl,fw (d:= .lst (aa (ms++IG))) (S1:=none) (by simp only[RX,j1,ca]) rfl rfl,ms++IG,some (ofD y),λm hm=>(Pv.mp hm).elim (h1 m) (j2 m),?_,rfl⟩;rw[P3,List.sum_append_nat,Po,List.length_singleton,Nat.succ_mul]
     lia)
   obtain⟨ρ1,cv,ms,x,h1,h2,rfl⟩:=loop;have h4:ps.length * nd n<=4 * nd n:=Nat.mul_le_mul_right _ hl;refine⟨ms,aG hi (by lia) rfl ?_,h1,by simp only[nd];lia⟩;show fin (aR (aO fs (N - 1)) (fH ii ig) [some (ofD (qU ps)),none,none] none)=_;exact bQ (S1:=none) (by rw[tu];simp only[RX];rfl) (bQ (S1:=none) (by rw[tu];simp only[RX];rfl) (az (d:= .lst []) (S1:=none) rfl rfl (bW (ds:=aa ps) (S1:=none) (by rw[tu];simp only[RX]) rfl cv (aq (by simp only[RX])))))
theorem yB {ii ig:Nat} (hi:fs[ii]?=some ⟨1,3,false,fH ii ig⟩) (hf:fs[ig]?=some ⟨1,3,false,oA ii⟩) {n N g:Nat} {t:Mx.D} (hn:n<=4) (hN:2 * n + 3<=N) (Mk:n<=g + 1) (hg:g<=8) (h:om n t):
  ∃rs,aO fs N ig [ofD t] none= .ok (.tup (aa rs),none)/\(∀r∈rs,∃(it:Mx.D) (c:Int),r=Mx.D.tup [it,Mx.D.int c]/\eF (eM g) it/\(0:Int)<=c/\c<=1000)/\(rs.flatMap (dX (eh g))).length<=85:=by
 obtain⟨ms,j1,j2,j3⟩:=iZ hi hf n (N:=N - 1) (g:=g) hn (by lia) Mk hg h;have eQ:nd n<=85:=Pj (xH (m:=4) (by lia)) (by decide);have Mi:=kQ (g:=g) (ms:=ms);obtain⟨rs,f1,f2,f3⟩:=lJ hf (N:=N) (by lia) (d:=ofD t) hg (by lia) j2 j1;exact⟨rs,f1,f2,by lia⟩
end Rx
end
section
namespace Rx
open PySem PySem.W PySem.Spec PyProof.Rows L2 PySem.SeqAt
theorem yj {fs:List Fn} {n k:Nat} {g:Fn} {args:List Dt} {S:Sx} (h:fs[k]?=some g):aO fs (n + 1) k args S=gi (aO fs n) g args S:=by show (match fs[k]? with | some g=>gi (aO fs n) g args S | none=>R.bad)=_;rw[h]
section
variable {g:G} {K:Frag} {mg:Str->Option Value} {P:Program} {w:World} {base:Heap} {fs:List Fn}
theorem qM {n L m:Nat} {params:Arguments} {body:List Stmt} {scope:Scope} {dV kV doc pm eN ct oc:Value} {an od:Option Addr} {tD:Array (Option Value)} {f:Addr} {N ps:List Str} {M:List Bool} {δ:Option Nat} {fF:Bool} {ts:Ts}
  {xv:Nat->Value} (hm:MG g mg) (Ad:XG g K mg xv) (ok:oj g K mg 0 g.fns fs) (lk:K.lookup f=some ⟨oc,od,.func (PySem.W.fnOf "law" "law" params body scope dV kV doc pm an eN ct),tD⟩) (y9:PySem.W.codeIn K eN "law"=true) (S:dZ N ps scope)
  (hM:∀i,i < ps.length->M[i]?≠some true) (hp:ps.length=1) (hc:Cj m g ⟨scope.names,N,M,δ⟩ false fF body=some ts) (hf:fs[L]?=some ⟨1,N.length,false,ts⟩)
  (hn:∀ns:List Int,ns.length<=63->∃S,aO fs (n + 1) L [.bE ns] none= .ok (.bl true,S)):
  iH P w K mg base (nX P w) (n + 1) f (PySem.W.fnOf "law" "law" params body scope dV kV doc pm an eN ct) ps (tT K):=by
 have h:=lI (xv:=xv) (P:=P) (w:=w) (base:=base) lk y9 S hm Ad (kr (P:=P) (w:=w) (base:=base) (xv:=xv) hm Ad ok n) hM (λz=>by cases z) hc;refine h.imp λvs H Q E q=>?_
 obtain⟨a,ns,rfl,hs,hl,hq⟩:=q;obtain⟨S',hS⟩:=hn ns hl;rw[yj hf] at hS;rw[hp];refine⟨rfl,N0,none,[.bE ns],none,[.ref a],⟨rfl,rfl,rfl⟩,ao.cons ?_ ao.nil,λb z=>z.elim,?_⟩
 ·unfold RV;refine⟨a,rfl,?_⟩;rcases hs with hs | hs
  ·exact .inl ⟨hs,λz=>z⟩
  ·exact .inr hs
 ·rw[hS];intro v H' fo;rw[fo.val.ay];exact hq H'
end
theorem walkR {l:PySem.W.OpenLaw} {q:Program} {k:Nat} {loose:List Str} {XP:(Str->Option Value)->Heap->Prop} {YP:World->Heap->Prop} {d:DefRec} {K:Params->PySem.W.Frag} (hn:l.most=some 63) (FN:d.params.defaults=[]) (hr:gM k callerA)
  (hY:∀(w:World) (h:Heap),YP w h->(K w.params).In h)
  (F:∀(w:World) (mg:Str->Option Value) (fa:Addr) (h:Heap),(K w.params).In h->h.Ns mainGlobals mg->mg d.name=some (.ref fa)->
   ∃fd:FuncData,(∀(s:Shared) (u:Value),BindsTo s fd ⟨[u],[]⟩ [("_law_script",u)])/\∀base:Heap,(K w.params).In base->base.Ns mainGlobals mg->iH l.prog w (K w.params) mg base (nX l.prog w) k fa fd ["_law_script"] (tT (K w.params))):
  PySem.W.WalkO q loose XP YP l.row.toRowW d [] (λf vs=>PySem.call f vs):=
 L2.Bh (n:=63) (k:=k) (x:="_law_script") (CX:=λw=>nX l.prog w) (sp:=λw=>tT (K w.params)) hn (by decide) FN hr hY F (λ_ _ a ns hl _ hS=>⟨a,ns,rfl,hS,hl,λ_=>rfl⟩) λ_ _ _ _ _ z=>by obtain⟨_,_,_,_,_,_,_,_,_,z⟩:=z;exact z
structure Row where
 nm:Str
 s:Stmt
 ps:List Str
 ms:List Str:=[]
 dr:Option Str:=none
 dp:Bool:=false
 eY:List Dt:=[]
namespace Row
noncomputable def N (r:Row):List Str:=Oi (bh r.s).names r.ps
noncomputable def gm (r:Row):Gm:=⟨(bh r.s).names,r.N,EU r.N r.ms,if r.dp then some 0 else r.dr.bind (BD · r.N)⟩
noncomputable def fn (g:G) (j:Nat) (r:Row):Option Fn:=(Cj 60 g r.gm r.dp (g.fr j) (gU r.s)).map λts=>⟨r.ps.length,r.N.length,r.dp,ts⟩
noncomputable def ent (r:Row):Str×Nat×List Dt×Bool:=(r.nm,r.ps.length,r.eY,r.dp)
noncomputable def ok (r:Row):Bool:=
 ((bh r.s).kind== .function)&& !(bh r.s).isCoroutine&& !(bh r.s).isGenerator&&decide r.N.Nodup&&decide (r.N.take r.ps.length=r.ps)&&
 (r.ps.all λx=>(bh r.s).names.lookup x==some .local||(bh r.s).names.lookup x==some .cell)&&((bh r.s).names.all λy=>y.2 != .free)&&
 ((EU r.N r.ms).take r.ps.length).all (λb=> !b)&&r.eY.all og
theorem scope {r:Row} (h:r.ok=true):dZ r.N r.ps (bh r.s)/\(∀i,i < r.ps.length->(EU r.N r.ms)[i]?≠some true)/\r.eY.all og=true:=by
 unfold ok at h;simp only[O7] at h;obtain⟨⟨⟨⟨⟨⟨⟨⟨h1,h2⟩,h3⟩,h4⟩,h5⟩,h6⟩,h7⟩,h8⟩,h9⟩:=h;refine⟨⟨Pw h1,by simpa using h2,by simpa using h3,O9 h4,O9 h5,λx hx=>?_,λy hy e=>?_⟩,Gx h8,h9⟩
 ·have:=PQ.mp h6 x hx;rcases Bool.or_eq_true_iff.mp this with z | z
  ·exact .inl (Pw z)
  ·exact .inr (Pw z)
 ·have:=PQ.mp h7 y hy;rw[e] at this;cases this
end Row
noncomputable def oM (g:G):Nat->List Row->Option (List Fn)
 | _,[]=>some []
 | j,r::rs=>(r.fn g j).bind λf=>(oM g (j + 1) rs).map (f:: ·)
noncomputable def Fd (K:Frag) (nm:Str) (s:Stmt) (ps:List Str) (eY:List Dt):Prop:=∃(fa:Addr) (oc dV kV doc pm eN ct:Value) (od an:Option Addr) (tD:Array (Option Value)),
 nsIn K mainGlobals nm=some (some (.ref fa))/\K.lookup fa=some ⟨oc,od,.func (fnOf nm nm (mH s) (gU s) (bh s) dV kV doc pm an eN ct),tD⟩/\codeIn K eN nm=true/\keepIn K (.ref fa)=true/\(eY=[]->dV= .none)/\
 ∀j,j<=eY.length->∃ds,ar ((eY.drop j).map p7) ds/\Binds K (fnOf nm nm (mH s) (gU s) (bh s) dV kV doc pm an eN ct) ps ds
noncomputable def HS (K:Frag):List Row->Prop
 | []=>True
 | r::rs=>Fd K r.nm r.s r.ps r.eY/\HS K rs
section
variable {g:G} {K:Frag} {mg:Str->Option Value} {h:Heap} {fs:List Fn}
theorem wG (X:K.In h) (Gs:h.Ns mainGlobals mg):∀{rs:List Row} {i:Nat} {fs:List Fn},rs.all Row.ok=true->oM g i rs=some fs->HS K rs->oj g K mg i (rs.map Row.ent) fs
 | [],i,fs,_,e,_=>by cases e;trivial
 | r::rs,i,fs,hk,e,F=>by rw[List.all_cons,O7] at hk;obtain⟨f,e1,e⟩:=O4.mp e;obtain⟨JM,e2,rfl⟩:=Pn.mp e;obtain⟨ts,c1,rfl⟩:=Pn.mp e1;obtain⟨⟨fa,oc,dV,kV,doc,pm,eN,ct,od,an,tD,a,l,c,k,_,b⟩,F⟩:=F;obtain⟨s1,s2,s3⟩:=Row.scope hk.1;exact⟨⟨fa,r.ps,r.N,_,_,60,oc,od,an,tD,_,_,_,dV,kV,doc,pm,eN,ct,l,c,k,mg_of X Gs a,s1,s2,λz=>if_pos z,rfl,c1,rfl,rfl,rfl,b,s3⟩,wG X Gs hk.2 e2 F⟩
theorem Cw {rs:List Row}:∀{L i:Nat} {fs:List Fn} {r:Row},oM g i rs=some fs->rs[L]?=some r->∃ts,Cj 60 g r.gm r.dp (g.fr (i + L)) (gU r.s)=some ts/\fs[L]?=some ⟨r.ps.length,r.N.length,r.dp,ts⟩:=by
 induction rs with
 | nil=>intro L i fs r _ e;simp at e
 | cons r0 rs ih=>
  intro L i fs r e hr;obtain⟨f,e1,e⟩:=O4.mp e;obtain⟨JM,e2,rfl⟩:=Pn.mp e;cases L with
  | zero=>cases hr;obtain⟨ts,c1,rfl⟩:=Pn.mp e1;exact⟨ts,c1,rfl⟩
  | succ L=>obtain⟨ts,c1,c2⟩:=ih e2 (by simpa using hr);exact⟨ts,by rw[show i + (L + 1)=i + 1 + L by lia];exact c1,by simpa using c2⟩
theorem wB:∀{rs:List Row} {L:Nat} {r:Row},HS K rs->rs[L]?=some r->Fd K r.nm r.s r.ps r.eY
 | [],L,r,_,e=>by simp at e
 | r0::rs,0,r,F,e=>by cases e;exact F.1
 | r0::rs,L + 1,r,F,e=>wB F.2 (by simpa using e)
noncomputable def Jj (K:Frag):List Str->Prop
 | []=>True
 | x::xs=>nsIn K mainGlobals x=some none/\Jj K xs
noncomputable def Jd (K:Frag):List (Str×Dt)->Prop
 | []=>True
 | x::xs=>(∃u,nsIn K mainGlobals x.1=some (some u)/\og x.2=true/\RelV (p7 x.2) u)/\Jd K xs
theorem xK {x:Str}:∀{xs:List Str},Jj K xs->x∈xs->nsIn K mainGlobals x=some none
 | y::xs,h,hx=>by
  rcases Pk.mp hx with rfl | hx
  ·exact h.1
  ·exact xK h.2 hx
theorem we {x:Str} {d:Dt}:∀{xs:List (Str×Dt)},Jd K xs->xs.lookup x=some d->∃u,nsIn K mainGlobals x=some (some u)/\og d=true/\RelV (p7 d) u
 | [],_,e=>by simp at e
 | y::xs,h,e=>by
  rw[Pz] at e;split at e
  ·rename_i q;cases e;rw[Pw q];exact h.1
  ·exact we h.2 e
noncomputable def Jq (K:Frag) (C:Addr):List (Str×Bool)->Prop
 | []=>True
 | x::xs=>(∃c,(nsIn K mainGlobals x.1=some (some c)/\(∃D,c= .ref D)\/nsIn K mainGlobals x.1=some none/\x.1="ValueError"/\c= .type "ValueError")/\kitOne K (.ref C) c=some x.2/\(x.2=true->exmOne K (.ref C) c=some true))/\Jq K C xs
noncomputable def Jp (K:Frag):List (Str×List (Str×Bool))->Prop
 | []=>True
 | x::xs=>(∃C,nsIn K mainGlobals x.1=some (some (.ref C))/\excIn K C Fg "ValueError.__new__"=true/\E9 K C/\Jq K C x.2)/\Jp K xs
theorem yT (X:K.In h) (Gs:h.Ns mainGlobals mg) {C:Addr} {t:Str} {b:Bool}:∀{xs:List (Str×Bool)},Jq K C xs->xs.lookup t=some b->∃c,(mg t=some c/\(∃D,c= .ref D)\/mg t=none/\t="ValueError"/\c= .type "ValueError")/\kitOne K (.ref C) c=some b/\(b=true->exmOne K (.ref C) c=some true)
 | [],_,e=>by simp at e
 | y::xs,hx,e=>by
  rw[Pz] at e;split at e
  ·rename_i q;cases e;rw[Pw q];obtain⟨c,h1,h2⟩:=hx.1;exact⟨c,h1.imp (λz=>⟨mg_of X Gs z.1,z.2⟩) λz=>⟨mg_none_of X Gs z.1,z.2⟩,h2⟩
  ·exact yT X Gs hx.2 e
noncomputable def HR (g:G) (mg:Str->Option Value) (k:Nat):Value:=((g.xs[k]?).bind λx=>mg x.1).getD .none
theorem yQ (X:K.In h) (Gs:h.Ns mainGlobals mg):∀{xs:List (Str×List (Str×Bool))} {k:Nat} {x:Str} {ts:List (Str×Bool)},Jp K xs->xs[k]?=some (x,ts)->∃C,mg x=some (.ref C)/\Jo K mg C ts
 | [],k,x,ts,_,e=>by simp at e
 | y::xs,0,x,ts,hx,e=>by cases e;obtain⟨C,h1,h2,h3,h4⟩:=hx.1;exact⟨C,mg_of X Gs h1,h2,h3,λt b q=>yT X Gs h4 q⟩
 | y::xs,k + 1,x,ts,hx,e=>yQ X Gs hx.2 (by simpa using e)
theorem law_mk {l:OpenLaw} {w:World} {fa:Addr} {rs:List Row} {cons:List (Str×Dt)} {bls:List Str} {fr:Nat->Bool} {xs:List (Str×List (Str×Bool))} {L n:Nat} {sL:Stmt} {ms:List Str} {dr:Option Str} (X:K.In h) (Gs:h.Ns mainGlobals mg) (NI:mg "law"=some (.ref fa))
  (hL:rs[L]?=some ⟨"law",sL,["_law_script"],ms,dr,false,[]⟩) (hk:rs.all Row.ok=true) (hfs:oM ⟨rs.map Row.ent,cons,bls,fr,xs⟩ 0 rs=some fs)
  (hb:∀(s:Shared) (v:Value) (kV doc pm eN ct:Value) (an:Option Addr),BindsTo s (fnOf "law" "law" (mH sL) (gU sL) (bh sL) .none kV doc pm an eN ct) ⟨[v],[]⟩ [("_law_script",v)])
  (hn:∀ns:List Int,ns.length<=63->∃S,aO fs (n + 1) L [.bE ns] none= .ok (.bl true,S)) (B:Jj K bls) (C:Jd K cons) (F:HS K rs) (E:Jp K xs):
  ∃fd:FuncData,(∀(s:Shared) (v:Value),BindsTo s fd ⟨[v],[]⟩ [("_law_script",v)])/\∀base:Heap,K.In base->base.Ns mainGlobals mg->iH l.prog w K mg base (nX l.prog w) (n + 1) fa fd ["_law_script"] (tT K):=by
 have Ad:XG ⟨rs.map Row.ent,cons,bls,fr,xs⟩ K mg (HR ⟨rs.map Row.ent,cons,bls,fr,xs⟩ mg):=λk x ts e=>by obtain⟨C,h1,h2⟩:=yQ X Gs E e;have e:xs[k]?=some (x,ts):=e;exact⟨C,by simp[HR,e,h1],h1,h2⟩
 have hm:MG ⟨rs.map Row.ent,cons,bls,fr,xs⟩ mg:=⟨λx d hx=>by
   obtain⟨u,k1,k2,k3⟩:=we C hx;exact⟨u,k2,mg_of X Gs k1,k3⟩,λx hx=>mg_none_of X Gs (xK B hx)⟩
 have ok:=wG (g:=⟨rs.map Row.ent,cons,bls,fr,xs⟩) X Gs hk hfs F;obtain⟨OL,oc,dV,kV,doc,pm,eN,ct,od,an,tD,a,lk,c,k,hd,b⟩:=wB F hL;cases hd rfl;have e:=NI.symm.trans (mg_of X Gs a);cases e;obtain⟨ts,c1,c2⟩:=Cw hfs hL;have hok:=Row.scope (PQ.mp hk _ (List.mem_iff_getElem?.mpr ⟨L,hL⟩));exact⟨_,λs v=>hb s v kV doc pm eN ct an,λbase _ _=>qM hm Ad ok lk c hok.1 hok.2.1 rfl c1 c2 hn⟩
end
end Rx
end
section
namespace K03
open PySem PySem.W PySem.Spec PyProof.Rows L2 Mx Rx
noncomputable def top (i:Nat):Stmt:=PySem.Challenge.pw_mixform_k03_measures.main.body.getD i (.Pass ⟨0,0,0,0⟩)
noncomputable abbrev rows:List Rx.Row:=[⟨"parts_of",top 1,["item"],[],none,false,[]⟩,
 ⟨"size",top 3,["form"],[],none,false,[]⟩,
 ⟨"spread",top 4,["form"],[],none,false,[]⟩,
 ⟨"depth",top 5,["form"],[],none,false,[]⟩,
 ⟨"items_within",top 6,["form"],["found"],none,false,[]⟩,
 ⟨"unknowns",top 7,["form"],[],none,false,[]⟩,
 ⟨"things_among",top 8,["items"],[],none,false,[]⟩,
 ⟨"things",top 9,["form"],[],none,false,[]⟩,
 ⟨"_law_cell",top 11,["_law_script","_law_k"],[],none,false,[]⟩,
 ⟨"_law_pick",top 12,["_law_script","_law_k","_law_many"],[],none,false,[]⟩,
 ⟨"_law_names",top 13,["_law_script","_law_k","_law_letters"],["_law_names_here"],none,false,[]⟩,
 ⟨"_law_unknowns",top 14,["_law_script","_law_k"],[],none,false,[]⟩,
 ⟨"_law_signs",top 15,["_law_script","_law_k"],[],none,false,[]⟩,
 ⟨"_law_next",top 16,["_law_k","_law_j"],[],none,false,[]⟩,
 ⟨"_law_term",top 17,["_law_script","_law_k","_law_deep_here","_law_names_here","_law_signs_here"],[],none,false,[]⟩,
 ⟨"_law_items",top 18,["_law_term_here"],[],none,false,[]⟩,
 ⟨"_law_form",top 19,["_law_term_here"],["_law_found"],none,false,[]⟩,
 ⟨"_law_same",top 20,["_law_found","_law_due"],[],none,false,[]⟩,
 ⟨"_law_within",top 21,["_law_item"],[],none,false,[]⟩,
 ⟨"_law_sized",top 22,["_law_form_here","_law_plain"],[],none,false,[]⟩,
 ⟨"_law_deep",top 23,["_law_form_here"],["_law_found"],none,false,[]⟩,
 ⟨"_law_all",top 24,["_law_form_here"],["_law_found"],none,false,[]⟩,
 ⟨"_law_once",top 25,["_law_rows"],["_law_found"],none,false,[]⟩,
 ⟨"_law_told",top 26,["_law_form_here"],[],none,false,[]⟩,
 ⟨"law",top 27,["_law_script"],[],none,false,[]⟩]
noncomputable abbrev cons:List (Str×Dt):=[]
noncomputable abbrev bls:List Str:=["bool","enumerate","int","isinstance","len","list","max","range","set","sorted","str","sum","tuple","zip"]
noncomputable abbrev fr (i:Nat):Bool:=[false,false,false,false,true,false,false,false,false,true,true,true,true,true,false,false,false,false,false,false,false,true,true,false,false].getD i false
noncomputable abbrev xs:List (Str×List (Str×Bool)):=[]
noncomputable def b7:Ts:=(.cons (.ret (.call 6 (.cons (.call 4 (.cons (.var 0) .nil) []) .nil) [])) .nil)
noncomputable def Jt:Ts:=(.cons (.ret (.call 10 (.cons (.var 0) (.cons (.var 1) (.cons (.con (.str "abcdefghijklmnopqrstuvwxyz")) .nil))) [])) .nil)
noncomputable def Ju:Ts:=(.cons (.ret (.call 10 (.cons (.var 0) (.cons (.var 1) (.cons (.con (.str "ABCDEFGHIJKLMNOPQRSTUVWXYZ")) .nil))) [])) .nil)
noncomputable def Jv:Ts:=(.cons (.ifs (.or (.nt (.call 17 (.cons (.call 1 (.cons (.var 0) .nil) []) (.cons (.call 19 (.cons (.var 0) (.cons (.con (.bl false)) .nil)) []) .nil)) [])) (.nt (.call 17 (.cons (.call 2 (.cons (.var 0) .nil) []) (.cons (.call 19 (.cons (.var 0) (.cons (.con (.bl true)) .nil)) []) .nil)) []))) (.cons (.ret (.con (.bl false))) .nil) .nil) (.cons (.asg 1 (.call 22 (.cons (.call 21 (.cons (.var 0) .nil) []) .nil) [])) (.cons (.asg 2 (.bi .tuple (.cons (.comp [none,none] (.seq (.var 1)) (.nm 1) (.cons (.cmp .Eq (.idx (.var 1) (.con (.int 0))) (.con (.str "any"))) .nil) (.idx (.var 1) (.con (.int 1)))) .nil))) (.cons (.ifs (.or (.nt (.call 17 (.cons (.call 5 (.cons (.var 0) .nil) []) (.cons (.var 2) .nil)) [])) (.nt (.call 17 (.cons (.call 3 (.cons (.var 0) .nil) []) (.cons (.call 20 (.cons (.var 0) .nil) []) .nil)) []))) (.cons (.ret (.con (.bl false))) .nil) .nil) (.cons (.ret (.call 17 (.cons (.call 7 (.cons (.var 0) .nil) []) (.cons (.bi .tuple (.cons (.comp [none,none] (.seq (.var 1)) (.nm 1) (.cons (.cmp .Eq (.idx (.var 1) (.con (.int 0))) (.con (.str "of"))) .nil) (.var 1)) .nil)) .nil)) [])) .nil)))))
noncomputable def Jw:Ts:=(.cons (.asg 1 (.call 11 (.cons (.var 0) (.cons (.con (.int 0)) .nil)) [])) (.cons (.asg 2 (.call 12 (.cons (.var 0) (.cons (.con (.int 7)) .nil)) [])) (.cons (.asg 3 (.call 16 (.cons (.call 14 (.cons (.var 0) (.cons (.con (.int 20)) (.cons (.con (.int 3)) (.cons (.var 1) (.cons (.var 2) .nil))))) []) .nil) [])) (.cons (.asg 4 (.bin .Add (.con (.int 1)) (.bin .Mod (.call 8 (.cons (.var 0) (.cons (.con (.int 1)) .nil)) []) (.bin .Pow (.con (.int 10)) (.con (.int 15)))))) (.cons (.asg 3 (.bi .tuple (.cons (.comp [none,none,none,some 4] (.seq (.var 3)) (.tp [1,2]) .nil (.tup (.cons (.var 1) (.cons (.bin .Mult (.var 3) (.var 2)) .nil)))) .nil))) (.cons (.ifs (.cmp .Eq (.call 9 (.cons (.var 0) (.cons (.con (.int 2)) (.cons (.con (.int 2)) .nil))) []) (.con (.int 0))) (.cons (.asg 3 (.bi .tuple (.cons (.bi .sorted (.cons (.lst (.cons (.tup (.cons (.tup (.cons (.con (.str "of")) (.cons (.idx (.var 2) (.con (.int 0))) (.cons (.tup (.cons (.var 3) (.cons (.tup .nil) .nil))) .nil)))) (.cons (.var 4) .nil))) (.cons (.tup (.cons (.tup (.cons (.con (.str "any")) (.cons (.idx (.var 1) (.con (.int 1))) .nil))) (.cons (.con (.int 2)) .nil))) .nil))) .nil)) .nil))) .nil) .nil) (.cons (.ret (.and (.call 23 (.cons (.var 3) .nil) []) (.and (.call 23 (.cons (.tup .nil) .nil) []) (.call 23 (.cons (.sliH (.var 3) (.con (.int 1))) .nil) [])))) .nil)))))))
noncomputable def fs:List Fn:=[⟨1,1,false,eV⟩,⟨1,1,false,Ic (vT 0 1)⟩,⟨1,1,false,Ic (mw 0 2)⟩,⟨1,2,false,qe 3⟩,⟨1,5,false,jq 0 (.cons (.xtd 1 (.call 4 (.cons (.var 4) .nil) [])) .nil)⟩,⟨1,2,false,Ca 4⟩,⟨1,2,false,mv⟩,⟨1,1,false,b7⟩,⟨2,3,false,oz⟩,⟨3,4,false,vK 8⟩,⟨3,9,false,qf 9⟩,⟨2,2,false,Jt⟩,⟨2,2,false,Ju⟩,⟨2,2,false,rY⟩,⟨5,8,false,vL 9 13 14⟩,⟨1,3,false,fH 15 16⟩,⟨1,3,false,oA 15⟩,⟨2,4,false,oB 17⟩,⟨1,1,false,eV⟩,⟨2,7,false,qg 18 19⟩,⟨1,4,false,vE 20⟩,⟨1,5,false,jq 18 (.cons (.asgM 1 (.bin .Add (.mvr 1) (.call 21 (.cons (.var 4) .nil) []))) .nil)⟩,⟨1,3,false,vI⟩,⟨1,3,false,Jv⟩,⟨1,5,false,Jw⟩]
theorem hok:rows.all Rx.Row.ok=true:=by decide +kernel
theorem hfs:oM ⟨rows.map Rx.Row.ent,cons,bls,fr,xs⟩ 0 rows=some fs:=by kernel_rfl
theorem sM:jn fs 9:=⟨8,rfl,rfl⟩
theorem tm (n:Nat) (hn:4<=n) (ns:List Int) (k:Nat) (hk:k < 1000):(∃a b c,aO fs n 11 [.bE ns,.int k] none= .ok (.lst [.str a,.str b,.str c],none))/\∃a b c,aO fs n 12 [.bE ns,.int k] none= .ok (.lst [.str a,.str b,.str c],none):=by
 obtain⟨a,b,c,h1,_⟩:=oZ (fs:=fs) sM (im:=10) rfl (n:=n - 1) (by lia) (ns:=ns) (k:=k) (L:="abcdefghijklmnopqrstuvwxyz") (by lia) rfl (by decide);obtain⟨a',b',c',h2,_⟩:=oZ (fs:=fs) sM (im:=10) rfl (n:=n - 1) (by lia) (ns:=ns) (k:=k) (L:="ABCDEFGHIJKLMNOPQRSTUVWXYZ") (by lia) rfl (by decide);refine⟨⟨a,b,c,aG (body:=Jt) rfl (by lia) rfl ?_⟩,⟨a',b',c',aG (body:=Ju) rfl (by lia) rfl ?_⟩⟩
 ·show fin (aR (aO fs (n - 1)) Jt [some (.bE ns),some (.int k)] none)=_;exact aq (by simp only[RX,h1])
 ·show fin (aR (aO fs (n - 1)) Ju [some (.bE ns),some (.int k)] none)=_;exact aq (by simp only[RX,h2])
theorem BP (l:List Mx.D) (h:∀d∈l,Mx.D.dep d<=40):aO fs 58 17 [.tup (aa l),.tup (aa l)] none= .ok (.bl true,none):=
 nF (fs:=fs) (is:=17) rfl 58 (.tup (aa l)) (by simp[sm,rj]) (by have:=d8 h;simp only[dp,mK];lia)
theorem Hh (i:Int):aO fs 58 17 [.int i,.int i] none= .ok (.bl true,none):=
 nF (fs:=fs) (is:=17) rfl 58 (.int i) rfl (by simp[dp])
theorem Ba {d:Mx.D} {n:Nat} (hn:n<=5) (h:eM (n + 1) d) (hl:(eh (n + 1) d).length<=1000):aO fs 59 23 [ofD d] none= .ok (.bl true,none):=by
 have fm:lim=1000000:=rfl;have v1:=nG (fs:=fs) (ip:=0) (is:=1) (pl:=false) rfl rfl (N:=58) (by lia) h (by lia);have v2:=nG (fs:=fs) (ip:=0) (is:=2) (pl:=true) rfl rfl (N:=58) (by lia) h (by lia);have LJ:=kA (fs:=fs) (iw:=18) (is:=19) (pl:=false) rfl rfl (N:=58) (by lia) h;have LK:=kA (fs:=fs) (iw:=18) (is:=19) (pl:=true) rfl rfl (N:=58) (by lia) h;have v3:=oH (fs:=fs) (i:=3) rfl (N:=58) (by lia) h (by lia);have v20:=sv (fs:=fs) (i:=20) rfl (N:=58) (by lia) h (by lia);have v4:=λN (hN:10<=N)=>iP (fs:=fs) (ip:=0) (ii:=4) rfl rfl (λ {N d0 d2 d3 acc ds p} hs hl=>by
  refine(Dl (ds:=aa acc) (es:=aa ds) (S1:=none) rfl (by simp only[RX,hs]) (Nat.le_of_ble_eq_true rfl) (by rw[aj,aj];lia) rfl).trans ?_;rw[aQ];rfl) (N:=N) (by lia) h (by lia)
 have OB:=iP (fs:=fs) (ip:=18) (ii:=21) rfl rfl (λ {N d0 d2 d3 acc ds p} hs hl=>by
  have ca:=nv (a:=aa acc) (b:=aa ds) (by rw[aj,aj];lia);refine(Ax (d:= .lst (aa acc++aa ds)) (S1:=none) (by simp only[RX,hs,ca]) rfl rfl).trans ?_;rw[aQ];rfl) (N:=58) (by lia) h (by lia)
 have hI:∀m∈eh (n + 1) d,eF (eM n) m:=λm hm=>xq h hm
 have v5:=Bg (fs:=fs) (iu:=5) (ii:=4) rfl (N:=58) (by decide) hI (by lia) (v4 57 (by decide));generalize hits:eh (n + 1) d=its at *;have hT:∀m∈its.flatMap gk,eF (eM n) m:=λm hm=>hI m (kL hI hm).1
 have IA:=kK (its:=its);have zU:∀m,eF (eM n) m->Mx.D.dep m<=30:=λm hm=>by
  have:=eX (n:=4 * n + 2) (λd hd=>oG hd) rfl hm
  lia
 have v6:=rD (fs:=fs) (it:=6) rfl (N:=57) (by decide) (by lia) hI (vX (by lia) (by lia) hT) λm hm=>by have:=zU m (hT m hm);lia
 have v7:aO fs 58 7 [ofD d] none= .ok (.tup (aa (uq none (aJ (its.flatMap gk)))),none):=by refine aG (body:=b7) rfl (by decide) rfl ?_;show fin (aR (aO fs 57) b7 [some (ofD d)] none)=_;exact aq (by simp only[RX,v4 57 (by decide),v6])
 have OC:=Az (fs:=fs) (io:=22) rfl (N:=58) (by decide) (ms:=its) (vX (by lia) (by lia) hI) (by lia) λm hm=>by have:=zU m (hI m hm);lia
 rw[uV hI] at v5;rw[rE hI] at v7;obtain⟨o1,o2⟩:=nr its;have hU:∀m∈uq none (aJ its),eF (eM n) m:=λm hm=>hI m ((o2 m).mp hm)
 have N6:(uq none (aJ its)).length<=its.length:=Pj rM (by rw[(br its).length_eq];exact Pd _);generalize uq none (aJ its)=us at *;have s0:=Hh;have s1:=BP ((us.flatMap dF).map Mx.D.str) λm hm=>by obtain⟨y,_,rfl⟩:=PP.mp hm;simp[Mx.D.dep]
 have s2:=BP (us.flatMap gk) λm hm=>by have:=zU m (hU m (kL hU hm).1);lia
 refine aG (body:=Jv) rfl (by decide) rfl ?_;show fin (aR (aO fs 58) Jv [some (ofD d),none,none] none)=_;have c1:=bK (F:=aO fs 58) (ρ:=[some (ofD d),some (.lst (aa us)),none]) (S:=none) (S1:=none) (cap:=[none,none]) (it:= .seq (.var 1)) (ds:=aa us) (by simp only[RX]) (by rw[aj];lia) rfl (jQ hU);have c2:=bK (F:=aO fs 58) (ρ:=[some (ofD d),some (.lst (aa us)),some (.tup (aa ((us.flatMap dF).map Mx.D.str)))]) (S:=none) (S1:=none) (cap:=[none,none]) (it:= .seq (.var 1)) (ds:=aa us) (by simp only[RX]) (by rw[aj];lia) rfl (i9 hU);refine bQ (S1:=none) (by simp only[RX,v1,v2,LJ,LK,s0,Bool.not_true,Bool.false_eq_true,if_false]) (az (d:= .lst (aa us)) (S1:=none) (by simp only[RX,OB,OC]) rfl (az (d:= .tup (aa ((us.flatMap dF).map Mx.D.str))) (S1:=none) (Bm c1 rfl) rfl (bQ (S1:=none) (by simp only[RX,v5,s1,v3,v20,s0,Bool.not_true,Bool.false_eq_true,if_false]) (aq ?_))));simp only[RX,v7,c2,s2]
noncomputable def EV (k:Int):Mx.D->Mx.D
 | .tup [it,.int c]=> .tup [it,.int (k * c)]
 | d=>d
theorem HD:pe .Pow (.int 10) (.int 15)= .ok (.int 1000000000000000):=rfl
theorem l8 {rs:List Mx.D} {n:Nat} (hn:n<=5) (h:∀r∈rs,oo n r) (hl:(rs.flatMap (dX (eh n))).length<=1000):
  aO fs 59 23 [.tup (aa rs)] none= .ok (.bl true,none)/\aO fs 59 23 [.tup (aa (rs.take 1))] none= .ok (.bl true,none):=by
 have t:=λ(rs:List Mx.D) h hl=>Ba (d:= .tup rs) hn ⟨rs,rfl,h⟩ (by rw[eh];exact hl)
 simp only[ofD] at t;refine⟨t rs h hl,t (rs.take 1) (λr hr=>h r (List.mem_of_mem_take hr)) (Pj ?_ hl)⟩;cases rs with
 | nil=>simp
 | cons r rs=>simp
theorem Jz (ds:List Dt):cutD ds none (some 1)=ds.take 1:=by
 cases ds with
 | nil=>rfl
 | cons d ds=>unfold Rx.cutD;rw[HT.yf,show HT.bA (d::ds).length (d::ds).length (some 1)=min 1 (d::ds).length from HT.A2 _ _ 1];simp
noncomputable def tail:Ts:=(.cons (.ret (.and (.call 23 (.cons (.var 3) .nil) []) (.and (.call 23 (.cons (.tup .nil) .nil) []) (.call 23 (.cons (.sliH (.var 3) (.con (.int 1))) .nil) [])))) .nil)
theorem tX {rs:List Mx.D} {n:Nat} {x0 x1 x2 x4:Option Dt} (hn:n<=5) (h:∀r∈rs,oo n r) (hl:(rs.flatMap (dX (eh n))).length<=1000):fin (aR (aO fs 59) tail [x0,x1,x2,some (.tup (aa rs)),x4] none)= .ok (.bl true,none):=by
 obtain⟨t1,t2⟩:=l8 hn h hl;have t0:=(l8 (rs:=[]) (n:=0) (by decide) (by simp) (by simp)).1;have hs:iA (.tup (aa rs)) none (some 1)= .ok (.tup (aa (rs.take 1))):=by show R.ok (Dt.tup (cutD (aa rs) none (some 1)))=_;rw[Jz,a6,a6,List.map_take]
 rw[aa] at t0;exact aq (by simp only[RX,t1,t0,hs,t2])
theorem law_true:∀ns:List Int,ns.length<=63->∃S,aO fs (59 + 1) 24 [.bE ns] none= .ok (.bl true,S):=by
 intro ns _;have fm:lim=1000000:=rfl;obtain⟨⟨a,b,c,v11⟩,_⟩:=tm 59 (by decide) ns 0 (by decide);obtain⟨_,⟨a',b',c',IT⟩⟩:=tm 59 (by decide) ns 7 (by decide);obtain⟨t,OA,ht⟩:=A9 (fs:=fs) (ip:=9) (ix:=13) (it:=14) sM rfl rfl (ns:=ns) (a:=a) (b:=b) (c:=c) (a':=a') (b':=b') (c':=c') 3 (N:=59) (k:=20) (by decide) (by decide);obtain⟨rs,MQ,Kn,hw⟩:=yB (fs:=fs) (ii:=15) (ig:=16) rfl rfl (n:=4) (N:=59) (g:=3) (by decide) (by decide) (by decide) (by decide) ht;have v8:aO fs 59 8 [.bE ns,.int 1] none=_:=mB (fs:=fs) (ic:=8) rfl (n:=59) (by decide) (ns:=ns) (k:=1) (by decide);generalize f7 ns 1=y at v8;have m1:=b9 (i:=y) (j:=1000000000000000) (by decide);have r1:=PU y (b:=1000000000000000) (by decide);have r2:=PV y (b:=1000000000000000) (by decide);generalize hk:1 + y % 1000000000000000=k;have v9:aO fs 59 9 [.bE ns,.int 2,.int 2] none=_:=nB (fs:=fs) sM (n:=59) (by decide) (ns:=ns) (k:=2) (many:=2) (by decide) (by decide);generalize bT ns 2 2=p at v9;have LG:aO fs 59 11 [.bE ns,.int 0] none=_:=v11;have LH:aO fs 59 12 [.bE ns,.int 7] none=_:=IT;have LI:aO fs 59 14 [.bE ns,.int 20,.int 3,.lst [.str a,.str b,.str c],.lst [.str a',.str b',.str c']] none=_:=OA;have EN:rs.length<=85:=Pj (kz (n:=3) λr hr=>by obtain⟨it,c,e,h1,h2,h3⟩:=Kn r hr;exact⟨it,c,e,h1,by lia⟩) hw;have zf:∀r∈rs,∃it c,r= .tup [it,.int c]/\eF (eM 3) it/\(k * c).natAbs < 2 ^ 64:=λr hr=>by
  obtain⟨it,c,e,h1,h2,h3⟩:=Kn r hr;refine⟨it,c,e,h1,?_⟩;have b1:k * c<=k * 1000:=Int.mul_le_mul_of_nonneg_left h3 (by lia);have b0:0<=k * c:=Int.mul_nonneg (by lia) h2
  lia
 have hG:∀r∈rs.map (EV k),oo 3 r:=λr hr=>by obtain⟨q,hq,rfl⟩:=PP.mp hr;obtain⟨it,c,rfl,h1,h2⟩:=zf q hq;exact⟨it,k * c,rfl,h1,h2⟩
 have hW:((rs.map (EV k)).flatMap (dX (eh 3))).length<=85:=by
  refine Pj (Nat.le_of_eq ?_) hw;clear hG hw MQ EN Kn
  induction rs with
  | nil=>rfl
  | cons r rs ih=>obtain⟨it,c,rfl,_⟩:=zf r Pe;rw[P1,List.flatMap_cons,List.flatMap_cons,Po,Po,ih λr hr=>zf r (Pb _ hr)];rfl
 have comp:=bK (F:=aO fs 59) (ρ:=[some (.bE ns),some (.lst [.str a,.str b,.str c]),some (.lst [.str a',.str b',.str c']),some (.tup (aa rs)),some (.int k)]) (S:=none) (S1:=none) (S2:=none) (cap:=[none,none,none,some 4]) (it:= .seq (.var 3)) (tg:= .tp [1,2]) (cs:= .nil) (e:= .tup (.cons (.var 1) (.cons (.bin .Mult (.var 3) (.var 2)) .nil))) (ds:=aa rs) (out:=aa (rs.map (EV k))) (by simp only[RX]) (by rw[aj];lia) rfl (by
  rw[d7 (λr=>[ofD (EV k r)]) λr hr=>?_]
  ·rw[e9,a6,List.map_map];rfl
  ·obtain⟨it,c,rfl,h1,h2⟩:=zf r hr;have mm:=a8 (i:=k) (j:=c) (.inl (by lia));exact dg (ρ1:=[none,some (ofD it),some (.int c),some (.int k)]) (by simp[ofD,aa,bU,df,fT]) (by simp only[RX,mm];simp[EV,ofD,aa]) (by simp[bx,gB]))
 generalize hqs:rs.map (EV k)=qs at *;refine⟨none,aG (body:=Jw) rfl (by decide) rfl ?_⟩;show fin (aR (aO fs 59) Jw [some (.bE ns),none,none,none,none] none)=_;refine az (d:= .lst [.str a,.str b,.str c]) (S1:=none) (by simp only[RX,LG]) rfl (az (d:= .lst [.str a',.str b',.str c']) (S1:=none) (by simp only[RX,LH]) rfl (az (d:= .tup (aa rs)) (S1:=none) (by simp only[RX,LI,MQ]) rfl (az (d:= .int k) (S1:=none) (by simp only[RX,v8,HD,m1,hk]) rfl (az (d:= .tup (aa qs)) (S1:=none) (Bm comp rfl) rfl ?_))));by_cases hp:p=0
 ·subst hp;have hF:eM 4 (.tup qs):=⟨qs,rfl,hG⟩;have h0:eM 4 (.tup []):=⟨[],rfl,by simp⟩;have R1:oo 4 (.tup [ofT a' [.tup qs,.tup []],.int k]):=⟨_,_,rfl,.inr ⟨a',_,rfl,by simp,λp hp=>by
   rcases Pk.mp hp with rfl | hp
   ·exact hF
   ·rw[PN] at hp;subst hp;exact h0⟩,by lia⟩
  have R2:oo 4 (.tup [cJ b,.int 2]):=⟨_,_,rfl,.inl ⟨b,rfl⟩,by decide⟩;generalize hl:[Mx.D.tup [ofT a' [.tup qs,.tup []],.int k],.tup [cJ b,.int 2]]=l;have hR:∀r∈l,oo 4 r:=λr hr=>by
   subst hl;rcases Pk.mp hr with rfl | hr
   ·exact R1
   ·rw[PN] at hr;subst hr;exact R2
  have OT:l.length=2:=by subst hl;rfl
  have CG:gS l=true:=vY .tt (by lia) (d8 λd hd=>by
    obtain⟨it,c,rfl,hi,_⟩:=hR d hd;have:=eX (n:=4 * 4 + 2) (λd hd=>oG hd) rfl hi;simp[Mx.D.dep,Mx.D.cn]
    lia) (λd hd=>by
    obtain⟨it,c,rfl,hi,_⟩:=hR d hd;rcases hi with ⟨x,rfl⟩ | ⟨x,ps,rfl,_⟩ <;> rfl) λd hd e he=>by
    obtain⟨it,c,rfl,hi,_⟩:=hR d hd;obtain⟨jk,c',rfl,Bz,_⟩:=hR e he;simp only[kW,ib,Bool.and_true];exact nc (λp q hp hq=>C9 hp hq) hi Bz
  have hs:=(fI CG).1;have ES:((aJ l).flatMap (dX (eh 4))).length<=1000:=by
   rw[List.length_flatMap,((br l).map _).sum_nat];subst hl;simp only[P1,List.map_nil,List.sum_cons,List.sum_nil,rf,wI];have e1:aF (ofT a' [.tup qs,.tup []])=[.tup qs,.tup []]:=rfl;have e2:aF (cJ b)=[]:=rfl;rw[e1,e2];simp only[List.flatMap_cons,List.flatMap_nil,PX,Po,List.length_nil];rw[eh,eh,List.flatMap_nil,List.length_nil]
   lia
  have BA:cP (.lst [.str a',.str b',.str c']) (.int 0)= .ok (.str a'):=rfl;have NJ:cP (.lst [.str a,.str b,.str c]) (.int 1)= .ok (.str b):=rfl;have el:aa l=[.tup [.tup [.str "of",.str a',.tup [.tup (aa qs),.tup []]],.int k],.tup [.tup [.str "any",.str b],.int 2]]:=by subst hl;simp[aa,ofD,ofT,cJ]
  rw[el] at hs;refine dy (S1:=none) (by simp only[RX,v9];rfl) (az (d:= .tup (aa (aJ l))) (S1:=none) (by simp only[RX,BA,NJ,hs]) rfl (tX (n:=4) (by decide) (λr hr=>hR r (cA.mp hr)) ES))
 ·have e0:((p:Int)==0)=false:=by simpa using hp
  exact bQ (S1:=none) (by simp only[RX,v9,e0]) (tX (n:=3) (by decide) hG (by lia))
end K03
end
section
namespace PySem.W.Fast
theorem tw1582868911220149478:True:=⟨⟩
theorem tw2800529887389639035:True:=⟨⟩
theorem tw11735251669223110507:True:=⟨⟩
theorem tw962732816449614687:True:=⟨⟩
theorem tw11621713354125361958:True:=⟨⟩
theorem tw17648706058695261456:True:=⟨⟩
theorem tw10741966988500723495:True:=⟨⟩
theorem tw14994679481958259409:True:=⟨⟩
theorem tw6447687869179261526:True:=⟨⟩
theorem tw6895008807492138881:True:=⟨⟩
theorem tw5872430366062765704:True:=⟨⟩
theorem tw11468230957548104878:True:=⟨⟩
theorem tw15923735802183927240:True:=⟨⟩
theorem tw6243407108261203207:True:=⟨⟩
theorem tw16379222560166733319:True:=⟨⟩
theorem tw17332162762977414304:True:=⟨⟩
theorem tw6676800865114571350:True:=⟨⟩
theorem tw11941408071589950911:True:=⟨⟩
theorem tw17130169393025408157:True:=⟨⟩
theorem tw5529249683283158114:True:=⟨⟩
theorem tw17181629801359113751:True:=⟨⟩
theorem tw6503654869481635291:True:=⟨⟩
theorem tw10143023373537120205:True:=⟨⟩
theorem tw11580773233334801289:True:=⟨⟩
theorem tw11982059083776387386:True:=⟨⟩
theorem tw16887243518355313792:True:=⟨⟩
theorem tw7016213619448484805:True:=⟨⟩
theorem tw13125921135795217475:True:=⟨⟩
theorem tw3700389865850893951:True:=⟨⟩
theorem tw654126365191975866:True:=⟨⟩
theorem tw18239169495804197492:True:=⟨⟩
theorem tw6545806010923201406:True:=⟨⟩
theorem tw4254022401775205687:True:=⟨⟩
theorem tw18187004521976783986:True:=⟨⟩
theorem tw16289482378057735144:True:=⟨⟩
theorem tw2734548208260639933:True:=⟨⟩
theorem tw16022668683258683149:True:=⟨⟩
theorem tw9413184875347728541:True:=⟨⟩
theorem tw6478309054449339217:True:=⟨⟩
theorem tw2060455863949512613:True:=⟨⟩
theorem tw12135598108177762575:True:=⟨⟩
theorem tw12349359595325420952:True:=⟨⟩
theorem tw7696107740271554186:True:=⟨⟩
theorem tw4505556639347468160:True:=⟨⟩
theorem tw12667596031737164538:True:=⟨⟩
theorem tw818999157185858062:True:=⟨⟩
theorem tw3204835544005448859:True:=⟨⟩
theorem tw5566552939204325313:True:=⟨⟩
theorem tw12046635368893146048:True:=⟨⟩
theorem tw7764554204764708899:True:=⟨⟩
theorem tw7927442182442880265:True:=⟨⟩
theorem tw2530836821352328451:True:=⟨⟩
theorem tw13783082402867387059:True:=⟨⟩
theorem tw9683482078803863698:True:=⟨⟩
theorem tw7461245888515523839:True:=⟨⟩
theorem tw16446483132797542013:True:=⟨⟩
theorem tw11274145715321379683:True:=⟨⟩
theorem tw6891427881677120481:True:=⟨⟩
theorem tw13971329796971640403:True:=⟨⟩
theorem tw6743280713771669380:True:=⟨⟩
theorem tw658841109910859641:True:=⟨⟩
theorem tw12192128166044417534:True:=⟨⟩
theorem tw5735835111445501180:True:=⟨⟩
theorem tw8751195174309421069:True:=⟨⟩
theorem tw1144259696209607350:True:=⟨⟩
theorem tw11235931294271734366:True:=⟨⟩
theorem tw17819505438605715293:True:=⟨⟩
theorem tw1422617513276475494:True:=⟨⟩
theorem tw242129980080716886:True:=⟨⟩
theorem tw7810222391923650358:True:=⟨⟩
theorem tw2657816143841182109:True:=⟨⟩
theorem tw1113548305951120132:True:=⟨⟩
theorem tw576208699578055284:True:=⟨⟩
theorem tw5533539711744301081:True:=⟨⟩
theorem tw5425402897717199419:True:=⟨⟩
theorem tw4086024939391069635:True:=⟨⟩
theorem tw11218548179330236377:True:=⟨⟩
theorem tw10986090784196875768:True:=⟨⟩
theorem tw12347344131367043594:True:=⟨⟩
theorem tw9445934888408860237:True:=⟨⟩
end PySem.W.Fast
open PySem PySem.W PyProof.Rows Rx
set_option maxHeartbeats 0 in
theorem PySem.Challenge.cw_mixform_k03_measures_holds : PySem.Challenge.rw_mixform_k03_measures.Holds := by
 w_on;o_law;k_head;(case hw=>w_witness2)
 k_fill
 refine walkR (k:=60) (l:=PySem.Challenge.rw_mixform_k03_measures) rfl rfl ⟨rfl,by decide,by decide⟩ (λw h Y=>kIn_of Y) ?F
 case F=>
  intro w mg fa h KX G hmg;refine law_mk (rs:=K03.rows) (cons:=K03.cons) (bls:=K03.bls) (xs:=K03.xs) (L:=24) (n:=59) KX G hmg rfl K03.hok K03.hfs (λs v _ _ _ _ _ _=> .of_eq rfl) K03.law_true ?B ?C ?D ?E
  case B=>exact⟨by k_is,by k_is,by k_is,by k_is,by k_is,by k_is,by k_is,by k_is,by k_is,by k_is,by k_is,by k_is,by k_is,by k_is,trivial⟩
  case C=>exact trivial
  case D=>
   refine⟨?_,?_,?_,?_,?_,?_,?_,?_,?_,?_,?_,?_,?_,?_,?_,?_,?_,?_,?_,?_,?_,?_,?_,?_,?_,trivial⟩
   all_goals exact⟨_,_,_,_,_,_,_,_,_,_,_,by k_is,by k_is,by k_is,by k_is,λ_=>rfl,binds0 (by repeat first | exact len0 rfl | refine lenS λ_=>?_)⟩
  case E=>exact trivial
#print axioms PySem.Challenge.cw_mixform_k03_measures_holds
end